import Derived.Test.YtdoefndppoglfaaH3
import Derived.ProofKit
import Derived.Laws.Cover2
import Derived.Deep.Slices
import Derived.WalkLawsBesides
import Derived.Maps.OwnSet
namespace Go.Proofs.Ytdoefndppoglfaa
open Go Go.ChangeShapes Go.WideShapes Go.ChangeAt Go.RowKit
open Go.Joins
open Go.Maps
set_option linter.unusedVariables false
/-! ### which graphs are right -/
def nodeW (d : Nd) : Bool := wordB d.name && (risingB d.labels && propsB d.props)
def edgeW (n : Nat) (d : Ed) : Bool := (wordB d.name && (risingB d.labels && propsB d.props)) && (placeB d.fro n && placeB d.to n)
def distB (l : List ByteArray) : Bool := decide (Maps.size (Dn l l.length) = l.length)
theorem distB_iff (l : List ByteArray) : distB l = true ↔ ∀ i, i < l.length → findB l l[i]! = i := by
  unfold distB
  rw [decide_eq_true_eq, Dn_size]
  constructor
  · intro h i hi
    refine findB_at hi (by rw [getElem!_pos l i hi]) (fun j hj e => h i hi j hj ?_)
    rw [getElem!_pos l j (by omega)]
    exact e
  · intro h i hi j hj e
    have hf := h i hi
    rcases findB_cases l l[i]! with ⟨h1, h2⟩ | ⟨k, hk, h1, h2, h3⟩
    · rw [h1] at hf; omega
    · rw [h1] at hf
      have : k = i := by omega
      subst this
      refine h3 j hj ?_
      rw [← getElem!_pos l j (by omega)]
      exact e
theorem endsB_eq (n : Nat) (d : Ed) : endsB n d = (placeB d.fro n && placeB d.to n) := by
  unfold endsB placeB
  rw [Bool.eq_iff_iff]
  simp
  omega
theorem nodesB_eq (g : Gd) : nodesB g g.nodes.length = (g.nodes.all nodeW && distB (namesN g)) := by
  rw [Bool.eq_iff_iff, Bool.and_eq_true, distB_iff]
  unfold nodesB
  rw [List.all_eq_true, List.all_eq_true]
  have hl : (namesN g).length = g.nodes.length := by simp [namesN]
  have hn : ∀ i (h : i < g.nodes.length), (namesN g)[i]! = g.nodes[i].name := fun i h => by
    rw [getElem!_pos _ i (by rw [hl]; exact h)]
    simp [namesN]
  constructor
  · intro h
    refine ⟨fun d hd => ?_, fun i hi => ?_⟩
    · obtain ⟨i, hi, rfl⟩ := List.mem_iff_getElem.1 hd
      have := h i (List.mem_range.2 hi)
      rw [getElem!_pos g.nodes i hi] at this
      unfold nodeB at this
      unfold nodeW
      simp only [Bool.and_eq_true] at this ⊢
      exact ⟨this.1, this.2.1, this.2.2.1⟩
    · rw [hl] at hi
      have := h i (List.mem_range.2 hi)
      rw [getElem!_pos g.nodes i hi] at this
      unfold nodeB at this
      simp only [Bool.and_eq_true, decide_eq_true_eq] at this
      rw [hn i hi]
      exact this.2.2.2
  · rintro ⟨h1, h2⟩ i hi
    rw [List.mem_range] at hi
    have a1 := h1 g.nodes[i] (List.getElem_mem hi)
    have a2 := h2 i (by rw [hl]; exact hi)
    rw [hn i hi] at a2
    rw [getElem!_pos g.nodes i hi]
    unfold nodeW at a1
    unfold nodeB
    simp only [Bool.and_eq_true, decide_eq_true_eq] at a1 ⊢
    exact ⟨a1.1, a1.2.1, a1.2.2, a2⟩
theorem edgesB_eq (g : Gd) : edgesB g g.edges.length = (g.edges.all (edgeW g.nodes.length) && distB (namesD g)) := by
  rw [Bool.eq_iff_iff, Bool.and_eq_true, distB_iff]
  unfold edgesB
  rw [List.all_eq_true, List.all_eq_true]
  have hl : (namesD g).length = g.edges.length := by simp [namesD]
  have hn : ∀ i (h : i < g.edges.length), (namesD g)[i]! = g.edges[i].name := fun i h => by
    rw [getElem!_pos _ i (by rw [hl]; exact h)]
    simp [namesD]
  constructor
  · intro h
    refine ⟨fun d hd => ?_, fun i hi => ?_⟩
    · obtain ⟨i, hi, rfl⟩ := List.mem_iff_getElem.1 hd
      have := h i (List.mem_range.2 hi)
      rw [getElem!_pos g.edges i hi] at this
      unfold edgeB at this
      rw [endsB_eq] at this
      unfold edgeW
      simp only [Bool.and_eq_true] at this ⊢
      exact ⟨⟨this.1, this.2.1, this.2.2.1⟩, this.2.2.2.1⟩
    · rw [hl] at hi
      have := h i (List.mem_range.2 hi)
      rw [getElem!_pos g.edges i hi] at this
      unfold edgeB at this
      simp only [Bool.and_eq_true, decide_eq_true_eq] at this
      rw [hn i hi]
      exact this.2.2.2.2
  · rintro ⟨h1, h2⟩ i hi
    rw [List.mem_range] at hi
    have a1 := h1 g.edges[i] (List.getElem_mem hi)
    have a2 := h2 i (by rw [hl]; exact hi)
    rw [hn i hi] at a2
    rw [getElem!_pos g.edges i hi]
    unfold edgeW at a1
    unfold edgeB
    rw [endsB_eq]
    simp only [Bool.and_eq_true, decide_eq_true_eq] at a1 ⊢
    exact ⟨a1.1.1, a1.1.2.1, a1.1.2.2, a1.2, a2⟩
theorem take_all {α : Type} [Inhabited α] {l : List α} {p : α → Bool} {i : Nat} (hi : i < l.length) (h : (l.take i).all p = true) (e : p l[i] = true) : (l.take (i + 1)).all p = true := by
  rw [List.take_succ_eq_append_getElem hi, List.all_append, h]
  simp [e]
theorem all_no {α : Type} [Inhabited α] {l : List α} {p : α → Bool} {i : Nat} (hi : i < l.length) (e : p l[i] = false) : l.all p = false := by
  rw [Bool.eq_false_iff]
  intro ha
  have := List.all_eq_true.1 ha l[i] (List.getElem_mem hi)
  rw [e] at this
  cases this
set_option maxRecDepth 100000 in
set_option maxHeartbeats 4000000 in
theorem areN_any (ds : List Nd) (xs : List Nx) (v : Value) (w : World) (h : RwN w v xs) (k : Ns w ds xs) (hn : ds.length ≤ 1000) :
    Calls Try.prog 40 #[v] w fun e w' => e = .returned (.bool (ds.all nodeW && distB (ds.map Nd.name))) ∧ Below w.heap.size w w' := by
  have hL : ∃ ao L cap, v = .slice ao L cap ∧ xs.length = L := by
    obtain ⟨a, c, e, e1, e2, -⟩ := h
    exact ⟨a, _, c, e, rfl⟩
  obtain ⟨ao, L, cap, rfl, hL⟩ := hL
  have hN : ds.length = L := k.1.trans hL
  have HR := Lib.hid h
  have HK := Lib.hid k
  have HL := Lib.hid hL
  have HN := Lib.hid hN
  have HN1 := Lib.hid hn
  have hL1 : L ≤ 1000 := by omega
  clear h k hL hN hn
  go_enter Try.func40, Try.ntmps40
  go_wp2_with fail
  go_loopg [4, 7] L (fun g s4 s7 wr => ∃ i : Nat, g + i = L ∧ s7 = .int .i64 i ∧ (ds.take i).all nodeW = true ∧ Below w.heap.size w wr)
  case atStart => exact ⟨0, rfl, rfl, rfl, Below.refl _ _⟩
  case round =>
    obtain ⟨i, hg, rfl, hy, hb⟩ := hrel
    by_cases hlt : i < L
    · have ii : (i : Int) < (L : Int) := by omega
      have hi : i < xs.length := by rw [HL.out]; exact hlt
      have hi' : i < ds.length := by rw [HN.out]; exact hlt
      obtain ⟨b, o, rfl, hc⟩ := RwN.at (HR.out.keep hb) i hi
      obtain ⟨q0, q1, q2⟩ := hc i hi
      obtain ⟨z0, z1, z2, z3, z4, z5⟩ := (HK.out.keep hb).2 i hi' hi
      have HB := Lib.hid hb
      have HT := Lib.hid (show nodeW ds[i] = true → (ds.take (i + 1)).all nodeW = true from take_all hi' hy)
      have HF := Lib.hid (show nodeW ds[i] = false → ds.all nodeW = false from all_no hi')
      clear hc hb hy
      generalize ds[i] = d at *
      generalize xs[i] = x at *
      obtain ⟨xn, ⟨xla, xln, xlc⟩, ⟨xpa, xpn, xpc⟩⟩ := x
      obtain ⟨dn, dl, dp⟩ := d
      dsimp only [nodeW] at z0 z1 z2 z3 z4 z5 q0 q1 q2 HT HF
      subst z0
      have C := Lib.hid (fun w' (hb' : Below wr.heap.size wr w') => iselement_any xn dl dp _ _ w' (z1.keep hb') (z2.keep hb') z3)
      have VX := Lib.hid (Vr.new wr 43 #[.string xn, .slice xla xln xlc, .slice xpa xpn xpc])
      have B2 := below_a1 wr (.cells #[.string xn, .slice xla xln xlc, .slice xpa xpn xpc] 43)
      have C2 := Lib.hid (C.out _ B2)
      have HB2 := Lib.hid (Below.chain HB.out B2)
      clear C B2 z1 z2 z3
      generalize (wordB xn && (risingB dl && propsB dp)) = t1 at *
      cases t1
      · have HF2 := Lib.hid (HF.out rfl)
        go_wp2_with fail
        (with_reducible refine C2.out.mono ?_); rintro e w2 ⟨rfl, hb2⟩
        go_wp2_with fail
        go_ret
        exact ⟨by rw [HF2.out]; rfl, Below.chain HB2.out hb2⟩
      · have HT2 := Lib.hid (HT.out rfl)
        go_wp2_with fail
        (with_reducible refine C2.out.mono ?_); rintro e w2 ⟨rfl, hb2⟩
        go_wp2_with fail
        go_roundg (L - (i + 1))
        case rel => exact ⟨i + 1, by omega, by go_num, HT2.out, Below.chain HB2.out hb2⟩
        case measure => omega
    · obtain rfl : L = i := by omega
      have ii : ¬ ((L : Int) < (L : Int)) := by omega
      have ht : ds.take L = ds := List.take_of_length_le (by rw [HN.out]; exact Nat.le_refl _)
      rw [ht] at hy
      have HW := Lib.hid (show ∀ d ∈ ds, wordB d.name = true from fun d hd => by
        have := List.all_eq_true.1 hy d hd
        unfold nodeW at this
        simp only [Bool.and_eq_true] at this
        exact this.1)
      have P := Lib.hid (placesN_any ds xs _ wr (HR.out.keep hb) (HK.out.keep hb) HN1.out HW.out)
      have HB := Lib.hid hb
      have HD := Lib.hid (show (ds.all nodeW && distB (ds.map Nd.name)) = ((Maps.size (Dn (ds.map Nd.name) L) : Int) == (L : Int)) by
        unfold distB
        rw [hy, Bool.true_and, List.length_map, HN.out, Bool.eq_iff_iff, decide_eq_true_eq, beq_iff_eq]
        omega)
      clear ht hb hy
      rw [HN.out] at P
      go_wp2_with fail
      (with_reducible refine P.out.mono ?_); rintro e w2 ⟨bm, rfl, -, hm, hb2⟩
      have HM := Lib.hid hm
      have HB3 := Lib.hid (Below.chain HB.out hb2)
      clear hm hb2
      go_wp2_with (at_len; refine wpList_len_own _ rfl _ 76 rfl 9 3 Try.underlying76 _ bm L _ rfl HM.out ?_)
      go_ret
      exact ⟨by rw [HD.out]; rfl, HB3.out⟩
set_option maxRecDepth 100000 in
set_option maxHeartbeats 4000000 in
theorem areD_any (ds : List Ed) (xs : List Dx) (v : Value) (n : Nat) (w : World) (h : RwD w v xs) (k : Ds w ds xs) (hn : ds.length ≤ 1000) :
    Calls Try.prog 41 #[v, .int .i64 n] w fun e w' => e = .returned (.bool (ds.all (edgeW n) && distB (ds.map Ed.name))) ∧ Below w.heap.size w w' := by
  have hL : ∃ ao L cap, v = .slice ao L cap ∧ xs.length = L := by
    obtain ⟨a, c, e, e1, e2, -⟩ := h
    exact ⟨a, _, c, e, rfl⟩
  obtain ⟨ao, L, cap, rfl, hL⟩ := hL
  have hN : ds.length = L := k.1.trans hL
  have HR := Lib.hid h
  have HK := Lib.hid k
  have HL := Lib.hid hL
  have HN := Lib.hid hN
  have HN1 := Lib.hid hn
  have hL1 : L ≤ 1000 := by omega
  clear h k hL hN hn
  go_enter Try.func41, Try.ntmps41
  go_wp2_with fail
  go_loopg [6, 9] L (fun g s6 s9 wr => ∃ i : Nat, g + i = L ∧ s9 = .int .i64 i ∧ (ds.take i).all (edgeW n) = true ∧ Below w.heap.size w wr)
  case atStart => exact ⟨0, rfl, rfl, rfl, Below.refl _ _⟩
  case round =>
    obtain ⟨i, hg, rfl, hy, hb⟩ := hrel
    by_cases hlt : i < L
    · have ii : (i : Int) < (L : Int) := by omega
      have hi : i < xs.length := by rw [HL.out]; exact hlt
      have hi' : i < ds.length := by rw [HN.out]; exact hlt
      obtain ⟨b, o, rfl, hc⟩ := RwD.at (HR.out.keep hb) i hi
      obtain ⟨q0, q1, q2, q3, q4, q5⟩ := hc i hi
      obtain ⟨z0, z1, z2, z3, z4, z5, z6, z7, z8, z9, zA⟩ := (HK.out.keep hb).2 i hi' hi
      have HB := Lib.hid hb
      have HT := Lib.hid (show edgeW n ds[i] = true → (ds.take (i + 1)).all (edgeW n) = true from take_all hi' hy)
      have HF := Lib.hid (show edgeW n ds[i] = false → ds.all (edgeW n) = false from all_no hi')
      clear hc hb hy
      generalize ds[i] = d at *
      generalize xs[i] = x at *
      obtain ⟨xn, xf, xt, xd, ⟨xla, xln, xlc⟩, ⟨xpa, xpn, xpc⟩⟩ := x
      obtain ⟨dn, df, dt, dd, dl, dp⟩ := d
      dsimp only [edgeW] at z0 z1 z2 z3 z4 z5 z6 z7 z8 z9 zA q0 q1 q2 q3 q4 q5 HT HF
      subst z0 z1 z2 z3
      have C := Lib.hid (fun w' (hb' : Below wr.heap.size wr w') => iselement_any xn dl dp _ _ w' (z6.keep hb') (z7.keep hb') z8)
      have VX := Lib.hid (Vr.new wr 45 #[.string xn, .int .i64 xf, .int .i64 xt, .bool xd, .slice xla xln xlc, .slice xpa xpn xpc])
      have B2 := below_a1 wr (.cells #[.string xn, .int .i64 xf, .int .i64 xt, .bool xd, .slice xla xln xlc, .slice xpa xpn xpc] 45)
      have C2 := Lib.hid (C.out _ B2)
      have HB2 := Lib.hid (Below.chain HB.out B2)
      clear C B2 z6 z7 z8
      generalize (wordB xn && (risingB dl && propsB dp)) = t1 at *
      have D1 := Lib.hid (isplace_any xf n)
      have D2 := Lib.hid (isplace_any xt n)
      generalize placeB xf n = t2 at *
      generalize placeB xt n = t3 at *
      cases t1
      · have HF2 := Lib.hid (HF.out rfl)
        go_wp2_with fail
        (with_reducible refine C2.out.mono ?_); rintro e w2 ⟨rfl, hb2⟩
        go_wp2_with fail
        go_ret
        exact ⟨by rw [HF2.out]; rfl, Below.chain HB2.out hb2⟩
      cases t2
      · have HF2 := Lib.hid (HF.out rfl)
        go_wp2_with fail
        (with_reducible refine C2.out.mono ?_); rintro e w2 ⟨rfl, hb2⟩
        have v1 := (VX.out.keep hb2).cell 1
        simp only [List.getElem?_toArray, List.getElem?_cons_zero, List.getElem?_cons_succ] at v1
        go_wp2_with fail
        (with_reducible refine (D1.out _).mono ?_); rintro e w3 ⟨rfl, rfl⟩
        go_wp2_with fail
        go_ret
        exact ⟨by rw [HF2.out]; rfl, Below.chain HB2.out hb2⟩
      cases t3
      · have HF2 := Lib.hid (HF.out rfl)
        go_wp2_with fail
        (with_reducible refine C2.out.mono ?_); rintro e w2 ⟨rfl, hb2⟩
        have v1 := (VX.out.keep hb2).cell 1
        have v2 := (VX.out.keep hb2).cell 2
        simp only [List.getElem?_toArray, List.getElem?_cons_zero, List.getElem?_cons_succ] at v1 v2
        go_wp2_with fail
        (with_reducible refine (D1.out _).mono ?_); rintro e w3 ⟨rfl, rfl⟩
        go_wp2_with fail
        (with_reducible refine (D2.out _).mono ?_); rintro e w3 ⟨rfl, rfl⟩
        go_wp2_with fail
        go_ret
        exact ⟨by rw [HF2.out]; rfl, Below.chain HB2.out hb2⟩
      · have HT2 := Lib.hid (HT.out rfl)
        go_wp2_with fail
        (with_reducible refine C2.out.mono ?_); rintro e w2 ⟨rfl, hb2⟩
        have v1 := (VX.out.keep hb2).cell 1
        have v2 := (VX.out.keep hb2).cell 2
        simp only [List.getElem?_toArray, List.getElem?_cons_zero, List.getElem?_cons_succ] at v1 v2
        go_wp2_with fail
        (with_reducible refine (D1.out _).mono ?_); rintro e w3 ⟨rfl, rfl⟩
        go_wp2_with fail
        (with_reducible refine (D2.out _).mono ?_); rintro e w3 ⟨rfl, rfl⟩
        go_wp2_with fail
        go_roundg (L - (i + 1))
        case rel => exact ⟨i + 1, by omega, by go_num, HT2.out, Below.chain HB2.out hb2⟩
        case measure => omega
    · obtain rfl : L = i := by omega
      have ii : ¬ ((L : Int) < (L : Int)) := by omega
      have ht : ds.take L = ds := List.take_of_length_le (by rw [HN.out]; exact Nat.le_refl _)
      rw [ht] at hy
      have HW := Lib.hid (show ∀ d ∈ ds, wordB d.name = true from fun d hd => by
        have := List.all_eq_true.1 hy d hd
        unfold edgeW at this
        simp only [Bool.and_eq_true] at this
        exact this.1.1)
      have P := Lib.hid (placesD_any ds xs _ wr (HR.out.keep hb) (HK.out.keep hb) HN1.out HW.out)
      have HB := Lib.hid hb
      have HD := Lib.hid (show (ds.all (edgeW n) && distB (ds.map Ed.name)) = ((Maps.size (Dn (ds.map Ed.name) L) : Int) == (L : Int)) by
        unfold distB
        rw [hy, Bool.true_and, List.length_map, HN.out, Bool.eq_iff_iff, decide_eq_true_eq, beq_iff_eq]
        omega)
      clear ht hb hy
      rw [HN.out] at P
      go_wp2_with fail
      (with_reducible refine P.out.mono ?_); rintro e w2 ⟨bm, rfl, -, hm, hb2⟩
      have HM := Lib.hid hm
      have HB3 := Lib.hid (Below.chain HB.out hb2)
      clear hm hb2
      go_wp2_with (at_len; refine wpList_len_own _ rfl _ 76 rfl 9 3 Try.underlying76 _ bm L _ rfl HM.out ?_)
      go_ret
      exact ⟨by rw [HD.out]; rfl, HB3.out⟩
set_option maxRecDepth 100000 in
set_option maxHeartbeats 4000000 in
/-- Right: which error a graph in memory tells -/
theorem right7_core (g : Gd) (xs : List Nx) (ys : List Dx) (ns es : Sl) (w : World) (h : RwN w ns.v xs) (h' : RwD w es.v ys) (k : Ns w g.nodes xs) (k' : Ds w g.edges ys) :
    Calls Try.prog 12 #[.agg #[ns.v, es.v]] w fun e w' => e = .returned (.int .i64 (rightG g)) ∧ Below w.heap.size w w' := by
  have l1 := h.hd
  have l2 := h'.hd
  have n1 := k.1
  have n2 := k'.1
  obtain ⟨ao, L, cap⟩ := ns
  obtain ⟨bo, M, cbp⟩ := es
  dsimp only at l1 l2
  have B0 := below_a1 w (.cells #[(Sl.v ⟨ao, L, cap⟩), (Sl.v ⟨bo, M, cbp⟩)] 25)
  have VG := Lib.hid (Vr.new w 25 #[(Sl.v ⟨ao, L, cap⟩), (Sl.v ⟨bo, M, cbp⟩)])
  by_cases hl : L ≤ 1000
  · by_cases hm : M ≤ 1000
    · have i1 : ¬ ((L : Int) > 1000) := by omega
      have i2 : ¬ ((M : Int) > 1000) := by omega
      have hL : g.nodes.length = L := n1.trans l1.1
      have hM : g.edges.length = M := n2.trans l2.1
      have HG := Lib.hid (show rightG g = if (g.nodes.all nodeW && distB (g.nodes.map Nd.name)) && (g.edges.all (edgeW L) && distB (g.edges.map Ed.name)) then 0 else 1 by
        unfold rightG
        rw [if_neg (by omega), nodesB_eq, edgesB_eq, hL]
        rfl)
      have C1 := Lib.hid (areN_any g.nodes xs _ _ (h.keep B0) (k.keep B0) (by omega))
      have C2 := Lib.hid (fun w' hb' => areD_any g.edges ys _ L w' ((h'.keep B0).keep (w' := w') hb') ((k'.keep B0).keep hb') (by omega))
      clear h h' k k' l1 l2 n1 n2 hL hM
      dsimp only [Sl.v] at VG B0 C1 C2
      generalize (g.nodes.all nodeW && distB (g.nodes.map Nd.name)) = t1 at *
      generalize (g.edges.all (edgeW L) && distB (g.edges.map Ed.name)) = t2 at *
      have HB := Lib.hid B0
      clear B0
      cases t1
      · go_enter Try.func12, Try.ntmps12
        go_wp2_with fail
        (with_reducible refine C1.out.mono ?_); rintro e w2 ⟨rfl, hb2⟩
        go_wp2_with fail
        go_ret
        exact ⟨by rw [HG.out]; rfl, Below.chain HB.out hb2⟩
      cases t2
      · go_enter Try.func12, Try.ntmps12
        go_wp2_with fail
        (with_reducible refine C1.out.mono ?_); rintro e w2 ⟨rfl, hb2⟩
        have v0 := (VG.out.keep hb2).cell 0
        have v1 := (VG.out.keep hb2).cell 1
        simp only [List.getElem?_toArray, List.getElem?_cons_zero, List.getElem?_cons_succ] at v0 v1
        go_wp2_with fail
        (with_reducible refine (C2.out _ hb2).mono ?_); rintro e w3 ⟨rfl, hb3⟩
        have hb4 := Below.chain (Below.chain HB.out hb2) hb3
        go_wp2_with fail
        go_ret
        exact ⟨by rw [HG.out]; rfl, hb4⟩
      · go_enter Try.func12, Try.ntmps12
        go_wp2_with fail
        (with_reducible refine C1.out.mono ?_); rintro e w2 ⟨rfl, hb2⟩
        have v0 := (VG.out.keep hb2).cell 0
        have v1 := (VG.out.keep hb2).cell 1
        simp only [List.getElem?_toArray, List.getElem?_cons_zero, List.getElem?_cons_succ] at v0 v1
        go_wp2_with fail
        (with_reducible refine (C2.out _ hb2).mono ?_); rintro e w3 ⟨rfl, hb3⟩
        have hb4 := Below.chain (Below.chain HB.out hb2) hb3
        go_wp2_with fail
        go_ret
        exact ⟨by rw [HG.out]; rfl, hb4⟩
    · have i1 : ¬ ((L : Int) > 1000) := by omega
      have i2 : (M : Int) > 1000 := by omega
      have HG := Lib.hid (show rightG g = 6 by
        unfold rightG
        rw [if_pos (by omega)])
      clear h h' k k' l1 l2 n1 n2 VG B0
      dsimp only [Sl.v]
      go_enter Try.func12, Try.ntmps12
      go_wp2_with fail
      go_ret
      exact ⟨by rw [HG.out]; rfl, below_a1 _ _⟩
  · have i1 : (L : Int) > 1000 := by omega
    have HG := Lib.hid (show rightG g = 6 by
      unfold rightG
      rw [if_pos (by omega)])
    clear h h' k k' l1 l2 n1 n2 VG B0
    dsimp only [Sl.v]
    go_enter Try.func12, Try.ntmps12
    go_wp2_with fail
    go_ret
    exact ⟨by rw [HG.out]; rfl, below_a1 _ _⟩
theorem right7_any {g : Gd} {x : Gx} {w : World} (h : Gz w g x) : Calls Try.prog 12 #[gv x] w fun e w' => e = .returned (.int .i64 (rightG g)) ∧ Below w.heap.size w w' := by
  obtain ⟨⟨xs, h1, h2⟩, ⟨ys, h3, h4⟩, -⟩ := h
  exact right7_core g xs ys x.ns x.es w h1 h3 h2 h4
end Go.Proofs.Ytdoefndppoglfaa
