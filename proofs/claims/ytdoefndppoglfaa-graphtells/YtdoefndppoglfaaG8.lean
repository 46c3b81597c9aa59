import Derived.Test.YtdoefndppoglfaaG7
import Derived.ProofKit
import Derived.OpenShut
import Derived.Carry
import Derived.ChangeSlices
import Derived.Lib.SmallJoins
import Derived.Laws.Cover2
import Derived.Deep.Slices
import Derived.WalkLawsBesides
namespace Go.Proofs.Ytdoefndppoglfaa
open Go Go.ChangeShapes Go.WideShapes Go.ChangeAt Go.RowKit
open Go.Joins
set_option linter.unusedVariables false
/-- a step: an edge, and where it leads -/
abbrev St := Int × Int
def encT : Enc St 2 where
  enc p := [.int .i64 p.1, .int .i64 p.2]
  len p := rfl
  one p u hu := by
    simp only [List.mem_cons, List.not_mem_nil, or_false] at hu
    rcases hu with rfl | rfl <;> rfl
abbrev RwT := Rw encT
theorem info_t7 : (Try.prog.info? 92).map (fun i => (i.zero, i.size, i.bytes)) = some (some (.agg #[.int .i64 0, .int .i64 0]), 2, 16) := by kernel_rfl
/-- where an edge leads from a node -/
def stepE (node dir : Int) (i : Nat) (f t : Int) (d : Bool) : Option St :=
  if f = node ∨ t = node then (if leadsB f t d node (f + t - node) dir = true then some ((i : Int), f + t - node) else none) else none
def outN (g : Gd) (node dir : Int) (n : Nat) : List St := (List.range n).filterMap fun i => stepE node dir i g.edges[i]!.fro g.edges[i]!.to g.edges[i]!.dir
/-- all that lead from a node -/
def outG (g : Gd) (node dir : Int) : List St := if 0 ≤ node ∧ node < g.nodes.length then outN g node dir g.edges.length else []
theorem outN_succ (g : Gd) (node dir : Int) (n : Nat) (h : n < g.edges.length) : outN g node dir (n + 1) = outN g node dir n ++ (stepE node dir n g.edges[n].fro g.edges[n].to g.edges[n].dir).toList := by
  unfold outN
  rw [List.range_succ, List.filterMap_append, List.filterMap_cons, List.filterMap_nil, getElem!_pos g.edges n h]
  cases stepE node dir n g.edges[n].fro g.edges[n].to g.edges[n].dir <;> rfl
theorem outN_len (g : Gd) (node dir : Int) (n : Nat) : (outN g node dir n).length ≤ n := by
  unfold outN
  exact Nat.le_trans (List.length_filterMap_le ..) (by simp)
set_option maxRecDepth 100000 in
set_option maxHeartbeats 4000000 in
theorem rout_core (g : Gd) (ys : List Dx) (ns es : Sl) (node dir : Int) (w : World) (h' : RwD w es.v ys) (k' : Ds w g.edges ys) (hn : g.nodes.length = ns.n) (n1 : ns.n ≤ 1000) (hM : es.n ≤ 1000)
    (hr : ∀ e ∈ g.edges, 0 ≤ e.fro ∧ e.fro < 1000 ∧ 0 ≤ e.to ∧ e.to < 1000) :
    Calls Try.prog 15 #[.agg #[ns.v, es.v], .int .i64 node, .int .i64 dir] w fun e w' => ∃ v, e = .returned v ∧ Ow encT 92 w' w.heap.size v (outG g node dir) ∧ Below w.heap.size w w' := by
  have l2 := h'.hd
  have n2 := k'.1
  obtain ⟨ao, L, cap⟩ := ns
  obtain ⟨bo, M, cbp⟩ := es
  dsimp only at l2 hn n1 hM
  have B0 := below_a1 w (.cells #[(Sl.v ⟨ao, L, cap⟩), (Sl.v ⟨bo, M, cbp⟩)] 25)
  have HV := Lib.hid (Vr.new w 25 #[(Sl.v ⟨ao, L, cap⟩), (Sl.v ⟨bo, M, cbp⟩)])
  have HR2 := Lib.hid (h'.keep B0)
  have HK2 := Lib.hid (k'.keep B0)
  have HM := Lib.hid l2.1
  have HN := Lib.hid hn
  have HN2 := Lib.hid n2
  have HRn := Lib.hid hr
  clear h' k' l2 n2 hn hr
  dsimp only [Sl.v] at HR2 HV B0
  have HE := Lib.hid (Ow.lit (E := encT) (e := 92) (w.alloc (.cells #[(.slice ao L cap), (.slice bo M cbp)] 25)) (w.heap.size + 1) [] (by simp) (by simp) #[] rfl)
  have hE1 := HE.out
  simp only [World.size_alloc, List.length_nil] at hE1
  by_cases hA : 0 ≤ node ∧ node < (L : Int)
  · obtain ⟨a1, a2⟩ := hA
    have x1 : ¬ node < 0 := by omega
    have x2 : ¬ node ≥ (L : Int) := by omega
    go_enter Try.func15, Try.ntmps15
    go_wp2_with fail
    go_loopg [7, 8, 9, 10, 11] M (fun gg s7 s8 s9 s10 s11 wr => ∃ i : Nat, gg + i = M ∧ s8 = .int .i64 i ∧ Ow encT 92 wr (w.heap.size + 1) s7 (outN g node dir i) ∧ Below (w.alloc (.cells #[(.slice ao L cap), (.slice bo M cbp)] 25)).heap.size (w.alloc (.cells #[(.slice ao L cap), (.slice bo M cbp)] 25)) wr)
    case atStart => exact ⟨0, rfl, rfl, hE1, below_a1 _ _⟩
    case round =>
      obtain ⟨i, hg, rfl, hO, hb⟩ := hrel
      have qv := (HV.out.keep hb).cell 1
      simp only [List.getElem?_toArray, List.getElem?_cons_zero, List.getElem?_cons_succ] at qv
      by_cases hlt : i < M
      · have ii : (i : Int) < (M : Int) := by omega
        have hi : i < ys.length := by rw [HM.out]; exact hlt
        have hi' : i < g.edges.length := by rw [HN2.out]; exact hi
        obtain ⟨b, o, rfl, hc⟩ := RwD.at (HR2.out.keep hb) i hi
        obtain ⟨q0, q1, q2, q3, q4, q5⟩ := hc i hi
        obtain ⟨z0, z1, z2, z3, z4, z5, z6, z7, z8, z9, zA⟩ := (HK2.out.keep hb).2 i hi' hi
        obtain ⟨r1, r2, r3, r4⟩ := HRn.out _ (List.getElem_mem hi')
        have HS := Lib.hid (outN_succ g node dir i hi')
        have HLn := Lib.hid (outN_len g node dir i)
        have HOw := Lib.hid hO
        have HRow := Lib.hid hO.row
        have HB := Lib.hid hb
        clear hc z0 z4 z5 z6 z7 z8 z9 zA hO hb
        generalize outN g node dir i = so at *
        generalize g.edges[i] = d at *
        generalize ys[i] = x at *
        obtain ⟨xn, xf, xt, xd, ⟨xla, xln, xlc⟩, ⟨xpa, xpn, xpc⟩⟩ := x
        obtain ⟨dn, df, dt, dd, dl, dp⟩ := d
        dsimp only at z1 z2 z3 HS q0 q1 q2 q3 q4 q5 r1 r2 r3 r4
        subst z1 z2 z3
        unfold stepE at HS
        by_cases hE1 : xf = node
        · subst hE1
          have D := Lib.hid (fun w' => rleads_any xn xf xt xd ⟨xla, xln, xlc⟩ ⟨xpa, xpn, xpc⟩ xf (xf + xt - xf) dir w')
          have e1 : (xf != xf) = false := by simp
          rw [if_pos (.inl rfl)] at HS
          go_wp2_with fail
          (with_reducible refine (D.out _).mono ?_); rintro e w2 ⟨rfl, hb2⟩
          have hb3 := Below.chain (below_a1 wr _) hb2
          have HW := Lib.hid (HB.out.trans (hb3.mono HB.out.size))
          have HO2 := Lib.hid (HOw.out.below hb3)
          have HSz := Lib.hid (show w.heap.size + 1 ≤ w2.heap.size by have := HW.out.size; simpa using this)
          have HGr := Lib.hid (show ∀ k, u7.ownBlock = some k → (w.alloc (.cells #[(.slice ao L cap), (.slice (some ⟨b, o, none⟩) M cbp)] 25)).heap.size ≤ k by simpa using HRow.out)
          clear hb2 hb3 D
          generalize hl : leadsB xf xt xd xf (xf + xt - xf) dir = ld at *
          cases ld
          · rw [if_neg (by simp)] at HS
            go_wp2_with fail
            go_roundg (M - (i + 1))
            case rel => exact ⟨i + 1, by omega, by go_num, by rw [HS.out]; simpa using HO2.out, HW.out⟩
            case measure => omega
          · rw [if_pos rfl] at HS
            go_wp2_with (at_builtin; refine wpList_append_wide (E := encT) rfl _ _ _ rfl Try.underlying38 info_t7 rfl (by decide) (by decide) rfl rfl (HO2.out.below (below_a1 _ _)) (Ow.lit (E := encT) (e := 92) _ (w.heap.size + 1) [((i : Int), xf + xt - xf)] HSz.out (by simp) _ rfl).rw (by have := HLn.out; simp; omega) (by have := HSz.out; simp; omega) ?_; intro v5 w5 hO5 hg5 hat5)
            go_roundg (M - (i + 1))
            case rel => exact ⟨i + 1, by omega, by go_num, by rw [HS.out]; exact hO5, (HW.out.alloc HW.out.size _).trans (below_of_grown hg5 (HW.out.alloc HW.out.size _).size HGr.out)⟩
            case measure => omega
        · by_cases hE2 : xt = node
          · subst hE2
            rw [if_pos (.inr rfl), Int.add_sub_cancel] at HS
            have D := Lib.hid (fun w' => rleads_any xn xf xt xd ⟨xla, xln, xlc⟩ ⟨xpa, xpn, xpc⟩ xt xf dir w')
            have e1 : (xf != xt) = true := by simp [hE1]
            have e2 : (xt != xt) = false := by simp
            go_wp2_with fail
            (with_reducible refine (D.out _).mono ?_); rintro e w2 ⟨rfl, hb2⟩
            have hb3 := Below.chain (below_a1 wr _) hb2
            have HW := Lib.hid (HB.out.trans (hb3.mono HB.out.size))
            have HO2 := Lib.hid (HOw.out.below hb3)
            have HSz := Lib.hid (show w.heap.size + 1 ≤ w2.heap.size by have := HW.out.size; simpa using this)
            have HGr := Lib.hid (show ∀ k, u7.ownBlock = some k → (w.alloc (.cells #[(.slice ao L cap), (.slice (some ⟨b, o, none⟩) M cbp)] 25)).heap.size ≤ k by simpa using HRow.out)
            clear hb2 hb3 D
            generalize hl : leadsB xf xt xd xt xf dir = ld at *
            cases ld
            · rw [if_neg (by simp)] at HS
              go_wp2_with fail
              go_roundg (M - (i + 1))
              case rel => exact ⟨i + 1, by omega, by go_num, by rw [HS.out]; simpa using HO2.out, HW.out⟩
              case measure => omega
            · rw [if_pos rfl] at HS
              go_wp2_with (at_builtin; refine wpList_append_wide (E := encT) rfl _ _ _ rfl Try.underlying38 info_t7 rfl (by decide) (by decide) rfl rfl (HO2.out.below (below_a1 _ _)) (Ow.lit (E := encT) (e := 92) _ (w.heap.size + 1) [((i : Int), xf)] HSz.out (by simp) _ rfl).rw (by have := HLn.out; simp; omega) (by have := HSz.out; simp; omega) ?_; intro v5 w5 hO5 hg5 hat5)
              go_roundg (M - (i + 1))
              case rel => exact ⟨i + 1, by omega, by go_num, by rw [HS.out]; exact hO5, (HW.out.alloc HW.out.size _).trans (below_of_grown hg5 (HW.out.alloc HW.out.size _).size HGr.out)⟩
              case measure => omega
          · rw [if_neg (by simp [hE1, hE2])] at HS
            have e1 : (xf != node) = true := by simp [hE1]
            have e2 : (xt != node) = true := by simp [hE2]
            go_wp2_with fail
            go_roundg (M - (i + 1))
            case rel => exact ⟨i + 1, by omega, by go_num, by rw [HS.out]; simpa using HOw.out.below (below_a1 _ _), HB.out.alloc HB.out.size _⟩
            case measure => omega
      · obtain rfl : M = i := by omega
        have ii : ¬ ((M : Int) < (M : Int)) := by omega
        have HX := Lib.hid (show outG g node dir = outN g node dir M by
          unfold outG
          rw [if_pos ⟨a1, by rw [HN.out]; exact a2⟩, HN2.out, HM.out])
        have HOw := Lib.hid hO
        clear hO
        go_wp2_with fail
        go_ret
        exact ⟨_, rfl, by rw [HX.out]; exact HOw.out.base (Nat.le_succ _), Below.chain B0 hb⟩
  · have HX := Lib.hid (show outG g node dir = [] by
      unfold outG
      rw [if_neg (by rw [HN.out]; exact hA)])
    have HF := Lib.hid (hE1.base (Nat.le_succ _))
    go_enter Try.func15, Try.ntmps15
    go_wp2_with fail
    all_goals first
      | (exfalso; omega)
      | (go_ret
         exact ⟨_, rfl, by rw [HX.out]; exact HF.out, Below.chain B0 (below_a1 _ _)⟩)
theorem right_parts {g : Gd} (h : rightG g = 0) : g.nodes.length ≤ 1000 ∧ g.edges.length ≤ 1000 ∧ nodesB g g.nodes.length = true ∧ edgesB g g.edges.length = true := by
  unfold rightG at h
  by_cases hc : 1000 < g.nodes.length ∨ 1000 < g.edges.length
  · rw [if_pos hc] at h
    cases h
  · rw [if_neg hc] at h
    cases h1 : nodesB g g.nodes.length
    · rw [h1] at h
      cases h
    · cases h2 : edgesB g g.edges.length
      · rw [h1, h2] at h
        cases h
      · exact ⟨by omega, by omega, rfl, rfl⟩
theorem right_node {g : Gd} (h : rightG g = 0) (i : Nat) (hi : i < g.nodes.length) : nodeB (namesN g) i g.nodes[i] = true := by
  have := List.all_eq_true.1 (right_parts h).2.2.1 i (List.mem_range.2 hi)
  rwa [getElem!_pos g.nodes i hi] at this
theorem right_edge {g : Gd} (h : rightG g = 0) (i : Nat) (hi : i < g.edges.length) : edgeB (namesD g) g.nodes.length i g.edges[i] = true := by
  have := List.all_eq_true.1 (right_parts h).2.2.2 i (List.mem_range.2 hi)
  rwa [getElem!_pos g.edges i hi] at this
theorem right_ends {g : Gd} (h : rightG g = 0) (e : Ed) (he : e ∈ g.edges) : 0 ≤ e.fro ∧ e.fro < g.nodes.length ∧ 0 ≤ e.to ∧ e.to < g.nodes.length := by
  obtain ⟨i, hi, rfl⟩ := List.mem_iff_getElem.1 he
  have := right_edge h i hi
  unfold edgeB endsB at this
  simp only [Bool.and_eq_true, decide_eq_true_eq] at this
  omega
/-- Out of a right graph in memory -/
theorem rout_any {g : Gd} {x : Gx} {w : World} (h : Gz w g x) (hr : rightG g = 0) (node dir : Int) :
    Calls Try.prog 15 #[gv x, .int .i64 node, .int .i64 dir] w fun e w' => ∃ v, e = .returned v ∧ Ow encT 92 w' w.heap.size v (outG g node dir) ∧ Below w.heap.size w w' := by
  have hp := right_parts hr
  obtain ⟨⟨xs, h1, h2⟩, ⟨ys, h3, h4⟩, -⟩ := h
  have l1 := h1.hd.1
  have l2 := h3.hd.1
  have l3 := h2.1
  have l4 := h4.1
  refine rout_core g ys x.ns x.es node dir w h3 h4 (l3.trans l1) (by omega) (by omega) (fun e he => ?_)
  have := right_ends hr e he
  omega
end Go.Proofs.Ytdoefndppoglfaa
