import Derived.Test.YtdoefndppoglfaaVGraphProps
import Derived.Test.YtdoefndppoglfaaHN
import Derived.Test.YtdoefndppoglfaaHJ
import Derived.BigQuiet
import Derived.Lib.SmallJoins
namespace Go.Proofs.Ytdoefndppoglfaa.GraphTells
open Go.ChangeShapes Go.WideShapes Go.ChangeAt Go.RowKit
set_option linter.unusedVariables false
section
variable {H : Type} {enc : TypeId × Value → H} {w : World} {base : Nat} {spare : Nat → Bool} {held : Bool}
set_option maxRecDepth 100000 in
theorem open_elem {r : Reach} {b0 : Nat} {v : Value} {d : DataW H} {p : List MemPlace} (hv : Value.okWide Try.prog w r b0 27 v) (h : DataW.Trod enc Try.prog w base spare held 27 v d p) :
    ∃ (b : Bool) (n : Int), v = .agg #[.bool b, .int .i64 n] ∧ p = [] := by
  obtain ⟨v0, v1, y0, y1, m, rfl, -, rfl, h0, h1⟩ := Go.Joins.open_agg2 Try.underlying27 (by kernel_rfl) (by kernel_rfl) hv h
  obtain ⟨b, e0, rfl⟩ := DataW.trod_bool Try.underlying4 h0
  obtain ⟨n, e1, rfl, -⟩ := DataW.trod_int Try.underlying3 h1
  simp only [List.cons.injEq, and_true] at e0 e1
  subst e0 e1
  exact ⟨b, n, rfl, rfl⟩
end
/-- what stands in the slots of the region that compares two lists of steps -/
def VO (p : Nat) (i d : Int) (gv : Value) (l : List St) (j : Nat) (v : Value) (w : World) : Prop := match j with
  | 0 => v = pv p
  | 1 => v = .int .i64 i
  | 2 => v = .int .i64 d
  | 3 => RwT w v l
  | 4 => v = gv
  | 5 => v = .int .i64 i
  | 6 => v = .int .i64 d
  | 7 => RwT w v l
  | 8 => v = .bool true
  | 9 => v = .bool false
  | _ => True
theorem VO.keep {p : Nat} {i d : Int} {gv : Value} {l : List St} (j : Nat) (v : Value) (a b : World) (h : VO p i d gv l j v a) (hb : Below a.heap.size a b) : VO p i d gv l j v b := by
  by_cases h3 : j = 3
  · subst h3; exact Rw.keep h hb
  · by_cases h7 : j = 7
    · subst h7; exact Rw.keep h hb
    · unfold VO at h ⊢
      split at h <;> first | exact h | (exfalso; first | exact h3 rfl | exact h7 rfl)
theorem look_ok {l : List Pr} (h : ∀ q ∈ l, q.2.Ok) (nm : ByteArray) : (lookV l nm).Ok := by
  unfold lookV
  cases hf : l.find? fun p => decide (byt p.1 = byt nm) with
  | none => exact ⟨by decide, by decide, by decide⟩
  | some q => exact h q (List.mem_of_find?_eq_some hf)
theorem props_ok {w : World} {g : Gd} {x : Gx} (h : Gz w g x) (edge : Bool) (id : Int) : ∀ q ∈ propsG g edge id, q.2.Ok := by
  obtain ⟨⟨xs, r1, k1⟩, ⟨ys, r2, k2⟩, -⟩ := h
  unfold propsG
  split
  · split
    · rename_i hid
      have hi : id.toNat < g.edges.length := by omega
      rw [getElem!_pos g.edges id.toNat hi]
      exact (k2.2 id.toNat hi (by rw [← k2.1]; exact hi)).2.2.2.2.2.2.2.2.1
    · intro q hq; cases hq
  · split
    · rename_i hid
      have hi : id.toNat < g.nodes.length := by omega
      rw [getElem!_pos g.nodes id.toNat hi]
      exact (k1.2 id.toNat hi (by rw [← k1.1]; exact hi)).2.2.2.1
    · intro q hq; cases hq
theorem name_short {g : Gd} (h : rightG g = 0) (s : ByteArray) (hs : s ∈ namesN g ∨ s ∈ namesD g) : s.size ≤ maxLen := by
  have key : ∀ t : ByteArray, wordB t = true → t.size ≤ maxLen := fun t ht => Nat.le_trans (word_short ht) (by decide)
  rcases hs with hs | hs
  · obtain ⟨d, hd, rfl⟩ := List.mem_map.1 hs
    obtain ⟨i, hi, rfl⟩ := List.mem_iff_getElem.1 hd
    have := right_node h i hi
    unfold nodeB at this
    simp only [Bool.and_eq_true] at this
    exact key _ (by simp_all)
  · obtain ⟨d, hd, rfl⟩ := List.mem_map.1 hs
    obtain ⟨i, hi, rfl⟩ := List.mem_iff_getElem.1 hd
    have := right_edge h i hi
    unfold edgeB at this
    simp only [Bool.and_eq_true] at this
    exact key _ (by simp_all)
theorem wanted_at {ops : Array Oper} {o : Oper} {a : Act} {k t : Nat} {o' : Oper} {b : Bool} (hg : o.guard = some (k, b)) (ho : ops[k]? = some o') (hd : o'.dst = some t) (ht : a.eval (.tmp t) = .bool b) : Region.wanted o (yielded ops a.tmps) = true := by
  have h1 : a.tmps[t]? = some (.bool b) := by
    simp only [Act.eval, Array.getD_eq_getD_getElem?] at ht
    cases h : a.tmps[t]? with
    | none => rw [h] at ht; cases ht
    | some v => rw [h] at ht; exact congrArg some ht
  simp only [Region.wanted, hg, yielded, ho, hd, Option.bind_some, h1]
  simp
/-- what stands in the slots of the region that compares the labels -/
def VL (p : Nat) (gr el : Value) (l : List ByteArray) (j : Nat) (v : Value) (w : World) : Prop := match j with
  | 0 => v = pv p
  | 1 => v = el
  | 2 => RwS w v l
  | 3 => v = gr
  | 4 => v = el
  | 5 => RwS w v l
  | 6 => v = .bool true
  | _ => True
theorem VL.keep {p : Nat} {gr el : Value} {l : List ByteArray} (j : Nat) (v : Value) (a b : World) (h : VL p gr el l j v a) (hb : Below a.heap.size a b) : VL p gr el l j v b := by
  by_cases h3 : j = 2
  · subst h3; exact Rw.keep h hb
  · by_cases h7 : j = 5
    · subst h7; exact Rw.keep h hb
    · unfold VL at h ⊢
      split at h <;> first | exact h | (exfalso; first | exact h3 rfl | exact h7 rfl)
/-- .. of the last region -/
def VE (p : Nat) (i d : Int) (gr : Value) (l : List St) (gc : Gd) (j : Nat) (v : Value) (w : World) : Prop := match j with
  | 8 => v = pv p
  | 9 => v = .int .i64 i
  | 10 => v = .int .i64 d
  | 11 => RwT w v l
  | 12 => v = gr
  | 13 => v = .int .i64 i
  | 14 => v = .int .i64 d
  | 15 => RwT w v l
  | 19 => v = pv p
  | 20 => ∃ x, v = gv x ∧ Gz w gc x
  | 21 => v = gr
  | _ => v = .bool true
theorem VE.keep {p : Nat} {i d : Int} {gr : Value} {l : List St} {gc : Gd} (j : Nat) (v : Value) (a b : World) (h : VE p i d gr l gc j v a) (hb : Below a.heap.size a b) : VE p i d gr l gc j v b := by
  by_cases h3 : j = 11
  · subst h3; exact Rw.keep h hb
  · by_cases h7 : j = 15
    · subst h7; exact Rw.keep h hb
    · by_cases h9 : j = 20
      · subst h9
        obtain ⟨x, e, hx⟩ := h
        exact ⟨x, e, hx.keep hb⟩
      · unfold VE at h ⊢
        split at h <;> first | exact h | (exfalso; first | exact h3 rfl | exact h7 rfl | exact h9 rfl)
set_option maxRecDepth 100000 in
set_option maxHeartbeats 4000000 in
theorem walk (g : Gd) (x : Gx) (node dir : Int) (nm : ByteArray) (eb : Bool) (ei : Int) (w : World) (h : Gz w g x) (hs : nm.size ≤ maxLen) :
    Calls Try.prog 3 #[gv x, .int .i64 node, .int .i64 dir, .string nm, .agg #[.bool eb, .int .i64 ei]] w fun e w' => e = .returned (.bool true) ∧ Below w.heap.size w w' := by
  obtain ⟨⟨ao, L, cap⟩, ⟨bo, M, cbp⟩⟩ := x
  have VG := Lib.hid ((Vr.new w 25 #[.slice ao L cap, .slice bo M cbp]).al (o := .cells #[.bool eb, .int .i64 ei] 27))
  have VE := Lib.hid (Vr.at' (w.alloc (.cells #[.slice ao L cap, .slice bo M cbp] 25)) 27 #[.bool eb, .int .i64 ei] (w.heap.size + 1) (by simp))
  have HB := Lib.hid (below_a2 w (.cells #[.slice ao L cap, .slice bo M cbp] 25) (.cells #[.bool eb, .int .i64 ei] 27))
  have HZ := Lib.hid (h.keep HB.out)
  clear h
  dsimp only [gv, Sl.v] at HZ ⊢
  go_enter Try.func3, Try.ntmps3
  go_wp2_with fail
  (with_reducible refine (shown7_any _).mono ?_); rintro e wA ⟨rfl, hbA⟩
  have VGa := VG.out.keep hbA
  have HBa := Lib.hid (Below.chain HB.out hbA)
  have HZa := Lib.hid (HZ.out.keep hbA)
  have q0 := VGa.cell 0
  have q1 := VGa.cell 1
  simp only [List.getElem?_toArray, List.getElem?_cons_zero, List.getElem?_cons_succ] at q0 q1
  have HVa := Lib.hid VGa
  have HEa := Lib.hid (VE.out.keep hbA)
  clear VGa VG VE HB HZ hbA
  go_wp2_with fail
  have CF := few_any HZa.out
  dsimp only [gv, Sl.v] at CF
  (with_reducible refine CF.mono ?_); rintro e wB ⟨y, rfl, hy, hbB⟩
  have HgN := Lib.hid (cutG_nodes g)
  have HgM := Lib.hid (cutG_edges g)
  clear CF q0 q1 HZa
  generalize cutG g = gc at *
  obtain ⟨⟨a1, n1, c1⟩, ⟨a2, n2, c2⟩⟩ := y
  have hn1 : gc.nodes.length = n1 := by obtain ⟨⟨xs, h1, h2⟩, -⟩ := hy; exact h2.1.trans h1.hd.1
  have hn2 : gc.edges.length = n2 := by obtain ⟨-, ⟨xs, h1, h2⟩, -⟩ := hy; exact h2.1.trans h1.hd.1
  have m1 : n1 ≤ 50 := by rw [← hn1]; exact HgN.out
  have m2 : n2 ≤ 50 := by rw [← hn2]; exact HgM.out
  have HL1 := Lib.hid hn1
  have HL2 := Lib.hid hn2
  clear hn1 hn2 HgN HgM
  have VGb := HVa.out.keep hbB
  have HBb := Lib.hid (Below.chain HBa.out hbB)
  have HS := Lib.hid (gz_other hy VGb ⟨a1, n1, c1⟩ ⟨a2, n2, c2⟩)
  have q0 := VGb.cell 0
  have q1 := VGb.cell 1
  simp only [List.getElem?_toArray, List.getElem?_cons_zero, List.getElem?_cons_succ] at q0 q1
  have t0 := VGb.thaw 0
  have t1 := VGb.thaw 1
  have HEs := Lib.hid (((HEa.out.keep hbB).setOther (a := ⟨w.heap.size, 0, none⟩) (by simp) (.slice a1 n1 c1)).setOther (a := ⟨w.heap.size, 1, none⟩) (by simp) (.slice a2 n2 c2))
  have HVs := Lib.hid (vr_set2 VGb (.slice a1 n1 c1) (.slice a2 n2 c2))
  have HBs := Lib.hid ((HBb.out.setCell (p := ⟨w.heap.size, 0, none⟩) (Nat.le_refl _) (.slice a1 n1 c1)).setCell (p := ⟨w.heap.size, 1, none⟩) (Nat.le_refl _) (.slice a2 n2 c2))
  dsimp only [gv, Sl.v] at HS HVs HBs ⊢
  clear hy hbB VGb HBa HBb HVa HEa
  go_wp2_with fail
  clear q0 q1 t0 t1
  generalize (wB.setCell ⟨w.heap.size, 0, none⟩ (.slice a1 n1 c1)).setCell ⟨w.heap.size, 1, none⟩ (.slice a2 n2 c2) = wC at *
  have q0 := HVs.out.cell 0
  have q1 := HVs.out.cell 1
  simp only [List.getElem?_toArray, List.getElem?_cons_zero, List.getElem?_cons_succ] at q0 q1
  go_wp2_with fail
  have CR := rrightg_any HS.out
  dsimp only [gv, Sl.v] at CR
  (with_reducible refine CR.mono ?_); clear CR; rintro e wR ⟨rfl, hbR⟩
  have HV0 := Lib.hid (HVs.out.keep hbR)
  have HE0 := Lib.hid (HEs.out.keep hbR)
  have HB0 := Lib.hid (HBs.out.trans (hbR.mono HBs.out.size))
  have HS0 := Lib.hid (HS.out.keep hbR)
  clear q0 q1 hbR HVs HEs HBs HS
  have HVs := HV0
  have HEs := HE0
  have HBs := HB0
  have HS := HS0
  clear HV0 HE0 HB0 HS0
  have q0 := HVs.out.cell 0
  have q1 := HVs.out.cell 1
  simp only [List.getElem?_toArray, List.getElem?_cons_zero, List.getElem?_cons_succ] at q0 q1
  go_wp2_with fail
  have CN := new7_any HS.out
  dsimp only [gv, Sl.v] at CN
  (with_reducible refine CN.mono ?_); clear CN; rintro e wD ⟨hND, hbD⟩
  have HVd := Lib.hid (HVs.out.keep hbD)
  have HBd := Lib.hid (HBs.out.trans (hbD.mono HBs.out.size))
  have HZd := Lib.hid (HS.out.keep hbD)
  have HEd := Lib.hid (HEs.out.keep hbD)
  clear hbD HVs HEs HBs HS q0 q1
  have q0 := HVd.out.cell 0
  have q1 := HVd.out.cell 1
  simp only [List.getElem?_toArray, List.getElem?_cons_zero, List.getElem?_cons_succ] at q0 q1
  rcases hND with ⟨hr, p, rfl, hx⟩ | ⟨hr, rfl⟩
  · have HR0 := Lib.hid hr
    have HIx := Lib.hid hx
    have HM : Hid (gc.edges.length ≤ 1000) := Lib.hid (by rw [HL2.out]; omega)
    have HN1 : Hid (gc.nodes.length ≤ 1000) := Lib.hid (by rw [HL1.out]; omega)
    clear hr hx
    rw [HR0.out]
    go_wp2_with fail
    have CR := right7_any HZd.out
    rw [HR0.out] at CR
    dsimp only [gv, Sl.v] at CR
    (with_reducible refine CR.mono ?_); clear CR; rintro e wE ⟨rfl, hbE⟩
    have HI1 := Lib.hid (HIx.out.keep hbE)
    have HV1 := Lib.hid (HVd.out.keep hbE)
    have HE1 := Lib.hid (HEd.out.keep hbE)
    have HZ1 := Lib.hid (HZd.out.keep hbE)
    have HB1 := Lib.hid (HBd.out.trans (hbE.mono HBd.out.size))
    clear hbE HIx HVd HEd HZd HBd q0 q1
    go_wp2_with fail
    go_loopg [15] (n1 + 2) (fun gg s15 wr => ∃ k : Nat, gg + k = n1 + 2 ∧ s15 = .int .i64 ((k : Int) - 1) ∧ Below wE.heap.size wE wr)
    case atStart => exact ⟨0, rfl, rfl, Below.refl _ _⟩
    case round =>
      obtain ⟨k, hg, rfl, hb⟩ := hrel
      obtain ⟨i, hi⟩ : ∃ i : Int, i = (k : Int) - 1 := ⟨_, rfl⟩
      rw [← hi]
      have q0 := (HV1.out.keep hb).cell 0
      have q1 := (HV1.out.keep hb).cell 1
      simp only [List.getElem?_toArray, List.getElem?_cons_zero, List.getElem?_cons_succ] at q0 q1
      by_cases hlt : k < n1 + 2
      · have ii : i ≤ (n1 : Int) := by omega
        have hib : -1 ≤ i := by omega
        have HB2 := Lib.hid hb
        have HKI := Lib.hid hi
        have HGK := Lib.hid hg
        clear hb hi hg
        go_wp2_with fail
        clear q0 q1
        generalize wr = wO at *
        go_loopg [16] 8 (fun gg s16 wr => ∃ k2 : Nat, gg + k2 = 8 ∧ s16 = .int .i64 (k2 : Int) ∧ Below wO.heap.size wO wr)
        case atStart => exact ⟨0, rfl, rfl, Below.refl _ _⟩
        case round =>
          obtain ⟨k2, hg2, rfl, hb⟩ := hrel
          have HBr := Lib.hid hb
          have HB3 := Below.chain HB2.out hb
          have HIr := Lib.hid (HI1.out.keep HB3)
          have HVr := Lib.hid (HV1.out.keep HB3)
          have HZr := Lib.hid (HZ1.out.keep HB3)
          clear hb
          by_cases h8 : k2 < 8
          · have jj : (k2 : Int) < 8 := by omega
            obtain ⟨d, hd⟩ : ∃ d : Int, d = (k2 : Int) := ⟨_, rfl⟩
            rw [← hd]
            rw [← hd] at jj
            have hd0 : 0 ≤ d := by omega
            have HD := Lib.hid hd
            clear hd HB3
            go_wp2_with fail
            refine wp_region_facts 10 (VO p i d (.agg #[.slice a1 n1 c1, .slice a2 n2 c2]) (outG gc i d)) (fun a b => Below a.heap.size a b) (by kernel_rfl) (by decide) (by kernel_rfl) (by kernel_rfl) (fun a => Below.refl _ _) (fun a b c => Below.chain) VO.keep ?_ ?_
            · refine ⟨?_, ?_, ?_, ?_, ?_, ?_, ?_, ?_, ?_, ?_, trivial⟩
              · intro a u hR hF hD
                have hR1 := below_undrew hR
                have f13 : a.eval (.tmp 13) = pv p := hF 13 (by kernel_rfl)
                simp only [Act.eval, Array.getD_eq_getD_getElem?] at f13
                show Oper.wp _ _ _ _ _ _
                unfold Oper.wp
                simp only [execOp]
                go_simp
                exact ⟨_, rfl, rfl, Below.refl _ _⟩
              · intro a u hR hF hD
                have hR1 := below_undrew hR
                have f15 : a.eval (.tmp 15) = .int .i64 i := hF 15 (by kernel_rfl)
                simp only [Act.eval, Array.getD_eq_getD_getElem?] at f15
                show Oper.wp _ _ _ _ _ _
                unfold Oper.wp
                simp only [execOp]
                go_simp
                exact ⟨_, rfl, rfl, Below.refl _ _⟩
              · intro a u hR hF hD
                have hR1 := below_undrew hR
                have f16 : a.eval (.tmp 16) = .int .i64 d := hF 16 (by kernel_rfl)
                simp only [Act.eval, Array.getD_eq_getD_getElem?] at f16
                show Oper.wp _ _ _ _ _ _
                unfold Oper.wp
                simp only [execOp]
                go_simp
                exact ⟨_, rfl, rfl, Below.refl _ _⟩
              · intro a u hR hF hD
                have hR1 := below_undrew hR
                have d69 : a.eval (.tmp 69) = pv p := hD 0 (by kernel_rfl)
                have d70 : a.eval (.tmp 70) = .int .i64 i := hD 1 (by kernel_rfl)
                have d71 : a.eval (.tmp 71) = .int .i64 d := hD 2 (by kernel_rfl)
                simp only [Act.eval, Array.getD_eq_getD_getElem?] at d69 d70 d71
                show Oper.wp _ _ _ _ _ _
                unfold Oper.wp
                simp only [execOp]
                go_simp
                (with_reducible refine (out7_any (HIr.out.keep hR1) HM.out i d).mono ?_); rintro e u2 ⟨v2, rfl, ho2, hb2⟩
                exact ⟨_, rfl, ho2.rw, hb2⟩
              · intro a u hR hF hD
                have hR1 := below_undrew hR
                have f5 : a.eval (.tmp 5) = .pointer (some ⟨w.heap.size, 0, none⟩) := hF 5 (by kernel_rfl)
                simp only [Act.eval, Array.getD_eq_getD_getElem?] at f5
                have y0 := (HVr.out.keep hR1).cell 0
                have y1 := (HVr.out.keep hR1).cell 1
                simp only [List.getElem?_toArray, List.getElem?_cons_zero, List.getElem?_cons_succ] at y0 y1
                show Oper.wp _ _ _ _ _ _
                unfold Oper.wp
                simp only [execOp]
                go_simp
                exact ⟨_, rfl, rfl, Below.refl _ _⟩
              · intro a u hR hF hD
                have hR1 := below_undrew hR
                have f15 : a.eval (.tmp 15) = .int .i64 i := hF 15 (by kernel_rfl)
                simp only [Act.eval, Array.getD_eq_getD_getElem?] at f15
                show Oper.wp _ _ _ _ _ _
                unfold Oper.wp
                simp only [execOp]
                go_simp
                exact ⟨_, rfl, rfl, Below.refl _ _⟩
              · intro a u hR hF hD
                have hR1 := below_undrew hR
                have f16 : a.eval (.tmp 16) = .int .i64 d := hF 16 (by kernel_rfl)
                simp only [Act.eval, Array.getD_eq_getD_getElem?] at f16
                show Oper.wp _ _ _ _ _ _
                unfold Oper.wp
                simp only [execOp]
                go_simp
                exact ⟨_, rfl, rfl, Below.refl _ _⟩
              · intro a u hR hF hD
                have hR1 := below_undrew hR
                have d73 : a.eval (.tmp 73) = .agg #[.slice a1 n1 c1, .slice a2 n2 c2] := hD 4 (by kernel_rfl)
                have d74 : a.eval (.tmp 74) = .int .i64 i := hD 5 (by kernel_rfl)
                have d75 : a.eval (.tmp 75) = .int .i64 d := hD 6 (by kernel_rfl)
                simp only [Act.eval, Array.getD_eq_getD_getElem?] at d73 d74 d75
                show Oper.wp _ _ _ _ _ _
                unfold Oper.wp
                simp only [execOp]
                go_simp
                (with_reducible refine (rout_any (HZr.out.keep hR1) HR0.out i d).mono ?_); rintro e u2 ⟨v2, rfl, ho2, hb2⟩
                exact ⟨_, rfl, ho2.rw, hb2⟩
              · intro a u hR hF hD
                have hR1 := below_undrew hR
                have h3 : RwT u (a.eval (.tmp 72)) (outG gc i d) := hD 3 (by kernel_rfl)
                have h7 : RwT u (a.eval (.tmp 76)) (outG gc i d) := hD 7 (by kernel_rfl)
                obtain ⟨a3, c3, g3⟩ := h3.shape
                obtain ⟨a7, c7, g7⟩ := h7.shape
                rw [g3] at h3
                rw [g7] at h7
                simp only [Act.eval, Array.getD_eq_getD_getElem?] at g3 g7
                show Oper.wp _ _ _ _ _ _
                unfold Oper.wp
                simp only [execOp]
                go_simp
                (with_reducible refine (samesteps_any _ _ _ _ u h3 h7).mono ?_); rintro e u2 ⟨rfl, hb2⟩; rw [decide_eq_true rfl]
                exact ⟨_, rfl, rfl, hb2⟩
              · intro a u hR hF hD
                have hR1 := below_undrew hR
                have d77 : a.eval (.tmp 77) = .bool true := hD 8 (by kernel_rfl)
                simp only [Act.eval, Array.getD_eq_getD_getElem?] at d77
                show Oper.wp _ _ _ _ _ _
                unfold Oper.wp
                simp only [execOp]
                go_simp
                exact ⟨_, rfl, rfl, Below.refl _ _⟩
            · intro vs u hv hR
              have e9 : vs 9 = .bool false := hv 9 (by decide)
              have hR1 := below_undrew hR
              simp only [putAll, List.take, List.drop, Act.put, List.setIfInBounds_toArray, List.set_cons_succ, List.set_cons_zero, Nat.zero_add, Nat.reduceAdd]
              rw [e9]
              generalize vs 0 = t0
              generalize vs 1 = t1
              generalize vs 2 = t2
              generalize vs 3 = t3
              generalize vs 4 = t4
              generalize vs 5 = t5
              generalize vs 6 = t6
              generalize vs 7 = t7
              generalize vs 8 = t8
              clear hv e9 hR
              go_wp2_with fail
              go_roundg (8 - (k2 + 1))
              case rel => exact ⟨k2 + 1, by omega, congrArg (Value.int IntKind.i64) (by have := HD.out; omega), Below.chain HBr.out hR1⟩
              case measure => omega
          · obtain rfl : k2 = 8 := by omega
            go_wp2_with fail
            go_roundg (n1 + 2 - (k + 1))
            case rel => exact ⟨k + 1, by have := HGK.out; omega, congrArg (Value.int IntKind.i64) (by have := HKI.out; omega), HB3⟩
            case measure => have := HGK.out; omega
      · have ii : ¬ i ≤ (n1 : Int) := by omega
        have HV2 := Lib.hid (HV1.out.keep hb)
        have HE2 := Lib.hid (HE1.out.keep hb)
        have HI2 := Lib.hid (HI1.out.keep hb)
        have HZ2 := Lib.hid (HZ1.out.keep hb)
        have HB2 := Lib.hid (HB1.out.trans (hb.mono HB1.out.size))
        obtain ⟨⟨xs, hxs, hxk⟩, ⟨ys, hys, hyk⟩, -⟩ := HZ2.out
        dsimp only [Sl.v] at hxs hys
        have HXS := Lib.hid hxs
        have HYS := Lib.hid hys
        have HXL : Hid (xs.length = n1) := Lib.hid (by rw [← hxk.1]; exact HL1.out)
        have HYL : Hid (ys.length = n2) := Lib.hid (by rw [← hyk.1]; exact HL2.out)
        have HXN : Hid (xs.map Nx.name = namesN gc) := Lib.hid hxk.names
        have HYN : Hid (ys.map Dx.name = namesD gc) := Lib.hid hyk.names
        clear hi hb HV1 HE1 HI1 HZ1 HB1 q0 q1 hg hxs hys hxk hyk
        generalize wr = wN at *
        have q0 := HV2.out.cell 0
        have q1 := HV2.out.cell 1
        simp only [List.getElem?_toArray, List.getElem?_cons_zero, List.getElem?_cons_succ] at q0 q1
        have O1 := Lib.hid ((Ow.lit (E := encS) (e := 9) wN wN.heap.size [nm] (Nat.le_refl _) (by simp) #[.string nm] rfl).below (below_a1 (wN.alloc (.cells #[.string nm] 9)) (.cells #[.string ⟨#[]⟩] 9)))
        have R1 := Lib.hid (one_new (wN.alloc (.cells #[.string nm] 9)) ⟨#[]⟩)
        have B1 := Lib.hid (below_a2 wN (.cells #[.string nm] 9) (.cells #[.string ⟨#[]⟩] 9))
        simp only [World.size_alloc] at R1
        go_upto_region 18 with (at_builtin; refine wpList_append_rw (E := encS) rfl _ _ _ rfl Try.underlying40 info_str rfl (by decide) (by decide) rfl rfl O1.out R1.out (by simp) B1.out.size ?_; intro v5 w5 hO5 hg5 hat5)
        have HB5 := Lib.hid (below_of_grown (B := wN.heap.size) hg5 B1.out.size (fun k hk => O1.out.row k hk))
        have BN := Lib.hid (Below.trans B1.out HB5.out)
        have HO5 := Lib.hid (show OwS w5 wN.heap.size v5 ([nm, ⟨#[]⟩] ++ (namesN gc).take 0) from by rw [List.take_zero, List.append_nil]; exact hO5)
        clear hO5 hg5 hat5 HB5 O1 R1 B1 q0 q1
        go_wp2_with fail
        have HPL : Hid ([nm, (⟨#[]⟩ : ByteArray)].length + n1 + n2 ≤ 1000) := Lib.hid (by simp only [List.length_cons, List.length_nil]; omega)
        go_loopg [17, 18] n1 (fun gg s17 s18 wr => ∃ i : Nat, gg + i = n1 ∧ s18 = .int .i64 i ∧ OwS wr wN.heap.size s17 ([nm, ⟨#[]⟩] ++ (namesN gc).take i) ∧ Below wN.heap.size wN wr)
        case atStart => exact ⟨0, rfl, rfl, HO5.out, BN.out⟩
        case round =>
          obtain ⟨i, hg, rfl, hO, hb⟩ := hrel
          have HBr := Lib.hid hb
          have HVr := Lib.hid (HV2.out.keep hb)
          have q0 := HVr.out.cell 0
          have q1 := HVr.out.cell 1
          simp only [List.getElem?_toArray, List.getElem?_cons_zero, List.getElem?_cons_succ] at q0 q1
          by_cases hlt : i < n1
          · have ii : (i : Int) < (n1 : Int) := by omega
            have hi2 : i < xs.length := by rw [HXL.out]; exact hlt
            obtain ⟨b2, o2, rfl, hc⟩ := RwN.at (HXS.out.keep hb) i hi2
            have g0 := (hc i hi2).1
            have hi3 : i < (namesN gc).length := by rw [← HXN.out, List.length_map]; exact hi2
            have hN : (namesN gc)[i] = xs[i].name := by simp only [← HXN.out, List.getElem_map]
            have HT := Lib.hid (show [nm, ⟨#[]⟩] ++ (namesN gc).take (i + 1) = ([nm, ⟨#[]⟩] ++ (namesN gc).take i) ++ [xs[i].name] by rw [List.take_succ_eq_append_getElem hi3, hN, ← List.append_assoc])
            have hLN : ([nm, ⟨#[]⟩] ++ (namesN gc).take i).length + 1 ≤ 1000000 := by
              rw [List.length_append, List.length_take]
              have := HPL.out
              omega
            generalize xs[i].name = z at *
            generalize [nm, ⟨#[]⟩] ++ (namesN gc).take i = Lw at *
            have LN := Lib.hid hLN
            have A1 := Lib.hid (below_a1 wr (.cells #[.string z] 9))
            have O1 := Lib.hid (hO.below A1.out)
            have R1 := Lib.hid (one_new wr z)
            have SZ := Lib.hid (Nat.le_trans hb.size A1.out.size)
            clear hO hb hc hLN hN
            go_wp2_with (at_builtin; refine wpList_append_rw (E := encS) rfl _ _ _ rfl Try.underlying40 info_str rfl (by decide) (by decide) rfl rfl O1.out R1.out LN.out SZ.out ?_; intro v5 w5 hO5 hg5 hat5)
            have HB5 := Lib.hid (below_of_grown (B := wN.heap.size) hg5 SZ.out (fun k hk => O1.out.row k hk))
            go_roundg (n1 - (i + 1))
            case rel => exact ⟨i + 1, by omega, by go_num, by rw [HT.out]; exact hO5, (HBr.out.trans (A1.out.mono HBr.out.size)).trans HB5.out⟩
            case measure => omega
          · obtain rfl : n1 = i := by omega
            have ii : ¬ ((n1 : Int) < (n1 : Int)) := by omega
            have hlN : (namesN gc).length = n1 := by rw [← HXN.out, List.length_map]; exact HXL.out
            have HO6 := Lib.hid (show OwS wr wN.heap.size _ (([nm, ⟨#[]⟩] ++ namesN gc) ++ (namesD gc).take 0) from by rw [List.take_zero, List.append_nil]; rw [List.take_of_length_le (Nat.le_of_eq hlN)] at hO; exact hO)
            have HPL2 : Hid (([nm, ⟨#[]⟩] ++ namesN gc).length + n2 ≤ 1000) := Lib.hid (by rw [List.length_append, hlN]; exact HPL.out)
            have HBm := Lib.hid hb
            clear hO hb HBr
            go_wp2_with fail
            clear q0 q1 HVr
            generalize wr = wM at *
            have HPL := HPL2
            go_loopg [17, 19] n2 (fun gg s17 s19 wr => ∃ i : Nat, gg + i = n2 ∧ s19 = .int .i64 i ∧ OwS wr wN.heap.size s17 (([nm, ⟨#[]⟩] ++ namesN gc) ++ (namesD gc).take i) ∧ Below wN.heap.size wN wr)
            case atStart => exact ⟨0, rfl, rfl, HO6.out, HBm.out⟩
            case round =>
              obtain ⟨i, hg, rfl, hO, hb⟩ := hrel
              have HBr := Lib.hid hb
              have HVr := Lib.hid (HV2.out.keep hb)
              have q0 := HVr.out.cell 0
              have q1 := HVr.out.cell 1
              simp only [List.getElem?_toArray, List.getElem?_cons_zero, List.getElem?_cons_succ] at q0 q1
              by_cases hlt : i < n2
              · have ii : (i : Int) < (n2 : Int) := by omega
                have hi2 : i < ys.length := by rw [HYL.out]; exact hlt
                obtain ⟨b2, o2, rfl, hc⟩ := RwD.at (HYS.out.keep hb) i hi2
                have g0 := (hc i hi2).1
                have hi3 : i < (namesD gc).length := by rw [← HYN.out, List.length_map]; exact hi2
                have hN : (namesD gc)[i] = ys[i].name := by simp only [← HYN.out, List.getElem_map]
                have HT := Lib.hid (show ([nm, ⟨#[]⟩] ++ namesN gc) ++ (namesD gc).take (i + 1) = (([nm, ⟨#[]⟩] ++ namesN gc) ++ (namesD gc).take i) ++ [ys[i].name] by rw [List.take_succ_eq_append_getElem hi3, hN, ← List.append_assoc])
                have hLN : (([nm, ⟨#[]⟩] ++ namesN gc) ++ (namesD gc).take i).length + 1 ≤ 1000000 := by
                  rw [List.length_append, List.length_take]
                  have := HPL.out
                  omega
                generalize ys[i].name = z at *
                generalize ([nm, ⟨#[]⟩] ++ namesN gc) ++ (namesD gc).take i = Lw at *
                have LN := Lib.hid hLN
                have A1 := Lib.hid (below_a1 wr (.cells #[.string z] 9))
                have O1 := Lib.hid (hO.below A1.out)
                have R1 := Lib.hid (one_new wr z)
                have SZ := Lib.hid (Nat.le_trans hb.size A1.out.size)
                clear hO hb hc hLN hN
                go_wp2_with (at_builtin; refine wpList_append_rw (E := encS) rfl _ _ _ rfl Try.underlying40 info_str rfl (by decide) (by decide) rfl rfl O1.out R1.out LN.out SZ.out ?_; intro v5 w5 hO5 hg5 hat5)
                have HB5 := Lib.hid (below_of_grown (B := wN.heap.size) hg5 SZ.out (fun k hk => O1.out.row k hk))
                go_roundg (n2 - (i + 1))
                case rel => exact ⟨i + 1, by omega, by go_num, by rw [HT.out]; exact hO5, (HBr.out.trans (A1.out.mono HBr.out.size)).trans HB5.out⟩
                case measure => omega
              · obtain rfl : n2 = i := by omega
                have ii : ¬ ((n2 : Int) < (n2 : Int)) := by omega
                have hlD : (namesD gc).length = n2 := by rw [← HYN.out, List.length_map]; exact HYL.out
                rw [List.take_of_length_le (Nat.le_of_eq hlD)] at hO
                have HNS : Hid (∀ s ∈ ([nm, ⟨#[]⟩] ++ namesN gc) ++ namesD gc, s.size ≤ maxLen) := Lib.hid (by
                  intro s hs'
                  simp only [List.mem_append, List.mem_cons, List.not_mem_nil, or_false] at hs'
                  rcases hs' with ((rfl | rfl) | h) | h
                  · exact hs
                  · exact Nat.zero_le _
                  · exact name_short HR0.out _ (.inl h)
                  · exact name_short HR0.out _ (.inr h))
                obtain ⟨va, vc, rfl⟩ := hO.shape
                have HN := Lib.hid hO.rw
                obtain ⟨K, hK⟩ : ∃ K : Nat, K = (([nm, ⟨#[]⟩] ++ namesN gc) ++ namesD gc).length := ⟨_, rfl⟩
                have HKL := Lib.hid hK.symm
                rw [← hK] at HN
                rw [← hK]
                have hKb : K ≤ 1000 := by rw [hK, List.length_append, hlD]; exact HPL.out
                clear hK hO
                generalize ([nm, ⟨#[]⟩] ++ namesN gc) ++ namesD gc = NL at *
                have HBm2 := Lib.hid hb
                have HV3 := Lib.hid (HV2.out.keep hb)
                have HE3 := Lib.hid (HE2.out.keep hb)
                have HI3 := Lib.hid (HI2.out.keep hb)
                have HZ3 := Lib.hid (HZ2.out.keep hb)
                have HB3 := Lib.hid (HB2.out.trans (hb.mono HB2.out.size))
                go_wp2_with fail
                clear q0 q1 HVr HBr hb HV2 HE2 HI2 HZ2 HB2 HXS HYS
                generalize wr = wP at *
                go_loopg [20] K (fun gg s20 wr => ∃ i : Nat, gg + i = K ∧ s20 = .int .i64 i ∧ Below wP.heap.size wP wr)
                case atStart => exact ⟨0, rfl, rfl, Below.refl _ _⟩
                case round =>
                  obtain ⟨k, hg, rfl, hb⟩ := hrel
                  by_cases hlt : k < K
                  · have kk : (k : Int) < (K : Int) := by omega
                    have hk : k < NL.length := by rw [HKL.out]; exact hlt
                    obtain ⟨b, o, rfl, hc⟩ := RwS.at (HN.out.keep hb) k hk
                    have hns := HNS.out _ (List.getElem_mem hk)
                    have y2 := hc k hk
                    clear hc
                    generalize NL[k] = s at *
                    have HBr := Lib.hid hb
                    have CF := Lib.hid (find7_any (HI3.out.keep hb) HR0.out s hns)
                    have CE := Lib.hid (fun (u : World) (h : Below wr.heap.size wr u) => finde7_any ((HI3.out.keep hb).keep h) HR0.out s hns)
                    have CN := Lib.hid (fun (u : World) (h : Below wr.heap.size wr u) => rfind_any ((HZ3.out.keep hb).keep h) s)
                    have CD := Lib.hid (fun (u : World) (h : Below wr.heap.size wr u) => rfinde_any ((HZ3.out.keep hb).keep h) s)
                    have HVr := Lib.hid (HV3.out.keep hb)
                    generalize findB (namesN gc) s = f1 at *
                    generalize findB (namesD gc) s = f2 at *
                    clear hb hns
                    go_wp2_with fail
                    (with_reducible refine CF.out.mono ?_); rintro e u1 ⟨rfl, hb1⟩
                    have y3 := (hb1.cell (block_lt_of_cell y2)).trans y2
                    go_wp2_with fail
                    (with_reducible refine (CE.out u1 hb1).mono ?_); rintro e u2 ⟨rfl, hb2⟩
                    have HB12 := Lib.hid (Below.chain hb1 hb2)
                    have y4 := (HB12.out.cell (block_lt_of_cell y2)).trans y2
                    clear y2 y3 hb1 hb2
                    go_wp2_with fail
                    refine wp_region_facts 6 (VQ [.agg #[.slice a1 n1 c1, .slice a2 n2 c2], .slice (some ⟨b, o, none⟩) K vc, .int .i64 (k : Int), .pointer (some ⟨b, o + k, none⟩), .string s, .int .i64 f1]) (fun a b => Below a.heap.size a b) (by kernel_rfl) (by decide) (by kernel_rfl) (by kernel_rfl) (fun a => Below.refl _ _) (fun a b c => Below.chain) (fun i v _ _ h _ => h) ?_ ?_
                    · refine ⟨?_, ?_, ?_, ?_, ?_, ?_, trivial⟩
                      · intro a u hR hF hD
                        have hR1 := below_undrew hR
                        have f5 : a.eval (.tmp 5) = .pointer (some ⟨w.heap.size, 0, none⟩) := hF 5 (by kernel_rfl)
                        simp only [Act.eval, Array.getD_eq_getD_getElem?] at f5
                        have y0 := (HVr.out.keep (Below.chain HB12.out hR1)).cell 0
                        have y1 := (HVr.out.keep (Below.chain HB12.out hR1)).cell 1
                        simp only [List.getElem?_toArray, List.getElem?_cons_zero, List.getElem?_cons_succ] at y0 y1
                        show Oper.wp _ _ _ _ _ _
                        unfold Oper.wp
                        simp only [execOp]
                        go_simp
                        exact ⟨_, rfl, rfl, Below.refl _ _⟩
                      · intro a u hR hF hD
                        have hR1 := below_undrew hR
                        have f17 : a.eval (.tmp 17) = .slice (some ⟨b, o, none⟩) K vc := hF 17 (by kernel_rfl)
                        simp only [Act.eval, Array.getD_eq_getD_getElem?] at f17
                        show Oper.wp _ _ _ _ _ _
                        unfold Oper.wp
                        simp only [execOp]
                        go_simp
                        exact ⟨_, rfl, rfl, Below.refl _ _⟩
                      · intro a u hR hF hD
                        have hR1 := below_undrew hR
                        have f20 : a.eval (.tmp 20) = .int .i64 (k : Int) := hF 20 (by kernel_rfl)
                        simp only [Act.eval, Array.getD_eq_getD_getElem?] at f20
                        show Oper.wp _ _ _ _ _ _
                        unfold Oper.wp
                        simp only [execOp]
                        go_simp
                        exact ⟨_, rfl, rfl, Below.refl _ _⟩
                      · intro a u hR hF hD
                        have hR1 := below_undrew hR
                        have d140 : a.eval (.tmp 140) = .slice (some ⟨b, o, none⟩) K vc := hD 1 (by kernel_rfl)
                        have d141 : a.eval (.tmp 141) = .int .i64 (k : Int) := hD 2 (by kernel_rfl)
                        simp only [Act.eval, Array.getD_eq_getD_getElem?] at d140 d141
                        show Oper.wp _ _ _ _ _ _
                        unfold Oper.wp
                        simp only [execOp]
                        go_simp
                        exact ⟨_, rfl, rfl, Below.refl _ _⟩
                      · intro a u hR hF hD
                        have hR1 := below_undrew hR
                        have d142 : a.eval (.tmp 142) = .pointer (some ⟨b, o + k, none⟩) := hD 3 (by kernel_rfl)
                        simp only [Act.eval, Array.getD_eq_getD_getElem?] at d142
                        have yk := (hR1.cell (block_lt_of_cell y4)).trans y4
                        show Oper.wp _ _ _ _ _ _
                        unfold Oper.wp
                        simp only [execOp]
                        go_simp
                        exact ⟨_, rfl, rfl, Below.refl _ _⟩
                      · intro a u hR hF hD
                        have hR1 := below_undrew hR
                        have d139 : a.eval (.tmp 139) = .agg #[.slice a1 n1 c1, .slice a2 n2 c2] := hD 0 (by kernel_rfl)
                        have d143 : a.eval (.tmp 143) = .string s := hD 4 (by kernel_rfl)
                        simp only [Act.eval, Array.getD_eq_getD_getElem?] at d139 d143
                        show Oper.wp _ _ _ _ _ _
                        unfold Oper.wp
                        simp only [execOp]
                        go_simp
                        (with_reducible refine (CN.out u (Below.chain HB12.out hR1)).mono ?_); rintro e u3 ⟨rfl, hb3⟩
                        exact ⟨_, rfl, rfl, hb3⟩
                    · intro vs u hv hR
                      have hR31 := below_undrew hR
                      have e5 : vs 5 = .int .i64 f1 := hv 5 (by decide)
                      simp only [putAll, List.take, List.drop, Act.put, List.setIfInBounds_toArray, List.set_cons_succ, List.set_cons_zero, Nat.zero_add, Nat.reduceAdd]
                      rw [e5]
                      generalize vs 0 = t0
                      generalize vs 1 = t1
                      generalize vs 2 = t2
                      generalize vs 3 = t3
                      generalize vs 4 = t4
                      clear hv e5 hR
                      have HB13 := Lib.hid (Below.chain HB12.out hR31)
                      have y5 := (hR31.cell (block_lt_of_cell y4)).trans y4
                      clear y4 hR31
                      have y4 := y5
                      clear y5
                      go_wp2_with fail
                      generalize u = uA at *
                      refine wp_region_facts 6 (VQ [.agg #[.slice a1 n1 c1, .slice a2 n2 c2], .slice (some ⟨b, o, none⟩) K vc, .int .i64 (k : Int), .pointer (some ⟨b, o + k, none⟩), .string s, .int .i64 f2]) (fun a b => Below a.heap.size a b) (by kernel_rfl) (by decide) (by kernel_rfl) (by kernel_rfl) (fun a => Below.refl _ _) (fun a b c => Below.chain) (fun i v _ _ h _ => h) ?_ ?_
                      · refine ⟨?_, ?_, ?_, ?_, ?_, ?_, trivial⟩
                        · intro a u hR hF hD
                          have hR1 := below_undrew hR
                          have f5 : a.eval (.tmp 5) = .pointer (some ⟨w.heap.size, 0, none⟩) := hF 5 (by kernel_rfl)
                          simp only [Act.eval, Array.getD_eq_getD_getElem?] at f5
                          have y0 := (HVr.out.keep (Below.chain HB13.out hR1)).cell 0
                          have y1 := (HVr.out.keep (Below.chain HB13.out hR1)).cell 1
                          simp only [List.getElem?_toArray, List.getElem?_cons_zero, List.getElem?_cons_succ] at y0 y1
                          show Oper.wp _ _ _ _ _ _
                          unfold Oper.wp
                          simp only [execOp]
                          go_simp
                          exact ⟨_, rfl, rfl, Below.refl _ _⟩
                        · intro a u hR hF hD
                          have hR1 := below_undrew hR
                          have f17 : a.eval (.tmp 17) = .slice (some ⟨b, o, none⟩) K vc := hF 17 (by kernel_rfl)
                          simp only [Act.eval, Array.getD_eq_getD_getElem?] at f17
                          show Oper.wp _ _ _ _ _ _
                          unfold Oper.wp
                          simp only [execOp]
                          go_simp
                          exact ⟨_, rfl, rfl, Below.refl _ _⟩
                        · intro a u hR hF hD
                          have hR1 := below_undrew hR
                          have f20 : a.eval (.tmp 20) = .int .i64 (k : Int) := hF 20 (by kernel_rfl)
                          simp only [Act.eval, Array.getD_eq_getD_getElem?] at f20
                          show Oper.wp _ _ _ _ _ _
                          unfold Oper.wp
                          simp only [execOp]
                          go_simp
                          exact ⟨_, rfl, rfl, Below.refl _ _⟩
                        · intro a u hR hF hD
                          have hR1 := below_undrew hR
                          have d146 : a.eval (.tmp 146) = .slice (some ⟨b, o, none⟩) K vc := hD 1 (by kernel_rfl)
                          have d147 : a.eval (.tmp 147) = .int .i64 (k : Int) := hD 2 (by kernel_rfl)
                          simp only [Act.eval, Array.getD_eq_getD_getElem?] at d146 d147
                          show Oper.wp _ _ _ _ _ _
                          unfold Oper.wp
                          simp only [execOp]
                          go_simp
                          exact ⟨_, rfl, rfl, Below.refl _ _⟩
                        · intro a u hR hF hD
                          have hR1 := below_undrew hR
                          have d148 : a.eval (.tmp 148) = .pointer (some ⟨b, o + k, none⟩) := hD 3 (by kernel_rfl)
                          simp only [Act.eval, Array.getD_eq_getD_getElem?] at d148
                          have yk := (hR1.cell (block_lt_of_cell y4)).trans y4
                          show Oper.wp _ _ _ _ _ _
                          unfold Oper.wp
                          simp only [execOp]
                          go_simp
                          exact ⟨_, rfl, rfl, Below.refl _ _⟩
                        · intro a u hR hF hD
                          have hR1 := below_undrew hR
                          have d145 : a.eval (.tmp 145) = .agg #[.slice a1 n1 c1, .slice a2 n2 c2] := hD 0 (by kernel_rfl)
                          have d149 : a.eval (.tmp 149) = .string s := hD 4 (by kernel_rfl)
                          simp only [Act.eval, Array.getD_eq_getD_getElem?] at d145 d149
                          show Oper.wp _ _ _ _ _ _
                          unfold Oper.wp
                          simp only [execOp]
                          go_simp
                          (with_reducible refine (CD.out u (Below.chain HB13.out hR1)).mono ?_); rintro e u3 ⟨rfl, hb3⟩
                          exact ⟨_, rfl, rfl, hb3⟩
                      · intro vs u hv hR
                        have hR32 := below_undrew hR
                        have e5 : vs 5 = .int .i64 f2 := hv 5 (by decide)
                        simp only [putAll, List.take, List.drop, Act.put, List.setIfInBounds_toArray, List.set_cons_succ, List.set_cons_zero, Nat.zero_add, Nat.reduceAdd]
                        rw [e5]
                        generalize vs 0 = t0
                        generalize vs 1 = t1
                        generalize vs 2 = t2
                        generalize vs 3 = t3
                        generalize vs 4 = t4
                        clear hv e5 hR
                        have HB14 := Lib.hid (Below.chain HB13.out hR32)
                        clear hR32 y4
                        by_cases h1 : 0 ≤ f1
                        · have e1 : decide (0 ≤ f1) = true := decide_eq_true h1
                          have m1 : max f1 0 = f1 := by omega
                          have n1' : (f1 != f1) = false := by simp
                          by_cases h2 : 0 ≤ f2
                          · have e2 : decide (0 ≤ f2) = true := decide_eq_true h2
                            have m2 : max f2 0 = f2 := by omega
                            have n2' : (f2 != f2) = false := by simp
                            rw [e1, e2, m1, m2]
                            go_wp2_with fail
                            go_roundg (K - (k + 1))
                            case rel => exact ⟨k + 1, by omega, by go_num, HBr.out.trans (HB14.out.mono HBr.out.size)⟩
                            case measure => omega
                          · have e2 : decide (0 ≤ f2) = false := decide_eq_false h2
                            have m2 : max f2 0 = 0 := by omega
                            rw [e1, e2, m1, m2]
                            go_wp2_with fail
                            go_roundg (K - (k + 1))
                            case rel => exact ⟨k + 1, by omega, by go_num, HBr.out.trans (HB14.out.mono HBr.out.size)⟩
                            case measure => omega
                        · have e1 : decide (0 ≤ f1) = false := decide_eq_false h1
                          have m1 : max f1 0 = 0 := by omega
                          by_cases h2 : 0 ≤ f2
                          · have e2 : decide (0 ≤ f2) = true := decide_eq_true h2
                            have m2 : max f2 0 = f2 := by omega
                            have n2' : (f2 != f2) = false := by simp
                            rw [e1, e2, m1, m2]
                            go_wp2_with fail
                            go_roundg (K - (k + 1))
                            case rel => exact ⟨k + 1, by omega, by go_num, HBr.out.trans (HB14.out.mono HBr.out.size)⟩
                            case measure => omega
                          · have e2 : decide (0 ≤ f2) = false := decide_eq_false h2
                            have m2 : max f2 0 = 0 := by omega
                            rw [e1, e2, m1, m2]
                            go_wp2_with fail
                            go_roundg (K - (k + 1))
                            case rel => exact ⟨k + 1, by omega, by go_num, HBr.out.trans (HB14.out.mono HBr.out.size)⟩
                            case measure => omega
                  · obtain rfl : K = k := by omega
                    have kk : ¬ ((K : Int) < (K : Int)) := by omega
                    have HBr := Lib.hid hb
                    have HV4 := Lib.hid (HV3.out.keep hb)
                    have HE4 := Lib.hid (HE3.out.keep hb)
                    have HI4 := Lib.hid (HI3.out.keep hb)
                    have HZ4 := Lib.hid (HZ3.out.keep hb)
                    have HB4 := Lib.hid (HB3.out.trans (hb.mono HB3.out.size))
                    clear hb HV3 HE3 HI3 HZ3 HB3 HBr
                    have hok := look_ok (props_ok HZ4.out eb ei) nm
                    have CP := Lib.hid (fun (u : World) (h : Below wr.heap.size wr u) => prop7_any (HI4.out.keep h) eb ei nm)
                    have CR := Lib.hid (fun (u : World) (h : Below wr.heap.size wr u) => rprop_any (HZ4.out.keep h) eb ei nm)
                    have HSM := Lib.hid (fun u => same2_refl (lookV (propsG gc eb ei) nm) hok u)
                    clear hok
                    generalize lookV (propsG gc eb ei) nm = pr at *
                    obtain ⟨rk, rm, rf, rs⟩ := pr
                    dsimp only [vv] at CP CR HSM
                    go_wp2_with fail
                    refine wp_region_facts 9 (VQ [pv p, .agg #[.bool eb, .int .i64 ei], .string nm, .agg #[.int .i64 rk, .int .i64 rm, .float .f64 rf, .string rs], .agg #[.slice a1 n1 c1, .slice a2 n2 c2], .agg #[.bool eb, .int .i64 ei], .string nm, .agg #[.int .i64 rk, .int .i64 rm, .float .f64 rf, .string rs], .bool true]) (fun a b => Below a.heap.size a b) (by kernel_rfl) (by decide) (by kernel_rfl) (by kernel_rfl) (fun a => Below.refl _ _) (fun a b c => Below.chain) (fun i v _ _ h _ => h) ?_ ?_
                    · refine ⟨?_, ?_, ?_, ?_, ?_, ?_, ?_, ?_, ?_, trivial⟩
                      · intro a u hR hF hD
                        have hR1 := below_undrew hR
                        have f13 : a.eval (.tmp 13) = pv p := hF 13 (by kernel_rfl)
                        simp only [Act.eval, Array.getD_eq_getD_getElem?] at f13
                        show Oper.wp _ _ _ _ _ _
                        unfold Oper.wp
                        simp only [execOp]
                        go_simp
                        exact ⟨_, rfl, rfl, Below.refl _ _⟩
                      · intro a u hR hF hD
                        have hR1 := below_undrew hR
                        have f9 : a.eval (.tmp 9) = .pointer (some ⟨w.heap.size + 1, 0, none⟩) := hF 9 (by kernel_rfl)
                        simp only [Act.eval, Array.getD_eq_getD_getElem?] at f9
                        have y0 := (HE4.out.keep hR1).cell 0
                        have y1 := (HE4.out.keep hR1).cell 1
                        simp only [List.getElem?_toArray, List.getElem?_cons_zero, List.getElem?_cons_succ] at y0 y1
                        show Oper.wp _ _ _ _ _ _
                        unfold Oper.wp
                        simp only [execOp]
                        go_simp
                        exact ⟨_, rfl, rfl, Below.refl _ _⟩
                      · intro a u hR hF hD
                        have hR1 := below_undrew hR
                        have f3 : a.eval (.tmp 3) = .string nm := hF 3 (by kernel_rfl)
                        simp only [Act.eval, Array.getD_eq_getD_getElem?] at f3
                        show Oper.wp _ _ _ _ _ _
                        unfold Oper.wp
                        simp only [execOp]
                        go_simp
                        exact ⟨_, rfl, rfl, Below.refl _ _⟩
                      · intro a u hR hF hD
                        have hR1 := below_undrew hR
                        have d173 : a.eval (.tmp 173) = pv p := hD 0 (by kernel_rfl)
                        have d174 : a.eval (.tmp 174) = .agg #[.bool eb, .int .i64 ei] := hD 1 (by kernel_rfl)
                        have d175 : a.eval (.tmp 175) = .string nm := hD 2 (by kernel_rfl)
                        simp only [Act.eval, Array.getD_eq_getD_getElem?] at d173 d174 d175
                        show Oper.wp _ _ _ _ _ _
                        unfold Oper.wp
                        simp only [execOp]
                        go_simp
                        (with_reducible refine (CP.out u hR1).mono ?_); rintro e u3 ⟨rfl, hb3⟩
                        exact ⟨_, rfl, rfl, hb3⟩
                      · intro a u hR hF hD
                        have hR1 := below_undrew hR
                        have f5 : a.eval (.tmp 5) = .pointer (some ⟨w.heap.size, 0, none⟩) := hF 5 (by kernel_rfl)
                        simp only [Act.eval, Array.getD_eq_getD_getElem?] at f5
                        have y0 := (HV4.out.keep hR1).cell 0
                        have y1 := (HV4.out.keep hR1).cell 1
                        simp only [List.getElem?_toArray, List.getElem?_cons_zero, List.getElem?_cons_succ] at y0 y1
                        show Oper.wp _ _ _ _ _ _
                        unfold Oper.wp
                        simp only [execOp]
                        go_simp
                        exact ⟨_, rfl, rfl, Below.refl _ _⟩
                      · intro a u hR hF hD
                        have hR1 := below_undrew hR
                        have f9 : a.eval (.tmp 9) = .pointer (some ⟨w.heap.size + 1, 0, none⟩) := hF 9 (by kernel_rfl)
                        simp only [Act.eval, Array.getD_eq_getD_getElem?] at f9
                        have y0 := (HE4.out.keep hR1).cell 0
                        have y1 := (HE4.out.keep hR1).cell 1
                        simp only [List.getElem?_toArray, List.getElem?_cons_zero, List.getElem?_cons_succ] at y0 y1
                        show Oper.wp _ _ _ _ _ _
                        unfold Oper.wp
                        simp only [execOp]
                        go_simp
                        exact ⟨_, rfl, rfl, Below.refl _ _⟩
                      · intro a u hR hF hD
                        have hR1 := below_undrew hR
                        have f3 : a.eval (.tmp 3) = .string nm := hF 3 (by kernel_rfl)
                        simp only [Act.eval, Array.getD_eq_getD_getElem?] at f3
                        show Oper.wp _ _ _ _ _ _
                        unfold Oper.wp
                        simp only [execOp]
                        go_simp
                        exact ⟨_, rfl, rfl, Below.refl _ _⟩
                      · intro a u hR hF hD
                        have hR1 := below_undrew hR
                        have d177 : a.eval (.tmp 177) = .agg #[.slice a1 n1 c1, .slice a2 n2 c2] := hD 4 (by kernel_rfl)
                        have d178 : a.eval (.tmp 178) = .agg #[.bool eb, .int .i64 ei] := hD 5 (by kernel_rfl)
                        have d179 : a.eval (.tmp 179) = .string nm := hD 6 (by kernel_rfl)
                        simp only [Act.eval, Array.getD_eq_getD_getElem?] at d177 d178 d179
                        show Oper.wp _ _ _ _ _ _
                        unfold Oper.wp
                        simp only [execOp]
                        go_simp
                        (with_reducible refine (CR.out u hR1).mono ?_); rintro e u3 ⟨rfl, hb3⟩
                        exact ⟨_, rfl, rfl, hb3⟩
                      · intro a u hR hF hD
                        have hR1 := below_undrew hR
                        have d176 : a.eval (.tmp 176) = .agg #[.int .i64 rk, .int .i64 rm, .float .f64 rf, .string rs] := hD 3 (by kernel_rfl)
                        have d180 : a.eval (.tmp 180) = .agg #[.int .i64 rk, .int .i64 rm, .float .f64 rf, .string rs] := hD 7 (by kernel_rfl)
                        simp only [Act.eval, Array.getD_eq_getD_getElem?] at d176 d180
                        show Oper.wp _ _ _ _ _ _
                        unfold Oper.wp
                        simp only [execOp]
                        go_simp
                        (with_reducible refine (HSM.out u).mono ?_); rintro e u3 ⟨rfl, hb3⟩
                        exact ⟨_, rfl, rfl, hb3⟩
                    · intro vs u hv hR
                      have hR35 := below_undrew hR
                      have e8 : vs 8 = .bool true := hv 8 (by decide)
                      simp only [putAll, List.take, List.drop, Act.put, List.setIfInBounds_toArray, List.set_cons_succ, List.set_cons_zero, Nat.zero_add, Nat.reduceAdd]
                      rw [e8]
                      generalize vs 0 = t0
                      generalize vs 1 = t1
                      generalize vs 2 = t2
                      generalize vs 3 = t3
                      generalize vs 4 = t4
                      generalize vs 5 = t5
                      generalize vs 6 = t6
                      generalize vs 7 = t7
                      clear hv e8 hR
                      have HV5 := Lib.hid (HV4.out.keep hR35)
                      have HE5 := Lib.hid (HE4.out.keep hR35)
                      have HI5 := Lib.hid (HI4.out.keep hR35)
                      have HZ5 := Lib.hid (HZ4.out.keep hR35)
                      have HB5 := Lib.hid (HB4.out.trans (hR35.mono HB4.out.size))
                      clear hR35 HV4 HE4 HI4 HZ4 HB4 CP CR HSM
                      go_wp2_with fail
                      generalize u = uA at *
                      refine wp_region_facts 7 (VL p (.agg #[.slice a1 n1 c1, .slice a2 n2 c2]) (.agg #[.bool eb, .int .i64 ei]) (labelsG gc eb ei)) (fun a b => Below a.heap.size a b) (by kernel_rfl) (by decide) (by kernel_rfl) (by kernel_rfl) (fun a => Below.refl _ _) (fun a b c => Below.chain) VL.keep ?_ ?_
                      · refine ⟨?_, ?_, ?_, ?_, ?_, ?_, ?_, trivial⟩
                        · intro a u hR hF hD
                          have hR1 := below_undrew hR
                          have f13 : a.eval (.tmp 13) = pv p := hF 13 (by kernel_rfl)
                          simp only [Act.eval, Array.getD_eq_getD_getElem?] at f13
                          show Oper.wp _ _ _ _ _ _
                          unfold Oper.wp
                          simp only [execOp]
                          go_simp
                          exact ⟨_, rfl, rfl, Below.refl _ _⟩
                        · intro a u hR hF hD
                          have hR1 := below_undrew hR
                          have f9 : a.eval (.tmp 9) = .pointer (some ⟨w.heap.size + 1, 0, none⟩) := hF 9 (by kernel_rfl)
                          simp only [Act.eval, Array.getD_eq_getD_getElem?] at f9
                          have y0 := (HE5.out.keep hR1).cell 0
                          have y1 := (HE5.out.keep hR1).cell 1
                          simp only [List.getElem?_toArray, List.getElem?_cons_zero, List.getElem?_cons_succ] at y0 y1
                          show Oper.wp _ _ _ _ _ _
                          unfold Oper.wp
                          simp only [execOp]
                          go_simp
                          exact ⟨_, rfl, rfl, Below.refl _ _⟩
                        · intro a u hR hF hD
                          have hR1 := below_undrew hR
                          have d182 : a.eval (.tmp 182) = pv p := hD 0 (by kernel_rfl)
                          have d183 : a.eval (.tmp 183) = .agg #[.bool eb, .int .i64 ei] := hD 1 (by kernel_rfl)
                          simp only [Act.eval, Array.getD_eq_getD_getElem?] at d182 d183
                          show Oper.wp _ _ _ _ _ _
                          unfold Oper.wp
                          simp only [execOp]
                          go_simp
                          (with_reducible refine (labels7_any (HI5.out.keep hR1) eb ei).mono ?_); rintro e u3 ⟨v3, rfl, ho3, hb3⟩
                          exact ⟨_, rfl, ho3.rw, hb3⟩
                        · intro a u hR hF hD
                          have hR1 := below_undrew hR
                          have f5 : a.eval (.tmp 5) = .pointer (some ⟨w.heap.size, 0, none⟩) := hF 5 (by kernel_rfl)
                          simp only [Act.eval, Array.getD_eq_getD_getElem?] at f5
                          have y0 := (HV5.out.keep hR1).cell 0
                          have y1 := (HV5.out.keep hR1).cell 1
                          simp only [List.getElem?_toArray, List.getElem?_cons_zero, List.getElem?_cons_succ] at y0 y1
                          show Oper.wp _ _ _ _ _ _
                          unfold Oper.wp
                          simp only [execOp]
                          go_simp
                          exact ⟨_, rfl, rfl, Below.refl _ _⟩
                        · intro a u hR hF hD
                          have hR1 := below_undrew hR
                          have f9 : a.eval (.tmp 9) = .pointer (some ⟨w.heap.size + 1, 0, none⟩) := hF 9 (by kernel_rfl)
                          simp only [Act.eval, Array.getD_eq_getD_getElem?] at f9
                          have y0 := (HE5.out.keep hR1).cell 0
                          have y1 := (HE5.out.keep hR1).cell 1
                          simp only [List.getElem?_toArray, List.getElem?_cons_zero, List.getElem?_cons_succ] at y0 y1
                          show Oper.wp _ _ _ _ _ _
                          unfold Oper.wp
                          simp only [execOp]
                          go_simp
                          exact ⟨_, rfl, rfl, Below.refl _ _⟩
                        · intro a u hR hF hD
                          have hR1 := below_undrew hR
                          have d185 : a.eval (.tmp 185) = .agg #[.slice a1 n1 c1, .slice a2 n2 c2] := hD 3 (by kernel_rfl)
                          have d186 : a.eval (.tmp 186) = .agg #[.bool eb, .int .i64 ei] := hD 4 (by kernel_rfl)
                          simp only [Act.eval, Array.getD_eq_getD_getElem?] at d185 d186
                          show Oper.wp _ _ _ _ _ _
                          unfold Oper.wp
                          simp only [execOp]
                          go_simp
                          (with_reducible refine (rlabels_any (HZ5.out.keep hR1) eb ei).mono ?_); rintro e u3 ⟨s3, rfl, ho3, hb3⟩
                          exact ⟨_, rfl, ho3, hb3⟩
                        · intro a u hR hF hD
                          have hR1 := below_undrew hR
                          have h2 : RwS u (a.eval (.tmp 184)) (labelsG gc eb ei) := hD 2 (by kernel_rfl)
                          have h5 : RwS u (a.eval (.tmp 187)) (labelsG gc eb ei) := hD 5 (by kernel_rfl)
                          obtain ⟨a2, c2, g2⟩ := h2.shape
                          obtain ⟨a5, c5, g5⟩ := h5.shape
                          rw [g2] at h2
                          rw [g5] at h5
                          simp only [Act.eval, Array.getD_eq_getD_getElem?] at g2 g5
                          show Oper.wp _ _ _ _ _ _
                          unfold Oper.wp
                          simp only [execOp]
                          go_simp
                          (with_reducible refine (sames_refl _ _ _ u h2 h5).mono ?_); rintro e u3 ⟨rfl, hb3⟩
                          exact ⟨_, rfl, rfl, hb3⟩
                      · intro vs u hv hR
                        have hR36 := below_undrew hR
                        have e6 : vs 6 = .bool true := hv 6 (by decide)
                        simp only [putAll, List.take, List.drop, Act.put, List.setIfInBounds_toArray, List.set_cons_succ, List.set_cons_zero, Nat.zero_add, Nat.reduceAdd]
                        rw [e6]
                        generalize vs 0 = t0
                        generalize vs 1 = t1
                        generalize vs 2 = t2
                        generalize vs 3 = t3
                        generalize vs 4 = t4
                        generalize vs 5 = t5
                        clear hv e6 hR
                        have HV6 := Lib.hid (HV5.out.keep hR36)
                        have HE6 := Lib.hid (HE5.out.keep hR36)
                        have HI6 := Lib.hid (HI5.out.keep hR36)
                        have HZ6 := Lib.hid (HZ5.out.keep hR36)
                        have HB6 := Lib.hid (HB5.out.trans (hR36.mono HB5.out.size))
                        clear hR36 HV5 HE5 HI5 HZ5 HB5
                        go_wp2_with fail
                        generalize u = uB at *
                        refine wp_region_facts 24 (VE p node dir (.agg #[.slice a1 n1 c1, .slice a2 n2 c2]) (outG gc node dir) gc) (fun a b => Below a.heap.size a b) (by kernel_rfl) (by decide) (by kernel_rfl) (by kernel_rfl) (fun a => Below.refl _ _) (fun a b c => Below.chain) VE.keep ?_ ?_
                        · refine ⟨?_, ?_, ?_, ?_, ?_, ?_, ?_, ?_, ?_, ?_, ?_, ?_, ?_, ?_, ?_, ?_, ?_, ?_, ?_, ?_, ?_, ?_, ?_, ?_, trivial⟩
                          · intro a u hR hF hD
                            have hR1 := below_undrew hR
                            have f11 : a.eval (.tmp 11) = .bool true := hF 11 (by kernel_rfl)
                            simp only [Act.eval, Array.getD_eq_getD_getElem?] at f11
                            show Oper.wp _ _ _ _ _ _
                            unfold Oper.wp
                            simp only [execOp]
                            go_simp
                            exact ⟨_, rfl, rfl, Below.refl _ _⟩
                          · intro a u hR hF hD
                            have hR1 := below_undrew hR
                            have d189 : a.eval (.tmp 189) = .bool true := hD 0 (by kernel_rfl)
                            simp only [Act.eval, Array.getD_eq_getD_getElem?] at d189
                            show Oper.wp _ _ _ _ _ _
                            unfold Oper.wp
                            simp only [execOp]
                            go_simp
                            exact ⟨_, rfl, rfl, Below.refl _ _⟩
                          · intro a u hR hF hD
                            have wg : a.eval (.tmp 190) = .bool true := hD 1 (by kernel_rfl)
                            refine ⟨fun _ => ?_, fun hw => ?_⟩
                            · have hR1 := below_undrew hR
                              have f27 : a.eval (.tmp 27) = .bool true := hF 27 (by kernel_rfl)
                              simp only [Act.eval, Array.getD_eq_getD_getElem?] at f27
                              show Oper.wp _ _ _ _ _ _
                              unfold Oper.wp
                              simp only [execOp]
                              go_simp
                              exact ⟨_, rfl, rfl, Below.refl _ _⟩
                            · exact absurd (hw.symm.trans (wanted_at rfl rfl rfl wg)) (by decide)
                          · intro a u hR hF hD
                            have hR1 := below_undrew hR
                            have d190 : a.eval (.tmp 190) = .bool true := hD 1 (by kernel_rfl)
                            have d191 : a.eval (.tmp 191) = .bool true := hD 2 (by kernel_rfl)
                            simp only [Act.eval, Array.getD_eq_getD_getElem?] at d190 d191
                            show Oper.wp _ _ _ _ _ _
                            unfold Oper.wp
                            simp only [execOp]
                            go_simp
                            exact ⟨_, rfl, rfl, Below.refl _ _⟩
                          · intro a u hR hF hD
                            have hR1 := below_undrew hR
                            have d192 : a.eval (.tmp 192) = .bool true := hD 3 (by kernel_rfl)
                            simp only [Act.eval, Array.getD_eq_getD_getElem?] at d192
                            show Oper.wp _ _ _ _ _ _
                            unfold Oper.wp
                            simp only [execOp]
                            go_simp
                            exact ⟨_, rfl, rfl, Below.refl _ _⟩
                          · intro a u hR hF hD
                            have wg : a.eval (.tmp 193) = .bool true := hD 4 (by kernel_rfl)
                            refine ⟨fun _ => ?_, fun hw => ?_⟩
                            · have hR1 := below_undrew hR
                              have f28 : a.eval (.tmp 28) = .bool true := hF 28 (by kernel_rfl)
                              simp only [Act.eval, Array.getD_eq_getD_getElem?] at f28
                              show Oper.wp _ _ _ _ _ _
                              unfold Oper.wp
                              simp only [execOp]
                              go_simp
                              exact ⟨_, rfl, rfl, Below.refl _ _⟩
                            · exact absurd (hw.symm.trans (wanted_at rfl rfl rfl wg)) (by decide)
                          · intro a u hR hF hD
                            have hR1 := below_undrew hR
                            have d193 : a.eval (.tmp 193) = .bool true := hD 4 (by kernel_rfl)
                            have d194 : a.eval (.tmp 194) = .bool true := hD 5 (by kernel_rfl)
                            simp only [Act.eval, Array.getD_eq_getD_getElem?] at d193 d194
                            show Oper.wp _ _ _ _ _ _
                            unfold Oper.wp
                            simp only [execOp]
                            go_simp
                            exact ⟨_, rfl, rfl, Below.refl _ _⟩
                          · intro a u hR hF hD
                            have hR1 := below_undrew hR
                            have d195 : a.eval (.tmp 195) = .bool true := hD 6 (by kernel_rfl)
                            simp only [Act.eval, Array.getD_eq_getD_getElem?] at d195
                            show Oper.wp _ _ _ _ _ _
                            unfold Oper.wp
                            simp only [execOp]
                            go_simp
                            exact ⟨_, rfl, rfl, Below.refl _ _⟩
                          · intro a u hR hF hD
                            have wg : a.eval (.tmp 196) = .bool true := hD 7 (by kernel_rfl)
                            refine ⟨fun _ => ?_, fun hw => ?_⟩
                            · have hR1 := below_undrew hR
                              have f13 : a.eval (.tmp 13) = pv p := hF 13 (by kernel_rfl)
                              simp only [Act.eval, Array.getD_eq_getD_getElem?] at f13
                              show Oper.wp _ _ _ _ _ _
                              unfold Oper.wp
                              simp only [execOp]
                              go_simp
                              exact ⟨_, rfl, rfl, Below.refl _ _⟩
                            · exact absurd (hw.symm.trans (wanted_at rfl rfl rfl wg)) (by decide)
                          · intro a u hR hF hD
                            have wg : a.eval (.tmp 196) = .bool true := hD 7 (by kernel_rfl)
                            refine ⟨fun _ => ?_, fun hw => ?_⟩
                            · have hR1 := below_undrew hR
                              have f1 : a.eval (.tmp 1) = .int .i64 node := hF 1 (by kernel_rfl)
                              simp only [Act.eval, Array.getD_eq_getD_getElem?] at f1
                              show Oper.wp _ _ _ _ _ _
                              unfold Oper.wp
                              simp only [execOp]
                              go_simp
                              exact ⟨_, rfl, rfl, Below.refl _ _⟩
                            · exact absurd (hw.symm.trans (wanted_at rfl rfl rfl wg)) (by decide)
                          · intro a u hR hF hD
                            have wg : a.eval (.tmp 196) = .bool true := hD 7 (by kernel_rfl)
                            refine ⟨fun _ => ?_, fun hw => ?_⟩
                            · have hR1 := below_undrew hR
                              have f2 : a.eval (.tmp 2) = .int .i64 dir := hF 2 (by kernel_rfl)
                              simp only [Act.eval, Array.getD_eq_getD_getElem?] at f2
                              show Oper.wp _ _ _ _ _ _
                              unfold Oper.wp
                              simp only [execOp]
                              go_simp
                              exact ⟨_, rfl, rfl, Below.refl _ _⟩
                            · exact absurd (hw.symm.trans (wanted_at rfl rfl rfl wg)) (by decide)
                          · intro a u hR hF hD
                            have wg : a.eval (.tmp 196) = .bool true := hD 7 (by kernel_rfl)
                            refine ⟨fun _ => ?_, fun hw => ?_⟩
                            · have hR1 := below_undrew hR
                              have d197 : a.eval (.tmp 197) = pv p := hD 8 (by kernel_rfl)
                              have d198 : a.eval (.tmp 198) = .int .i64 node := hD 9 (by kernel_rfl)
                              have d199 : a.eval (.tmp 199) = .int .i64 dir := hD 10 (by kernel_rfl)
                              simp only [Act.eval, Array.getD_eq_getD_getElem?] at d197 d198 d199
                              show Oper.wp _ _ _ _ _ _
                              unfold Oper.wp
                              simp only [execOp]
                              go_simp
                              (with_reducible refine (out7_any (HI6.out.keep hR1) HM.out node dir).mono ?_); rintro e u3 ⟨v3, rfl, ho3, hb3⟩
                              exact ⟨_, rfl, ho3.rw, hb3⟩
                            · exact absurd (hw.symm.trans (wanted_at rfl rfl rfl wg)) (by decide)
                          · intro a u hR hF hD
                            have wg : a.eval (.tmp 196) = .bool true := hD 7 (by kernel_rfl)
                            refine ⟨fun _ => ?_, fun hw => ?_⟩
                            · have hR1 := below_undrew hR
                              have f5 : a.eval (.tmp 5) = .pointer (some ⟨w.heap.size, 0, none⟩) := hF 5 (by kernel_rfl)
                              simp only [Act.eval, Array.getD_eq_getD_getElem?] at f5
                              have y0 := (HV6.out.keep hR1).cell 0
                              have y1 := (HV6.out.keep hR1).cell 1
                              simp only [List.getElem?_toArray, List.getElem?_cons_zero, List.getElem?_cons_succ] at y0 y1
                              show Oper.wp _ _ _ _ _ _
                              unfold Oper.wp
                              simp only [execOp]
                              go_simp
                              exact ⟨_, rfl, rfl, Below.refl _ _⟩
                            · exact absurd (hw.symm.trans (wanted_at rfl rfl rfl wg)) (by decide)
                          · intro a u hR hF hD
                            have wg : a.eval (.tmp 196) = .bool true := hD 7 (by kernel_rfl)
                            refine ⟨fun _ => ?_, fun hw => ?_⟩
                            · have hR1 := below_undrew hR
                              have f1 : a.eval (.tmp 1) = .int .i64 node := hF 1 (by kernel_rfl)
                              simp only [Act.eval, Array.getD_eq_getD_getElem?] at f1
                              show Oper.wp _ _ _ _ _ _
                              unfold Oper.wp
                              simp only [execOp]
                              go_simp
                              exact ⟨_, rfl, rfl, Below.refl _ _⟩
                            · exact absurd (hw.symm.trans (wanted_at rfl rfl rfl wg)) (by decide)
                          · intro a u hR hF hD
                            have wg : a.eval (.tmp 196) = .bool true := hD 7 (by kernel_rfl)
                            refine ⟨fun _ => ?_, fun hw => ?_⟩
                            · have hR1 := below_undrew hR
                              have f2 : a.eval (.tmp 2) = .int .i64 dir := hF 2 (by kernel_rfl)
                              simp only [Act.eval, Array.getD_eq_getD_getElem?] at f2
                              show Oper.wp _ _ _ _ _ _
                              unfold Oper.wp
                              simp only [execOp]
                              go_simp
                              exact ⟨_, rfl, rfl, Below.refl _ _⟩
                            · exact absurd (hw.symm.trans (wanted_at rfl rfl rfl wg)) (by decide)
                          · intro a u hR hF hD
                            have wg : a.eval (.tmp 196) = .bool true := hD 7 (by kernel_rfl)
                            refine ⟨fun _ => ?_, fun hw => ?_⟩
                            · have hR1 := below_undrew hR
                              have d201 : a.eval (.tmp 201) = .agg #[.slice a1 n1 c1, .slice a2 n2 c2] := hD 12 (by kernel_rfl)
                              have d202 : a.eval (.tmp 202) = .int .i64 node := hD 13 (by kernel_rfl)
                              have d203 : a.eval (.tmp 203) = .int .i64 dir := hD 14 (by kernel_rfl)
                              simp only [Act.eval, Array.getD_eq_getD_getElem?] at d201 d202 d203
                              show Oper.wp _ _ _ _ _ _
                              unfold Oper.wp
                              simp only [execOp]
                              go_simp
                              (with_reducible refine (rout_any (HZ6.out.keep hR1) HR0.out node dir).mono ?_); rintro e u3 ⟨v3, rfl, ho3, hb3⟩
                              exact ⟨_, rfl, ho3.rw, hb3⟩
                            · exact absurd (hw.symm.trans (wanted_at rfl rfl rfl wg)) (by decide)
                          · intro a u hR hF hD
                            have wg : a.eval (.tmp 196) = .bool true := hD 7 (by kernel_rfl)
                            refine ⟨fun _ => ?_, fun hw => ?_⟩
                            · have hR1 := below_undrew hR
                              have h3 : RwT u (a.eval (.tmp 200)) (outG gc node dir) := hD 11 (by kernel_rfl)
                              have h7 : RwT u (a.eval (.tmp 204)) (outG gc node dir) := hD 15 (by kernel_rfl)
                              obtain ⟨a3, c3, g3⟩ := h3.shape
                              obtain ⟨a7, c7, g7⟩ := h7.shape
                              rw [g3] at h3
                              rw [g7] at h7
                              simp only [Act.eval, Array.getD_eq_getD_getElem?] at g3 g7
                              show Oper.wp _ _ _ _ _ _
                              unfold Oper.wp
                              simp only [execOp]
                              go_simp
                              (with_reducible refine (samesteps_any _ _ _ _ u h3 h7).mono ?_); rintro e u3 ⟨rfl, hb3⟩; rw [decide_eq_true rfl]
                              exact ⟨_, rfl, rfl, hb3⟩
                            · exact absurd (hw.symm.trans (wanted_at rfl rfl rfl wg)) (by decide)
                          · intro a u hR hF hD
                            have hR1 := below_undrew hR
                            have d196 : a.eval (.tmp 196) = .bool true := hD 7 (by kernel_rfl)
                            have d205 : a.eval (.tmp 205) = .bool true := hD 16 (by kernel_rfl)
                            simp only [Act.eval, Array.getD_eq_getD_getElem?] at d196 d205
                            show Oper.wp _ _ _ _ _ _
                            unfold Oper.wp
                            simp only [execOp]
                            go_simp
                            exact ⟨_, rfl, rfl, Below.refl _ _⟩
                          · intro a u hR hF hD
                            have hR1 := below_undrew hR
                            have d206 : a.eval (.tmp 206) = .bool true := hD 17 (by kernel_rfl)
                            simp only [Act.eval, Array.getD_eq_getD_getElem?] at d206
                            show Oper.wp _ _ _ _ _ _
                            unfold Oper.wp
                            simp only [execOp]
                            go_simp
                            exact ⟨_, rfl, rfl, Below.refl _ _⟩
                          · intro a u hR hF hD
                            have wg : a.eval (.tmp 207) = .bool true := hD 18 (by kernel_rfl)
                            refine ⟨fun _ => ?_, fun hw => ?_⟩
                            · have hR1 := below_undrew hR
                              have f13 : a.eval (.tmp 13) = pv p := hF 13 (by kernel_rfl)
                              simp only [Act.eval, Array.getD_eq_getD_getElem?] at f13
                              show Oper.wp _ _ _ _ _ _
                              unfold Oper.wp
                              simp only [execOp]
                              go_simp
                              exact ⟨_, rfl, rfl, Below.refl _ _⟩
                            · exact absurd (hw.symm.trans (wanted_at rfl rfl rfl wg)) (by decide)
                          · intro a u hR hF hD
                            have wg : a.eval (.tmp 207) = .bool true := hD 18 (by kernel_rfl)
                            refine ⟨fun _ => ?_, fun hw => ?_⟩
                            · have hR1 := below_undrew hR
                              have d208 : a.eval (.tmp 208) = pv p := hD 19 (by kernel_rfl)
                              simp only [Act.eval, Array.getD_eq_getD_getElem?] at d208
                              show Oper.wp _ _ _ _ _ _
                              unfold Oper.wp
                              simp only [execOp]
                              go_simp
                              (with_reducible refine (graph7_any (HI6.out.keep hR1) HN1.out HM.out).mono ?_); rintro e u3 ⟨x3, rfl, ho3, hb3⟩
                              exact ⟨_, rfl, ⟨x3, rfl, ho3⟩, hb3⟩
                            · exact absurd (hw.symm.trans (wanted_at rfl rfl rfl wg)) (by decide)
                          · intro a u hR hF hD
                            have wg : a.eval (.tmp 207) = .bool true := hD 18 (by kernel_rfl)
                            refine ⟨fun _ => ?_, fun hw => ?_⟩
                            · have hR1 := below_undrew hR
                              have f5 : a.eval (.tmp 5) = .pointer (some ⟨w.heap.size, 0, none⟩) := hF 5 (by kernel_rfl)
                              simp only [Act.eval, Array.getD_eq_getD_getElem?] at f5
                              have y0 := (HV6.out.keep hR1).cell 0
                              have y1 := (HV6.out.keep hR1).cell 1
                              simp only [List.getElem?_toArray, List.getElem?_cons_zero, List.getElem?_cons_succ] at y0 y1
                              show Oper.wp _ _ _ _ _ _
                              unfold Oper.wp
                              simp only [execOp]
                              go_simp
                              exact ⟨_, rfl, rfl, Below.refl _ _⟩
                            · exact absurd (hw.symm.trans (wanted_at rfl rfl rfl wg)) (by decide)
                          · intro a u hR hF hD
                            have wg : a.eval (.tmp 207) = .bool true := hD 18 (by kernel_rfl)
                            refine ⟨fun _ => ?_, fun hw => ?_⟩
                            · have hR1 := below_undrew hR
                              obtain ⟨x3, g3, hx3⟩ : ∃ x, a.eval (.tmp 209) = gv x ∧ Gz u gc x := hD 20 (by kernel_rfl)
                              have g4 : a.eval (.tmp 210) = .agg #[.slice a1 n1 c1, .slice a2 n2 c2] := hD 21 (by kernel_rfl)
                              simp only [Act.eval, Array.getD_eq_getD_getElem?] at g3 g4
                              show Oper.wp _ _ _ _ _ _
                              unfold Oper.wp
                              simp only [execOp]
                              go_simp
                              (with_reducible refine (rsameg_any hx3 (HZ6.out.keep hR1)).mono ?_); rintro e u3 ⟨rfl, hb3⟩
                              exact ⟨_, rfl, rfl, hb3⟩
                            · exact absurd (hw.symm.trans (wanted_at rfl rfl rfl wg)) (by decide)
                          · intro a u hR hF hD
                            have hR1 := below_undrew hR
                            have d207 : a.eval (.tmp 207) = .bool true := hD 18 (by kernel_rfl)
                            have d211 : a.eval (.tmp 211) = .bool true := hD 22 (by kernel_rfl)
                            simp only [Act.eval, Array.getD_eq_getD_getElem?] at d207 d211
                            show Oper.wp _ _ _ _ _ _
                            unfold Oper.wp
                            simp only [execOp]
                            go_simp
                            exact ⟨_, rfl, rfl, Below.refl _ _⟩
                        · intro vs u hv hR
                          have hR37 := below_undrew hR
                          have e23 : vs 23 = .bool true := hv 23 (by decide)
                          simp only [putAll, List.take, List.drop, Act.put, List.setIfInBounds_toArray, List.set_cons_succ, List.set_cons_zero, Nat.zero_add, Nat.reduceAdd]
                          rw [e23]
                          generalize vs 0 = t0
                          generalize vs 1 = t1
                          generalize vs 2 = t2
                          generalize vs 3 = t3
                          generalize vs 4 = t4
                          generalize vs 5 = t5
                          generalize vs 6 = t6
                          generalize vs 7 = t7
                          generalize vs 8 = t8
                          generalize vs 9 = t9
                          generalize vs 10 = t10
                          generalize vs 11 = t11
                          generalize vs 12 = t12
                          generalize vs 13 = t13
                          generalize vs 14 = t14
                          generalize vs 15 = t15
                          generalize vs 16 = t16
                          generalize vs 17 = t17
                          generalize vs 18 = t18
                          generalize vs 19 = t19
                          generalize vs 20 = t20
                          generalize vs 21 = t21
                          generalize vs 22 = t22
                          clear hv e23 hR
                          have HB7 := Lib.hid (HB6.out.trans (hR37.mono HB6.out.size))
                          clear hR37
                          go_wp2_with fail
                          go_ret
                          exact ⟨rfl, HB7.out⟩
  · have q2 : (rightG gc != 0) = true := by simpa using hr
    have q3 : (rightG gc != rightG gc) = false := by simp
    go_wp2_with fail
    have CR := right7_any HZd.out
    dsimp only [gv, Sl.v] at CR
    (with_reducible refine CR.mono ?_); clear CR; rintro e wE ⟨rfl, hbE⟩
    go_wp2_with fail
    go_ret
    exact ⟨rfl, HBd.out.trans (hbE.mono HBd.out.size)⟩
end Go.Proofs.Ytdoefndppoglfaa.GraphTells
