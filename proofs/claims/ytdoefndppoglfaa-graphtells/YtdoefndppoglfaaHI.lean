import Derived.Test.YtdoefndppoglfaaHE
namespace Go.Proofs.Ytdoefndppoglfaa
open Go.ChangeShapes Go.WideShapes Go.ChangeAt Go.RowKit
set_option linter.unusedVariables false
/-- what stands in the slots of few's region -/
def VF (B0 : Nat) (ao bo : Option Addr) (L cap M cbp c d : Nat) (i : Nat) (v : Value) (_ : World) : Prop := match i with
  | 0 => v = .pointer (some ⟨B0, 0, none⟩)
  | 1 => v = .slice ao L cap
  | 2 => v = .pointer (some ⟨B0, 0, none⟩)
  | 3 => v = .slice ao L cap
  | 4 => v = .int .i64 L
  | 5 => v = .int .i64 50
  | 6 => v = .int .i64 c
  | 7 => v = .slice ao c cap
  | 8 => v = .pointer (some ⟨B0, 1, none⟩)
  | 9 => v = .slice bo M cbp
  | 10 => v = .pointer (some ⟨B0, 1, none⟩)
  | 11 => v = .slice bo M cbp
  | 12 => v = .int .i64 M
  | 13 => v = .int .i64 50
  | 14 => v = .int .i64 d
  | 15 => v = .slice bo d cbp
  | 16 => v = .agg #[.slice ao c cap, .slice bo d cbp]
  | _ => True
/-- a graph of at most fifty nodes and edges -/
def cutG (g : Gd) : Gd := ⟨g.nodes.take 50, g.edges.take 50⟩
theorem cutG_nodes (g : Gd) : (cutG g).nodes.length ≤ 50 := by simp [cutG]; omega
theorem cutG_edges (g : Gd) : (cutG g).edges.length ≤ 50 := by simp [cutG]; omega
theorem ns_take {w : World} {l : List Nd} {xs : List Nx} (h : Ns w l xs) (c : Nat) : Ns w (l.take c) (xs.take c) := by
  refine ⟨by rw [List.length_take, List.length_take, h.1], fun i hi hi' => ?_⟩
  rw [List.getElem_take, List.getElem_take]
  exact h.2 i _ _
theorem ds_take {w : World} {l : List Ed} {xs : List Dx} (h : Ds w l xs) (c : Nat) : Ds w (l.take c) (xs.take c) := by
  refine ⟨by rw [List.length_take, List.length_take, h.1], fun i hi hi' => ?_⟩
  rw [List.getElem_take, List.getElem_take]
  exact h.2 i _ _
theorem take_min {α : Type} (l : List α) (n c : Nat) (hc : (l.length ≤ n ∧ c = l.length) ∨ (n < l.length ∧ c = n)) : l.take c = l.take n := by
  rcases hc with ⟨h, rfl⟩ | ⟨_, rfl⟩
  · rw [List.take_of_length_le (Nat.le_refl _), List.take_of_length_le h]
  · rfl
set_option maxHeartbeats 1000000 in
theorem few_any {g : Gd} {x : Gx} {w : World} (h : Gz w g x) :
    Calls Try.prog 9 #[gv x, .int .i64 50] w fun e w' => ∃ y, e = .returned (gv y) ∧ Gz w' (cutG g) y ∧ Below w.heap.size w w' := by
  have HZ := Lib.hid h
  obtain ⟨⟨xs, hx, hn⟩, ⟨ys, hy, hd⟩, hl1, hl2⟩ := h
  obtain ⟨⟨ao, L, cap⟩, ⟨bo, M, cbp⟩⟩ := x
  have hL := hx.hd
  have hM := hy.hd
  dsimp only [Sl.v] at hx hy hL hM
  have hcapL : L ≤ cap := by obtain ⟨_, _, e, h1, -⟩ := hx; cases e; omega
  have hcapM : M ≤ cbp := by obtain ⟨_, _, e, h1, -⟩ := hy; cases e; omega
  have mL : L ≤ 9223372036854775807 := hL.2
  have mM : M ≤ 9223372036854775807 := hM.2
  have HnL := Lib.hid (show g.nodes.length = L from hn.1.trans hL.1)
  have HnM := Lib.hid (show g.edges.length = M from hd.1.trans hM.1)
  have HX := Lib.hid hx
  have HY := Lib.hid hy
  have HN := Lib.hid hn
  have HD := Lib.hid hd
  have HxL := Lib.hid hL.1
  have HyM := Lib.hid hM.1
  have Hl1 := Lib.hid hl1
  have Hl2 := Lib.hid hl2
  clear hx hy hn hd hL hM hl1 hl2 HZ
  obtain ⟨c, hc⟩ : ∃ c, (L ≤ 50 ∧ c = L) ∨ (50 < L ∧ c = 50) := by
    by_cases h : L ≤ 50
    · exact ⟨L, .inl ⟨h, rfl⟩⟩
    · exact ⟨50, .inr ⟨by omega, rfl⟩⟩
  obtain ⟨d, hd⟩ : ∃ d, (M ≤ 50 ∧ d = M) ∨ (50 < M ∧ d = 50) := by
    by_cases h : M ≤ 50
    · exact ⟨M, .inl ⟨h, rfl⟩⟩
    · exact ⟨50, .inr ⟨by omega, rfl⟩⟩
  have hcL : c ≤ L := by omega
  have hdM : d ≤ M := by omega
  have Hc := Lib.hid hc
  have Hd := Lib.hid hd
  clear hc hd
  have VG := Lib.hid (((Vr.new w 25 #[.slice ao L cap, .slice bo M cbp]).al (o := .cells #[.slice none 0 0, .slice none 0 0] 25)))
  have VR := Lib.hid (Vr.at' (w.alloc (.cells #[.slice ao L cap, .slice bo M cbp] 25)) 25 #[.slice none 0 0, .slice none 0 0] (w.heap.size + 1) (by simp))
  have HB := Lib.hid (show Below w.heap.size w ((w.alloc (.cells #[.slice ao L cap, .slice bo M cbp] 25)).alloc (.cells #[.slice none 0 0, .slice none 0 0] 25)) from bl_al (bl_al (Below.refl _ _)))
  dsimp only [gv, Sl.v]
  go_enter Try.func9, Try.ntmps9
  go_wp2_with fail
  refine wp_region_facts 17 (VF w.heap.size ao bo L cap M cbp c d) (fun a b => Below a.heap.size a b) (by kernel_rfl) (by decide) (by kernel_rfl) (by kernel_rfl) (fun a => Below.refl _ _) (fun a b c => Below.chain) (fun i v _ _ h _ => h) ?_ ?_
  · refine ⟨?_, ?_, ?_, ?_, ?_, ?_, ?_, ?_, ?_, ?_, ?_, ?_, ?_, ?_, ?_, ?_, ?_, trivial⟩
    · intro a u hR hF hD
      have hR1 := below_undrew hR
      have f2 : a.eval (.tmp 2) = .pointer (some ⟨w.heap.size, 0, none⟩) := hF 2 (by kernel_rfl)
      simp only [Act.eval, Array.getD_eq_getD_getElem?] at f2
      show Oper.wp _ _ _ _ _ _
      unfold Oper.wp
      simp only [execOp]
      go_simp
      exact ⟨_, rfl, rfl, Below.refl _ _⟩
    · intro a u hR hF hD
      have hR1 := below_undrew hR
      have d5 : a.eval (.tmp 5) = .pointer (some ⟨w.heap.size, 0, none⟩) := hD 0 (by kernel_rfl)
      simp only [Act.eval, Array.getD_eq_getD_getElem?] at d5
      have q0 := (VG.out.keep hR1).cell 0
      simp only [List.getElem?_toArray, List.getElem?_cons_zero] at q0
      show Oper.wp _ _ _ _ _ _
      unfold Oper.wp
      simp only [execOp]
      go_simp
      exact ⟨_, rfl, rfl, Below.refl _ _⟩
    · intro a u hR hF hD
      have hR1 := below_undrew hR
      have f2 : a.eval (.tmp 2) = .pointer (some ⟨w.heap.size, 0, none⟩) := hF 2 (by kernel_rfl)
      simp only [Act.eval, Array.getD_eq_getD_getElem?] at f2
      show Oper.wp _ _ _ _ _ _
      unfold Oper.wp
      simp only [execOp]
      go_simp
      exact ⟨_, rfl, rfl, Below.refl _ _⟩
    · intro a u hR hF hD
      have hR1 := below_undrew hR
      have d7 : a.eval (.tmp 7) = .pointer (some ⟨w.heap.size, 0, none⟩) := hD 2 (by kernel_rfl)
      simp only [Act.eval, Array.getD_eq_getD_getElem?] at d7
      have q0 := (VG.out.keep hR1).cell 0
      simp only [List.getElem?_toArray, List.getElem?_cons_zero] at q0
      show Oper.wp _ _ _ _ _ _
      unfold Oper.wp
      simp only [execOp]
      go_simp
      exact ⟨_, rfl, rfl, Below.refl _ _⟩
    · intro a u hR hF hD
      have hR1 := below_undrew hR
      have d8 : a.eval (.tmp 8) = .slice ao L cap := hD 3 (by kernel_rfl)
      simp only [Act.eval, Array.getD_eq_getD_getElem?] at d8
      show Oper.wp _ _ _ _ _ _
      unfold Oper.wp
      simp only [execOp]
      go_simp
      exact ⟨_, rfl, rfl, Below.refl _ _⟩
    · intro a u hR hF hD
      have hR1 := below_undrew hR
      have f1 : a.eval (.tmp 1) = .int .i64 50 := hF 1 (by kernel_rfl)
      simp only [Act.eval, Array.getD_eq_getD_getElem?] at f1
      show Oper.wp _ _ _ _ _ _
      unfold Oper.wp
      simp only [execOp]
      go_simp
      exact ⟨_, rfl, rfl, Below.refl _ _⟩
    · intro a u hR hF hD
      have d9 : a.eval (.tmp 9) = .int .i64 (L : Int) := hD 4 (by kernel_rfl)
      have d10 : a.eval (.tmp 10) = .int .i64 50 := hD 5 (by kernel_rfl)
      simp only [Act.eval, Array.getD_eq_getD_getElem?] at d9 d10
      rcases Hc.out with ⟨hl, he⟩ | ⟨hl, he⟩
      · have ii : ¬ ((50 : Int) < (L : Int)) := by omega
        show Oper.wp _ _ _ _ _ _
        unfold Oper.wp
        simp only [execOp]
        go_simp
        exact ⟨_, rfl, rfl, Below.refl _ _⟩
      · have ii : (50 : Int) < (L : Int) := by omega
        show Oper.wp _ _ _ _ _ _
        unfold Oper.wp
        simp only [execOp]
        go_simp
        exact ⟨_, rfl, rfl, Below.refl _ _⟩
    · intro a u hR hF hD
      have hR1 := below_undrew hR
      have d6 : a.eval (.tmp 6) = .slice ao L cap := hD 1 (by kernel_rfl)
      have d11 : a.eval (.tmp 11) = .int .i64 (c : Int) := hD 6 (by kernel_rfl)
      simp only [Act.eval, Array.getD_eq_getD_getElem?] at d6 d11
      have i1 : (c : Int) ≤ (cap : Int) := by omega
      have i2 : c ≤ cap := by omega
      show Oper.wp _ _ _ _ _ _
      unfold Oper.wp
      simp only [execOp]
      go_simp
      exact ⟨_, rfl, rfl, Below.refl _ _⟩
    · intro a u hR hF hD
      have hR1 := below_undrew hR
      have f2 : a.eval (.tmp 2) = .pointer (some ⟨w.heap.size, 0, none⟩) := hF 2 (by kernel_rfl)
      simp only [Act.eval, Array.getD_eq_getD_getElem?] at f2
      show Oper.wp _ _ _ _ _ _
      unfold Oper.wp
      simp only [execOp]
      go_simp
      exact ⟨_, rfl, rfl, Below.refl _ _⟩
    · intro a u hR hF hD
      have hR1 := below_undrew hR
      have d13 : a.eval (.tmp 13) = .pointer (some ⟨w.heap.size, 1, none⟩) := hD 8 (by kernel_rfl)
      simp only [Act.eval, Array.getD_eq_getD_getElem?] at d13
      have q0 := (VG.out.keep hR1).cell 1
      simp only [List.getElem?_toArray, List.getElem?_cons_zero, List.getElem?_cons_succ] at q0
      show Oper.wp _ _ _ _ _ _
      unfold Oper.wp
      simp only [execOp]
      go_simp
      exact ⟨_, rfl, rfl, Below.refl _ _⟩
    · intro a u hR hF hD
      have hR1 := below_undrew hR
      have f2 : a.eval (.tmp 2) = .pointer (some ⟨w.heap.size, 0, none⟩) := hF 2 (by kernel_rfl)
      simp only [Act.eval, Array.getD_eq_getD_getElem?] at f2
      show Oper.wp _ _ _ _ _ _
      unfold Oper.wp
      simp only [execOp]
      go_simp
      exact ⟨_, rfl, rfl, Below.refl _ _⟩
    · intro a u hR hF hD
      have hR1 := below_undrew hR
      have d15 : a.eval (.tmp 15) = .pointer (some ⟨w.heap.size, 1, none⟩) := hD 10 (by kernel_rfl)
      simp only [Act.eval, Array.getD_eq_getD_getElem?] at d15
      have q0 := (VG.out.keep hR1).cell 1
      simp only [List.getElem?_toArray, List.getElem?_cons_zero, List.getElem?_cons_succ] at q0
      show Oper.wp _ _ _ _ _ _
      unfold Oper.wp
      simp only [execOp]
      go_simp
      exact ⟨_, rfl, rfl, Below.refl _ _⟩
    · intro a u hR hF hD
      have hR1 := below_undrew hR
      have d16 : a.eval (.tmp 16) = .slice bo M cbp := hD 11 (by kernel_rfl)
      simp only [Act.eval, Array.getD_eq_getD_getElem?] at d16
      show Oper.wp _ _ _ _ _ _
      unfold Oper.wp
      simp only [execOp]
      go_simp
      exact ⟨_, rfl, rfl, Below.refl _ _⟩
    · intro a u hR hF hD
      have hR1 := below_undrew hR
      have f1 : a.eval (.tmp 1) = .int .i64 50 := hF 1 (by kernel_rfl)
      simp only [Act.eval, Array.getD_eq_getD_getElem?] at f1
      show Oper.wp _ _ _ _ _ _
      unfold Oper.wp
      simp only [execOp]
      go_simp
      exact ⟨_, rfl, rfl, Below.refl _ _⟩
    · intro a u hR hF hD
      have d17 : a.eval (.tmp 17) = .int .i64 (M : Int) := hD 12 (by kernel_rfl)
      have d18 : a.eval (.tmp 18) = .int .i64 50 := hD 13 (by kernel_rfl)
      simp only [Act.eval, Array.getD_eq_getD_getElem?] at d17 d18
      rcases Hd.out with ⟨hl, he⟩ | ⟨hl, he⟩
      · have ii : ¬ ((50 : Int) < (M : Int)) := by omega
        show Oper.wp _ _ _ _ _ _
        unfold Oper.wp
        simp only [execOp]
        go_simp
        exact ⟨_, rfl, rfl, Below.refl _ _⟩
      · have ii : (50 : Int) < (M : Int) := by omega
        show Oper.wp _ _ _ _ _ _
        unfold Oper.wp
        simp only [execOp]
        go_simp
        exact ⟨_, rfl, rfl, Below.refl _ _⟩
    · intro a u hR hF hD
      have hR1 := below_undrew hR
      have d14 : a.eval (.tmp 14) = .slice bo M cbp := hD 9 (by kernel_rfl)
      have d19 : a.eval (.tmp 19) = .int .i64 (d : Int) := hD 14 (by kernel_rfl)
      simp only [Act.eval, Array.getD_eq_getD_getElem?] at d14 d19
      have i1 : (d : Int) ≤ (cbp : Int) := by omega
      have i2 : d ≤ cbp := by omega
      show Oper.wp _ _ _ _ _ _
      unfold Oper.wp
      simp only [execOp]
      go_simp
      exact ⟨_, rfl, rfl, Below.refl _ _⟩
    · intro a u hR hF hD
      have hR1 := below_undrew hR
      have d12 : a.eval (.tmp 12) = .slice ao c cap := hD 7 (by kernel_rfl)
      have d20 : a.eval (.tmp 20) = .slice bo d cbp := hD 15 (by kernel_rfl)
      simp only [Act.eval, Array.getD_eq_getD_getElem?] at d12 d20
      show Oper.wp _ _ _ _ _ _
      unfold Oper.wp
      simp only [execOp]
      go_simp
      exact ⟨_, rfl, rfl, Below.refl _ _⟩
  · intro vs u hv hR
    have e16 : vs 16 = .agg #[.slice ao c cap, .slice bo d cbp] := hv 16 (by decide)
    simp only [putAll, List.take, List.drop, Act.put, List.setIfInBounds_toArray, List.set_cons_succ, List.set_cons_zero, Nat.zero_add, Nat.reduceAdd]
    rw [e16]
    generalize vs 0 = t0
    generalize vs 1 = t1
    generalize vs 2 = t2
    generalize vs 3 = t3
    generalize vs 4 = t4
    generalize vs 5 = t5
    generalize vs 6 = t6
    generalize vs 7 = t7
    generalize vs 8 = t8
    generalize vs 9 = t9
    generalize vs 10 = t10
    generalize vs 11 = t11
    generalize vs 12 = t12
    generalize vs 13 = t13
    generalize vs 14 = t14
    generalize vs 15 = t15
    clear hv e16
    have hR1 := below_undrew hR
    have hvc := VR.out.keep hR1
    have X1 := Lib.hid (hvc.set #[.slice ao c cap, .slice bo d cbp])
    have X4 := Lib.hid (below_setRow (HB.out.trans (hR1.mono HB.out.size)) (show w.heap.size ≤ w.heap.size + 1 by omega) #[.slice ao c cap, .slice bo d cbp])
    have XB := Lib.hid (HB.out.trans (hR1.mono HB.out.size))
    refine wpList_store_row rfl _ _ _ rfl (w.heap.size + 1) #[.slice ao c cap, .slice bo d cbp] (by simp [Act.eval]) (by simp [Act.eval]) 25 _ hvc (by kernel_rfl) rfl (by simp [Value.oneCell']) ?_
    generalize u.setRow (w.heap.size + 1) #[.slice ao c cap, .slice bo d cbp] = W2 at *
    clear hvc hR hR1 u VG VR XB
    have v0 := X1.out.cell 0
    have v1 := X1.out.cell 1
    simp only [List.getElem?_toArray, List.getElem?_cons_zero, List.getElem?_cons_succ] at v0 v1
    go_wp2_with fail
    refine ret_g7 (v0 := .slice ao c cap) (v1 := .slice bo d cbp) rfl rfl rfl v0 v1 ?_
    have h1 := (HX.out.head c (by rw [HxL.out]; exact hcL))
    have h2 := (HY.out.head d (by rw [HyM.out]; exact hdM))
    have e1 := take_min g.nodes 50 c (by rw [HnL.out]; exact Hc.out)
    have e2 := take_min g.edges 50 d (by rw [HnM.out]; exact Hd.out)
    refine ⟨⟨⟨ao, c, cap⟩, ⟨bo, d, cbp⟩⟩, rfl, ⟨⟨xs.take c, h1.keep X4.out, ?_⟩, ⟨ys.take d, h2.keep X4.out, ?_⟩, Hl1.out.less (by simp [cutG]; omega), Hl2.out.less (by simp [cutG]; omega)⟩, X4.out⟩
    · have := (ns_take HN.out c).keep X4.out
      rw [e1] at this
      exact this
    · have := (ds_take HD.out d).keep X4.out
      rw [e2] at this
      exact this
end Go.Proofs.Ytdoefndppoglfaa
