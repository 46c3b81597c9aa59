import Derived.Test.YtdoefndppoglfaaHI
import Derived.Test.YtdoefndppoglfaaHF
import Derived.Test.YtdoefndppoglfaaHG
import Derived.Test.YtdoefndppoglfaaFR
import Derived.Test.YtdoefndppoglfaaG11
namespace Go.Proofs.Ytdoefndppoglfaa
open Go.ChangeShapes Go.WideShapes Go.ChangeAt Go.RowKit
set_option linter.unusedVariables false
theorem vr_set2 {w : World} {b : Nat} {a0 a1 : Value} {e : TypeId} (hv : Vr w b e #[a0, a1]) (y0 y1 : Value) : Vr ((w.setCell ⟨b, 0, none⟩ y0).setCell ⟨b, 1, none⟩ y1) b e #[y0, y1] := by
  have hb : w.heap[b]? = some (.cells #[a0, a1] e (0, 0)) := hv
  show ((w.setCell ⟨b, 0, none⟩ y0).setCell ⟨b, 1, none⟩ y1).heap[b]? = _
  simp only [World.setCell, Array.getElem?_modify, if_true, hb, Option.map_some]
  simp
theorem run_fieldV (k n : Int) (f : Nat) (s : ByteArray) (w : World) : (Instr.field 52 (.agg #[.int .i64 k, .int .i64 n, .float .f64 f, .string s]) 0).run Try.prog w = .ok (.int .i64 k) w := by kernel_rfl
end Go.Proofs.Ytdoefndppoglfaa
namespace Go.Proofs.Ytdoefndppoglfaa.GraphProps
open Go.ChangeShapes Go.WideShapes Go.ChangeAt Go.RowKit
/-- its own entry is told -/
theorem rising_less {l : List ByteArray} (h : risingB l = true) : ∀ k, k < l.length → ∀ j, j < k → Op.bytesLess (byt l[j]!) (byt l[k]!) = true := by
  have hall : ∀ i, i < l.length → rOk l i = true := fun i hi => List.all_eq_true.1 h i (List.mem_range.2 hi)
  intro k
  induction k with
  | zero => intro _ j hj; omega
  | succ k ih =>
    intro hk j hj
    have hr := hall (k + 1) hk
    unfold rOk at hr
    rw [Bool.and_eq_true, Bool.or_eq_true] at hr
    have h1 : Op.bytesLess (byt l[k]!) (byt l[k + 1]!) = true := by
      rcases hr.2 with h | h
      · simp at h
      · simpa using h
    by_cases hjk : j = k
    · subst hjk; exact h1
    · exact bl_trans _ _ _ (ih (by omega) j (by omega)) h1
theorem look_own {l : List Pr} (h : propsB l = true) (k : Nat) (hk : k < l.length) : lookV l l[k].1 = l[k].2 := by
  refine lookV_at hk rfl fun j hj he => ?_
  have h2 : risingB (l.map Prod.fst) = true := by
    unfold propsB at h
    rw [Bool.and_eq_true] at h
    exact h.2
  have := rising_less h2 k (by simpa using hk) j hj
  rw [getElem!_pos (l.map Prod.fst) j (by simp; omega), getElem!_pos (l.map Prod.fst) k (by simpa using hk)] at this
  simp only [List.getElem_map] at this
  rw [he, bl_irr] at this
  cases this
/-- is there a property of this name? -/
def hasP (l : List Pr) (nm : ByteArray) : Bool := l.any fun p => p.1.toList == nm.toList
theorem hasP_succ (l : List Pr) (nm : ByteArray) (i : Nat) (hi : i < l.length) : hasP (l.take (i + 1)) nm = (hasP (l.take i) nm || (l[i].1.toList == nm.toList)) := by
  unfold hasP
  rw [List.take_succ_eq_append_getElem hi, List.any_append]
  simp
theorem look_has {l : List Pr} (h : propsB l = true) (nm : ByteArray) : ((lookV l nm).k != 0) = hasP l nm := by
  have hv : ∀ p ∈ l, ¬ p.2.k = 0 := by
    intro p hp
    unfold propsB at h
    rw [Bool.and_eq_true] at h
    have := List.all_eq_true.1 h.1 p hp
    unfold valB at this
    rw [Bool.and_eq_true] at this
    simpa using this.2
  unfold lookV hasP
  have e : ∀ p : Pr, (p.1.toList == nm.toList) = decide (byt p.1 = byt nm) := by
    intro p
    rw [tl_byt, tl_byt]
    exact Bool.eq_iff_iff.2 (by simp)
  cases hf : l.find? fun p => decide (byt p.1 = byt nm) with
  | none =>
    rw [List.find?_eq_none] at hf
    have : (l.any fun p => p.1.toList == nm.toList) = false := by
      rw [List.any_eq_false]
      intro p hp
      rw [e]
      exact hf p hp
    rw [this]
    rfl
  | some p =>
    have hp := List.mem_of_find?_eq_some hf
    have hq := List.find?_some hf
    have : (l.any fun p => p.1.toList == nm.toList) = true := by
      rw [List.any_eq_true]
      exact ⟨p, hp, by rw [e]; exact hq⟩
    rw [this]
    simpa using hv p hp
theorem right_np {g : Gd} (h : rightG g = 0) (i : Nat) (hi : i < g.nodes.length) : propsB g.nodes[i].props = true := by
  have := right_node h i hi
  unfold nodeB at this
  simp only [Bool.and_eq_true] at this
  exact this.2.2.1
theorem right_ep {g : Gd} (h : rightG g = 0) (i : Nat) (hi : i < g.edges.length) : propsB g.edges[i].props = true := by
  have := right_edge h i hi
  unfold edgeB at this
  simp only [Bool.and_eq_true] at this
  exact this.2.2.1
theorem props_node (g : Gd) (i : Nat) (hi : i < g.nodes.length) : propsG g false i = g.nodes[i].props := by
  unfold propsG
  rw [if_neg (by decide), if_pos ⟨by omega, by omega⟩]
  rw [Int.toNat_natCast, getElem!_pos g.nodes i hi]
theorem props_edge (g : Gd) (i : Nat) (hi : i < g.edges.length) : propsG g true i = g.edges[i].props := by
  unfold propsG
  rw [if_pos rfl, if_pos ⟨by omega, by omega⟩]
  rw [Int.toNat_natCast, getElem!_pos g.edges i hi]
theorem props_none (g : Gd) : propsG g false g.nodes.length = [] := by
  unfold propsG
  rw [if_neg (by decide), if_neg (by omega)]
theorem props_none2 (g : Gd) : propsG g true g.edges.length = [] := by
  unfold propsG
  rw [if_pos rfl, if_neg (by omega)]
theorem labels_none (g : Gd) : labelsG g false g.nodes.length = [] := by
  unfold labelsG
  rw [if_neg (by decide), if_neg (by omega)]
theorem labels_none2 (g : Gd) : labelsG g true g.edges.length = [] := by
  unfold labelsG
  rw [if_pos rfl, if_neg (by omega)]
theorem look_nil (nm : ByteArray) : lookV [] nm = ⟨0, 0, 0, ⟨#[]⟩⟩ := rfl
/-- what stands in the slots of the region that asks for an own property -/
def VP (v0 v1 v2 v3 v4 v6 v7 v11 : Value) (i : Nat) (v : Value) (_ : World) : Prop := match i with
  | 0 => v = v0
  | 1 => v = v1
  | 2 => v = v2
  | 3 => v = v3
  | 4 => v = v4
  | 5 => v = v4
  | 6 => v = v6
  | 7 => v = v7
  | 8 => v = v2
  | 9 => v = v3
  | 10 => v = v4
  | 11 => v = v11
  | 12 => v = v7
  | 13 => v = .bool true
  | 14 => v = .bool false
  | _ => True
set_option maxRecDepth 100000 in
set_option maxHeartbeats 4000000 in
theorem walk (g : Gd) (x : Gx) (nm : ByteArray) (w : World) (h : Gz w g x) :
    Calls Try.prog 6 #[gv x, .string nm] w fun e w' => e = .returned (.bool true) ∧ Below w.heap.size w w' := by
  obtain ⟨⟨ao, L, cap⟩, ⟨bo, M, cbp⟩⟩ := x
  have VG := Lib.hid (Vr.new w 25 #[.slice ao L cap, .slice bo M cbp])
  have HB := Lib.hid (below_a1 w (.cells #[.slice ao L cap, .slice bo M cbp] 25))
  have HZ := Lib.hid (h.keep HB.out)
  clear h
  dsimp only [gv, Sl.v] at HZ ⊢
  go_enter Try.func6, Try.ntmps6
  go_wp2_with fail
  (with_reducible refine (shown7_any _).mono ?_); rintro e wA ⟨rfl, hbA⟩
  have VGa := VG.out.keep hbA
  have HBa := Lib.hid (Below.chain HB.out hbA)
  have HZa := Lib.hid (HZ.out.keep hbA)
  have q0 := VGa.cell 0
  have q1 := VGa.cell 1
  simp only [List.getElem?_toArray, List.getElem?_cons_zero, List.getElem?_cons_succ] at q0 q1
  have HVa := Lib.hid VGa
  clear VGa VG HB HZ hbA
  go_wp2_with fail
  have CF := few_any HZa.out
  dsimp only [gv, Sl.v] at CF
  (with_reducible refine CF.mono ?_); rintro e wB ⟨y, rfl, hy, hbB⟩
  have HgN := Lib.hid (cutG_nodes g)
  have HgM := Lib.hid (cutG_edges g)
  clear CF q0 q1 HZa
  generalize cutG g = gc at *
  obtain ⟨⟨a1, n1, c1⟩, ⟨a2, n2, c2⟩⟩ := y
  have hn1 : gc.nodes.length = n1 := by obtain ⟨⟨xs, h1, h2⟩, -⟩ := hy; exact h2.1.trans h1.hd.1
  have hn2 : gc.edges.length = n2 := by obtain ⟨-, ⟨xs, h1, h2⟩, -⟩ := hy; exact h2.1.trans h1.hd.1
  have m1 : n1 ≤ 50 := by rw [← hn1]; exact HgN.out
  have m2 : n2 ≤ 50 := by rw [← hn2]; exact HgM.out
  have HL1 := Lib.hid hn1
  have HL2 := Lib.hid hn2
  clear hn1 hn2 HgN HgM
  have VGb := HVa.out.keep hbB
  have HBb := Lib.hid (Below.chain HBa.out hbB)
  have HS := Lib.hid (gz_other hy VGb ⟨a1, n1, c1⟩ ⟨a2, n2, c2⟩)
  have q0 := VGb.cell 0
  have q1 := VGb.cell 1
  simp only [List.getElem?_toArray, List.getElem?_cons_zero, List.getElem?_cons_succ] at q0 q1
  have t0 := VGb.thaw 0
  have t1 := VGb.thaw 1
  have HVs := Lib.hid (vr_set2 VGb (.slice a1 n1 c1) (.slice a2 n2 c2))
  have HBs := Lib.hid ((HBb.out.setCell (p := ⟨w.heap.size, 0, none⟩) (Nat.le_refl _) (.slice a1 n1 c1)).setCell (p := ⟨w.heap.size, 1, none⟩) (Nat.le_refl _) (.slice a2 n2 c2))
  dsimp only [gv, Sl.v] at HS HVs HBs ⊢
  clear hy hbB VGb HBa HBb HVa
  go_wp2_with fail
  clear q0 q1 t0 t1
  generalize (wB.setCell ⟨w.heap.size, 0, none⟩ (.slice a1 n1 c1)).setCell ⟨w.heap.size, 1, none⟩ (.slice a2 n2 c2) = wC at *
  have q0 := HVs.out.cell 0
  have q1 := HVs.out.cell 1
  simp only [List.getElem?_toArray, List.getElem?_cons_zero, List.getElem?_cons_succ] at q0 q1
  go_wp2_with fail
  have CN := new7_any HS.out
  dsimp only [gv, Sl.v] at CN
  (with_reducible refine CN.mono ?_); clear CN; rintro e wD ⟨hND, hbD⟩
  have HVd := Lib.hid (HVs.out.keep hbD)
  have HBd := Lib.hid (HBs.out.trans (hbD.mono HBs.out.size))
  have HZd := Lib.hid (HS.out.keep hbD)
  clear hbD HVs HBs HS q0 q1
  have hfd := run_fieldV
  rcases hND with ⟨hr, p, rfl, hx⟩ | ⟨hr, rfl⟩
  · have HR0 := Lib.hid hr
    have HIx := Lib.hid hx
    clear hr hx
    go_wp2_with fail
    go_loopg [8] (n1 + n2) (fun gg s8 wr => ∃ i : Nat, gg + i = n1 + n2 ∧ s8 = .int .i64 i ∧ Below wD.heap.size wD wr)
    case atStart => exact ⟨0, rfl, rfl, Below.refl _ _⟩
    case round =>
      obtain ⟨i, hg, rfl, hb⟩ := hrel
      have HBr := Lib.hid hb
      have HIr := Lib.hid (HIx.out.keep hb)
      have HVr := Lib.hid (HVd.out.keep hb)
      have HZr := Lib.hid (HZd.out.keep hb)
      clear hb
      have q0 := HVr.out.cell 0
      have q1 := HVr.out.cell 1
      simp only [List.getElem?_toArray, List.getElem?_cons_zero, List.getElem?_cons_succ] at q0 q1
      have hlt2 : w.heap.size < wr.heap.size := HVr.out.lt
      by_cases hlt : i < n1 + n2
      · have ii : (i : Int) < (n1 : Int) + (n2 : Int) := by omega
        by_cases hn : i < n1
        · have jj : (i : Int) < (n1 : Int) := by omega
          obtain ⟨⟨xs, hx, hk⟩, -⟩ := HZr.out
          dsimp only [Sl.v] at hx
          have hi1 : i < gc.nodes.length := by rw [HL1.out]; exact hn
          have hi2 : i < xs.length := by rw [← hk.1]; exact hi1
          obtain ⟨b1, o1, rfl, hc⟩ := RwN.at hx i hi2
          obtain ⟨-, -, z2⟩ := hc i hi2
          obtain ⟨-, -, hP, hO, -⟩ := hk.2 i hi1 hi2
          have HPl := Lib.hid (props_node gc i hi1)
          have HPB := Lib.hid (right_np HR0.out i hi1)
          have HOk := Lib.hid hO
          generalize gc.nodes[i].props = l at *
          generalize xs[i].p = q at *
          have hh := hP.hd
          obtain ⟨qa, L2, cp⟩ := q
          dsimp only [Sl.v] at z2 hP hh
          have HLl := Lib.hid hh.1
          have mL2 := hh.2
          clear hh
          have hlz := block_lt_of_cell z2
          have hbe := bl_al (o := .cells #[] 69) (bl_al (o := .cells #[.bool false, .int .i64 i] 27) (Below.refl wr.heap.size wr))
          have HRw := Lib.hid (hP.keep hbe)
          have HIw := Lib.hid (HIr.out.keep hbe)
          have HBw := Lib.hid (Below.chain HBr.out hbe)
          have HVw := Lib.hid ((Vr.new wr 27 #[.bool false, .int .i64 i]).al (o := .cells #[] 69))
          clear hx hk hc hi1 hi2 hO hP hbe
          go_wp2_with fail
          generalize (wr.alloc (.cells #[.bool false, .int .i64 i] 27)).alloc (.cells #[] 69) = wE at *
          have HRe := HRw
          have HIe := HIw
          have HBe := HBw
          have HVe := HVw
          clear HRw HIw HBw HVw z2 hlz q0 q1 HVr HZr HIr HBr hlt2
          generalize wr = wO at *
          go_loopg [11, 12] L2 (fun gg s11 s12 wr => ∃ k : Nat, gg + k = L2 ∧ s12 = .int .i64 k ∧ s11 = .bool (hasP (l.take k) nm) ∧ Below wE.heap.size wE wr)
          case atStart => exact ⟨0, rfl, rfl, rfl, Below.refl _ _⟩
          case round =>
            obtain ⟨k, hgk, rfl, rfl, hbk⟩ := hrel
            have HBk := Lib.hid hbk
            have HIk := Lib.hid (HIe.out.keep hbk)
            have HVk := Lib.hid (HVe.out.keep hbk)
            clear hbk
            by_cases hkL : k < L2
            · have kk : (k : Int) < (L2 : Int) := by omega
              have hk : k < l.length := by rw [HLl.out]; exact hkL
              obtain ⟨b, o, rfl, z0, z1, z2, z3, z4⟩ := RwP.at (HRe.out.keep HBk.out) k hk
              have hok := HOk.out _ (List.getElem_mem hk)
              have hlk := look_own HPB.out k hk
              have hsc := hasP_succ l nm k hk
              have HCP := Lib.hid (fun u (hb : Below wr.heap.size wr u) => prop7_any (HIk.out.keep hb) false i l[k].1)
              rw [HPl.out, hlk] at HCP
              generalize l[k] = z at *
              obtain ⟨zn, ⟨zk, zm, zf, zs⟩⟩ := z
              dsimp only [vv] at z0 z1 z2 z3 z4 HCP hsc
              have HSM := Lib.hid (fun u => same2_refl ⟨zk, zm, zf, zs⟩ hok u)
              dsimp only [vv] at HSM
              have HSC := Lib.hid hsc
              clear hok hlk hsc
              generalize hasP (l.take k) nm = hv at *
              cases hv
              · cases hzn : zn.toList == nm.toList
                · rw [hzn] at HSC
                  go_wp2_with fail
                  refine wp_region_facts 15 (VP (pv p) (.agg #[.bool false, .int .i64 i]) (.slice (some ⟨b, o, none⟩) L2 cp) (.int .i64 (k : Int)) (.pointer (some ⟨b, o + k * 5, none⟩)) (.string zn) (.agg #[.int .i64 zk, .int .i64 zm, .float .f64 zf, .string zs]) (.pointer (some ⟨b, o + k * 5 + 1, none⟩))) (fun a b => Below a.heap.size a b) (by kernel_rfl) (by decide) (by kernel_rfl) (by kernel_rfl) (fun a => Below.refl _ _) (fun a b c => Below.chain) (fun i v _ _ h _ => h) ?_ ?_
                  · refine ⟨?_, ?_, ?_, ?_, ?_, ?_, ?_, ?_, ?_, ?_, ?_, ?_, ?_, ?_, ?_, trivial⟩
                    · intro a u hR hF hD
                      have hR1 := below_undrew hR
                      have f6 : a.eval (.tmp 6) = pv p := hF 6 (by kernel_rfl)
                      simp only [Act.eval, Array.getD_eq_getD_getElem?] at f6
                      show Oper.wp _ _ _ _ _ _
                      unfold Oper.wp
                      simp only [execOp]
                      go_simp
                      exact ⟨_, rfl, rfl, Below.refl _ _⟩
                    · intro a u hR hF hD
                      have hR1 := below_undrew hR
                      have f9 : a.eval (.tmp 9) = .pointer (some ⟨wO.heap.size, 0, none⟩) := hF 9 (by kernel_rfl)
                      simp only [Act.eval, Array.getD_eq_getD_getElem?] at f9
                      have q0 := (HVk.out.keep hR1).cell 0
                      have q1 := (HVk.out.keep hR1).cell 1
                      simp only [List.getElem?_toArray, List.getElem?_cons_zero, List.getElem?_cons_succ] at q0 q1
                      show Oper.wp _ _ _ _ _ _
                      unfold Oper.wp
                      simp only [execOp]
                      go_simp
                      exact ⟨_, rfl, rfl, Below.refl _ _⟩
                    · intro a u hR hF hD
                      have hR1 := below_undrew hR
                      have f10 : a.eval (.tmp 10) = .slice (some ⟨b, o, none⟩) L2 cp := hF 10 (by kernel_rfl)
                      simp only [Act.eval, Array.getD_eq_getD_getElem?] at f10
                      show Oper.wp _ _ _ _ _ _
                      unfold Oper.wp
                      simp only [execOp]
                      go_simp
                      exact ⟨_, rfl, rfl, Below.refl _ _⟩
                    · intro a u hR hF hD
                      have hR1 := below_undrew hR
                      have f12 : a.eval (.tmp 12) = .int .i64 (k : Int) := hF 12 (by kernel_rfl)
                      simp only [Act.eval, Array.getD_eq_getD_getElem?] at f12
                      show Oper.wp _ _ _ _ _ _
                      unfold Oper.wp
                      simp only [execOp]
                      go_simp
                      exact ⟨_, rfl, rfl, Below.refl _ _⟩
                    · intro a u hR hF hD
                      have hR1 := below_undrew hR
                      have d86 : a.eval (.tmp 86) = .slice (some ⟨b, o, none⟩) L2 cp := hD 2 (by kernel_rfl)
                      have d87 : a.eval (.tmp 87) = .int .i64 (k : Int) := hD 3 (by kernel_rfl)
                      simp only [Act.eval, Array.getD_eq_getD_getElem?] at d86 d87
                      show Oper.wp _ _ _ _ _ _
                      unfold Oper.wp
                      simp only [execOp]
                      go_simp
                      exact ⟨_, rfl, rfl, Below.refl _ _⟩
                    · intro a u hR hF hD
                      have hR1 := below_undrew hR
                      have d88 : a.eval (.tmp 88) = .pointer (some ⟨b, o + k * 5, none⟩) := hD 4 (by kernel_rfl)
                      simp only [Act.eval, Array.getD_eq_getD_getElem?] at d88
                      show Oper.wp _ _ _ _ _ _
                      unfold Oper.wp
                      simp only [execOp]
                      go_simp
                      exact ⟨_, rfl, rfl, Below.refl _ _⟩
                    · intro a u hR hF hD
                      have hR1 := below_undrew hR
                      have d89 : a.eval (.tmp 89) = .pointer (some ⟨b, o + k * 5, none⟩) := hD 5 (by kernel_rfl)
                      simp only [Act.eval, Array.getD_eq_getD_getElem?] at d89
                      have kz0 := (hR1.cell (block_lt_of_cell z0)).trans z0
                      show Oper.wp _ _ _ _ _ _
                      unfold Oper.wp
                      simp only [execOp]
                      go_simp
                      exact ⟨_, rfl, rfl, Below.refl _ _⟩
                    · intro a u hR hF hD
                      have hR1 := below_undrew hR
                      have d84 : a.eval (.tmp 84) = pv p := hD 0 (by kernel_rfl)
                      have d85 : a.eval (.tmp 85) = .agg #[.bool false, .int .i64 i] := hD 1 (by kernel_rfl)
                      have d90 : a.eval (.tmp 90) = .string zn := hD 6 (by kernel_rfl)
                      simp only [Act.eval, Array.getD_eq_getD_getElem?] at d84 d85 d90
                      show Oper.wp _ _ _ _ _ _
                      unfold Oper.wp
                      simp only [execOp]
                      go_simp
                      (with_reducible refine (HCP.out u hR1).mono ?_); rintro e u2 ⟨rfl, hb2⟩
                      exact ⟨_, rfl, rfl, hb2⟩
                    · intro a u hR hF hD
                      have hR1 := below_undrew hR
                      have f10 : a.eval (.tmp 10) = .slice (some ⟨b, o, none⟩) L2 cp := hF 10 (by kernel_rfl)
                      simp only [Act.eval, Array.getD_eq_getD_getElem?] at f10
                      show Oper.wp _ _ _ _ _ _
                      unfold Oper.wp
                      simp only [execOp]
                      go_simp
                      exact ⟨_, rfl, rfl, Below.refl _ _⟩
                    · intro a u hR hF hD
                      have hR1 := below_undrew hR
                      have f12 : a.eval (.tmp 12) = .int .i64 (k : Int) := hF 12 (by kernel_rfl)
                      simp only [Act.eval, Array.getD_eq_getD_getElem?] at f12
                      show Oper.wp _ _ _ _ _ _
                      unfold Oper.wp
                      simp only [execOp]
                      go_simp
                      exact ⟨_, rfl, rfl, Below.refl _ _⟩
                    · intro a u hR hF hD
                      have hR1 := below_undrew hR
                      have d92 : a.eval (.tmp 92) = .slice (some ⟨b, o, none⟩) L2 cp := hD 8 (by kernel_rfl)
                      have d93 : a.eval (.tmp 93) = .int .i64 (k : Int) := hD 9 (by kernel_rfl)
                      simp only [Act.eval, Array.getD_eq_getD_getElem?] at d92 d93
                      show Oper.wp _ _ _ _ _ _
                      unfold Oper.wp
                      simp only [execOp]
                      go_simp
                      exact ⟨_, rfl, rfl, Below.refl _ _⟩
                    · intro a u hR hF hD
                      have hR1 := below_undrew hR
                      have d94 : a.eval (.tmp 94) = .pointer (some ⟨b, o + k * 5, none⟩) := hD 10 (by kernel_rfl)
                      simp only [Act.eval, Array.getD_eq_getD_getElem?] at d94
                      show Oper.wp _ _ _ _ _ _
                      unfold Oper.wp
                      simp only [execOp]
                      go_simp
                      exact ⟨_, rfl, rfl, Below.refl _ _⟩
                    · intro a u hR hF hD
                      have hR1 := below_undrew hR
                      have d95 : a.eval (.tmp 95) = .pointer (some ⟨b, o + k * 5 + 1, none⟩) := hD 11 (by kernel_rfl)
                      simp only [Act.eval, Array.getD_eq_getD_getElem?] at d95
                      have kz1 := (hR1.cell (block_lt_of_cell z1)).trans z1
                      have kz2 := (hR1.cell (block_lt_of_cell z2)).trans z2
                      have kz3 := (hR1.cell (block_lt_of_cell z3)).trans z3
                      have kz4 := (hR1.cell (block_lt_of_cell z4)).trans z4
                      show Oper.wp _ _ _ _ _ _
                      unfold Oper.wp
                      simp only [execOp]
                      go_simp
                      exact ⟨_, rfl, rfl, Below.refl _ _⟩
                    · intro a u hR hF hD
                      have hR1 := below_undrew hR
                      have d91 : a.eval (.tmp 91) = .agg #[.int .i64 zk, .int .i64 zm, .float .f64 zf, .string zs] := hD 7 (by kernel_rfl)
                      have d96 : a.eval (.tmp 96) = .agg #[.int .i64 zk, .int .i64 zm, .float .f64 zf, .string zs] := hD 12 (by kernel_rfl)
                      simp only [Act.eval, Array.getD_eq_getD_getElem?] at d91 d96
                      show Oper.wp _ _ _ _ _ _
                      unfold Oper.wp
                      simp only [execOp]
                      go_simp
                      (with_reducible refine (HSM.out u).mono ?_); rintro e u2 ⟨rfl, hb2⟩
                      exact ⟨_, rfl, rfl, hb2⟩
                    · intro a u hR hF hD
                      have hR1 := below_undrew hR
                      have d97 : a.eval (.tmp 97) = .bool true := hD 13 (by kernel_rfl)
                      simp only [Act.eval, Array.getD_eq_getD_getElem?] at d97
                      show Oper.wp _ _ _ _ _ _
                      unfold Oper.wp
                      simp only [execOp]
                      go_simp
                      exact ⟨_, rfl, rfl, Below.refl _ _⟩
                  · intro vs u hv hR
                    have e14 : vs 14 = .bool false := hv 14 (by decide)
                    have hR1 := below_undrew hR
                    simp only [putAll, List.take, List.drop, Act.put, List.setIfInBounds_toArray, List.set_cons_succ, List.set_cons_zero, Nat.zero_add, Nat.reduceAdd]
                    rw [e14]
                    generalize vs 0 = t0
                    generalize vs 1 = t1
                    generalize vs 2 = t2
                    generalize vs 3 = t3
                    generalize vs 4 = t4
                    generalize vs 5 = t5
                    generalize vs 6 = t6
                    generalize vs 7 = t7
                    generalize vs 8 = t8
                    generalize vs 9 = t9
                    generalize vs 10 = t10
                    generalize vs 11 = t11
                    generalize vs 12 = t12
                    generalize vs 13 = t13
                    clear hv e14 hR
                    go_wp2_with fail
                    go_roundg (L2 - (k + 1))
                    case rel => exact ⟨k + 1, by omega, by go_num, by rw [HSC.out]; rfl, Below.chain HBk.out hR1⟩
                    case measure => omega
                · rw [hzn] at HSC
                  go_wp2_with fail
                  refine wp_region_facts 15 (VP (pv p) (.agg #[.bool false, .int .i64 i]) (.slice (some ⟨b, o, none⟩) L2 cp) (.int .i64 (k : Int)) (.pointer (some ⟨b, o + k * 5, none⟩)) (.string zn) (.agg #[.int .i64 zk, .int .i64 zm, .float .f64 zf, .string zs]) (.pointer (some ⟨b, o + k * 5 + 1, none⟩))) (fun a b => Below a.heap.size a b) (by kernel_rfl) (by decide) (by kernel_rfl) (by kernel_rfl) (fun a => Below.refl _ _) (fun a b c => Below.chain) (fun i v _ _ h _ => h) ?_ ?_
                  · refine ⟨?_, ?_, ?_, ?_, ?_, ?_, ?_, ?_, ?_, ?_, ?_, ?_, ?_, ?_, ?_, trivial⟩
                    · intro a u hR hF hD
                      have hR1 := below_undrew hR
                      have f6 : a.eval (.tmp 6) = pv p := hF 6 (by kernel_rfl)
                      simp only [Act.eval, Array.getD_eq_getD_getElem?] at f6
                      show Oper.wp _ _ _ _ _ _
                      unfold Oper.wp
                      simp only [execOp]
                      go_simp
                      exact ⟨_, rfl, rfl, Below.refl _ _⟩
                    · intro a u hR hF hD
                      have hR1 := below_undrew hR
                      have f9 : a.eval (.tmp 9) = .pointer (some ⟨wO.heap.size, 0, none⟩) := hF 9 (by kernel_rfl)
                      simp only [Act.eval, Array.getD_eq_getD_getElem?] at f9
                      have q0 := (HVk.out.keep hR1).cell 0
                      have q1 := (HVk.out.keep hR1).cell 1
                      simp only [List.getElem?_toArray, List.getElem?_cons_zero, List.getElem?_cons_succ] at q0 q1
                      show Oper.wp _ _ _ _ _ _
                      unfold Oper.wp
                      simp only [execOp]
                      go_simp
                      exact ⟨_, rfl, rfl, Below.refl _ _⟩
                    · intro a u hR hF hD
                      have hR1 := below_undrew hR
                      have f10 : a.eval (.tmp 10) = .slice (some ⟨b, o, none⟩) L2 cp := hF 10 (by kernel_rfl)
                      simp only [Act.eval, Array.getD_eq_getD_getElem?] at f10
                      show Oper.wp _ _ _ _ _ _
                      unfold Oper.wp
                      simp only [execOp]
                      go_simp
                      exact ⟨_, rfl, rfl, Below.refl _ _⟩
                    · intro a u hR hF hD
                      have hR1 := below_undrew hR
                      have f12 : a.eval (.tmp 12) = .int .i64 (k : Int) := hF 12 (by kernel_rfl)
                      simp only [Act.eval, Array.getD_eq_getD_getElem?] at f12
                      show Oper.wp _ _ _ _ _ _
                      unfold Oper.wp
                      simp only [execOp]
                      go_simp
                      exact ⟨_, rfl, rfl, Below.refl _ _⟩
                    · intro a u hR hF hD
                      have hR1 := below_undrew hR
                      have d86 : a.eval (.tmp 86) = .slice (some ⟨b, o, none⟩) L2 cp := hD 2 (by kernel_rfl)
                      have d87 : a.eval (.tmp 87) = .int .i64 (k : Int) := hD 3 (by kernel_rfl)
                      simp only [Act.eval, Array.getD_eq_getD_getElem?] at d86 d87
                      show Oper.wp _ _ _ _ _ _
                      unfold Oper.wp
                      simp only [execOp]
                      go_simp
                      exact ⟨_, rfl, rfl, Below.refl _ _⟩
                    · intro a u hR hF hD
                      have hR1 := below_undrew hR
                      have d88 : a.eval (.tmp 88) = .pointer (some ⟨b, o + k * 5, none⟩) := hD 4 (by kernel_rfl)
                      simp only [Act.eval, Array.getD_eq_getD_getElem?] at d88
                      show Oper.wp _ _ _ _ _ _
                      unfold Oper.wp
                      simp only [execOp]
                      go_simp
                      exact ⟨_, rfl, rfl, Below.refl _ _⟩
                    · intro a u hR hF hD
                      have hR1 := below_undrew hR
                      have d89 : a.eval (.tmp 89) = .pointer (some ⟨b, o + k * 5, none⟩) := hD 5 (by kernel_rfl)
                      simp only [Act.eval, Array.getD_eq_getD_getElem?] at d89
                      have kz0 := (hR1.cell (block_lt_of_cell z0)).trans z0
                      show Oper.wp _ _ _ _ _ _
                      unfold Oper.wp
                      simp only [execOp]
                      go_simp
                      exact ⟨_, rfl, rfl, Below.refl _ _⟩
                    · intro a u hR hF hD
                      have hR1 := below_undrew hR
                      have d84 : a.eval (.tmp 84) = pv p := hD 0 (by kernel_rfl)
                      have d85 : a.eval (.tmp 85) = .agg #[.bool false, .int .i64 i] := hD 1 (by kernel_rfl)
                      have d90 : a.eval (.tmp 90) = .string zn := hD 6 (by kernel_rfl)
                      simp only [Act.eval, Array.getD_eq_getD_getElem?] at d84 d85 d90
                      show Oper.wp _ _ _ _ _ _
                      unfold Oper.wp
                      simp only [execOp]
                      go_simp
                      (with_reducible refine (HCP.out u hR1).mono ?_); rintro e u2 ⟨rfl, hb2⟩
                      exact ⟨_, rfl, rfl, hb2⟩
                    · intro a u hR hF hD
                      have hR1 := below_undrew hR
                      have f10 : a.eval (.tmp 10) = .slice (some ⟨b, o, none⟩) L2 cp := hF 10 (by kernel_rfl)
                      simp only [Act.eval, Array.getD_eq_getD_getElem?] at f10
                      show Oper.wp _ _ _ _ _ _
                      unfold Oper.wp
                      simp only [execOp]
                      go_simp
                      exact ⟨_, rfl, rfl, Below.refl _ _⟩
                    · intro a u hR hF hD
                      have hR1 := below_undrew hR
                      have f12 : a.eval (.tmp 12) = .int .i64 (k : Int) := hF 12 (by kernel_rfl)
                      simp only [Act.eval, Array.getD_eq_getD_getElem?] at f12
                      show Oper.wp _ _ _ _ _ _
                      unfold Oper.wp
                      simp only [execOp]
                      go_simp
                      exact ⟨_, rfl, rfl, Below.refl _ _⟩
                    · intro a u hR hF hD
                      have hR1 := below_undrew hR
                      have d92 : a.eval (.tmp 92) = .slice (some ⟨b, o, none⟩) L2 cp := hD 8 (by kernel_rfl)
                      have d93 : a.eval (.tmp 93) = .int .i64 (k : Int) := hD 9 (by kernel_rfl)
                      simp only [Act.eval, Array.getD_eq_getD_getElem?] at d92 d93
                      show Oper.wp _ _ _ _ _ _
                      unfold Oper.wp
                      simp only [execOp]
                      go_simp
                      exact ⟨_, rfl, rfl, Below.refl _ _⟩
                    · intro a u hR hF hD
                      have hR1 := below_undrew hR
                      have d94 : a.eval (.tmp 94) = .pointer (some ⟨b, o + k * 5, none⟩) := hD 10 (by kernel_rfl)
                      simp only [Act.eval, Array.getD_eq_getD_getElem?] at d94
                      show Oper.wp _ _ _ _ _ _
                      unfold Oper.wp
                      simp only [execOp]
                      go_simp
                      exact ⟨_, rfl, rfl, Below.refl _ _⟩
                    · intro a u hR hF hD
                      have hR1 := below_undrew hR
                      have d95 : a.eval (.tmp 95) = .pointer (some ⟨b, o + k * 5 + 1, none⟩) := hD 11 (by kernel_rfl)
                      simp only [Act.eval, Array.getD_eq_getD_getElem?] at d95
                      have kz1 := (hR1.cell (block_lt_of_cell z1)).trans z1
                      have kz2 := (hR1.cell (block_lt_of_cell z2)).trans z2
                      have kz3 := (hR1.cell (block_lt_of_cell z3)).trans z3
                      have kz4 := (hR1.cell (block_lt_of_cell z4)).trans z4
                      show Oper.wp _ _ _ _ _ _
                      unfold Oper.wp
                      simp only [execOp]
                      go_simp
                      exact ⟨_, rfl, rfl, Below.refl _ _⟩
                    · intro a u hR hF hD
                      have hR1 := below_undrew hR
                      have d91 : a.eval (.tmp 91) = .agg #[.int .i64 zk, .int .i64 zm, .float .f64 zf, .string zs] := hD 7 (by kernel_rfl)
                      have d96 : a.eval (.tmp 96) = .agg #[.int .i64 zk, .int .i64 zm, .float .f64 zf, .string zs] := hD 12 (by kernel_rfl)
                      simp only [Act.eval, Array.getD_eq_getD_getElem?] at d91 d96
                      show Oper.wp _ _ _ _ _ _
                      unfold Oper.wp
                      simp only [execOp]
                      go_simp
                      (with_reducible refine (HSM.out u).mono ?_); rintro e u2 ⟨rfl, hb2⟩
                      exact ⟨_, rfl, rfl, hb2⟩
                    · intro a u hR hF hD
                      have hR1 := below_undrew hR
                      have d97 : a.eval (.tmp 97) = .bool true := hD 13 (by kernel_rfl)
                      simp only [Act.eval, Array.getD_eq_getD_getElem?] at d97
                      show Oper.wp _ _ _ _ _ _
                      unfold Oper.wp
                      simp only [execOp]
                      go_simp
                      exact ⟨_, rfl, rfl, Below.refl _ _⟩
                  · intro vs u hv hR
                    have e14 : vs 14 = .bool false := hv 14 (by decide)
                    have hR1 := below_undrew hR
                    simp only [putAll, List.take, List.drop, Act.put, List.setIfInBounds_toArray, List.set_cons_succ, List.set_cons_zero, Nat.zero_add, Nat.reduceAdd]
                    rw [e14]
                    generalize vs 0 = t0
                    generalize vs 1 = t1
                    generalize vs 2 = t2
                    generalize vs 3 = t3
                    generalize vs 4 = t4
                    generalize vs 5 = t5
                    generalize vs 6 = t6
                    generalize vs 7 = t7
                    generalize vs 8 = t8
                    generalize vs 9 = t9
                    generalize vs 10 = t10
                    generalize vs 11 = t11
                    generalize vs 12 = t12
                    generalize vs 13 = t13
                    clear hv e14 hR
                    go_wp2_with fail
                    go_roundg (L2 - (k + 1))
                    case rel => exact ⟨k + 1, by omega, by go_num, by rw [HSC.out]; rfl, Below.chain HBk.out hR1⟩
                    case measure => omega
              · have HSC2 := Lib.hid (HSC.out.trans (Bool.true_or _))
                clear HSC
                go_wp2_with fail
                refine wp_region_facts 15 (VP (pv p) (.agg #[.bool false, .int .i64 i]) (.slice (some ⟨b, o, none⟩) L2 cp) (.int .i64 (k : Int)) (.pointer (some ⟨b, o + k * 5, none⟩)) (.string zn) (.agg #[.int .i64 zk, .int .i64 zm, .float .f64 zf, .string zs]) (.pointer (some ⟨b, o + k * 5 + 1, none⟩))) (fun a b => Below a.heap.size a b) (by kernel_rfl) (by decide) (by kernel_rfl) (by kernel_rfl) (fun a => Below.refl _ _) (fun a b c => Below.chain) (fun i v _ _ h _ => h) ?_ ?_
                · refine ⟨?_, ?_, ?_, ?_, ?_, ?_, ?_, ?_, ?_, ?_, ?_, ?_, ?_, ?_, ?_, trivial⟩
                  · intro a u hR hF hD
                    have hR1 := below_undrew hR
                    have f6 : a.eval (.tmp 6) = pv p := hF 6 (by kernel_rfl)
                    simp only [Act.eval, Array.getD_eq_getD_getElem?] at f6
                    show Oper.wp _ _ _ _ _ _
                    unfold Oper.wp
                    simp only [execOp]
                    go_simp
                    exact ⟨_, rfl, rfl, Below.refl _ _⟩
                  · intro a u hR hF hD
                    have hR1 := below_undrew hR
                    have f9 : a.eval (.tmp 9) = .pointer (some ⟨wO.heap.size, 0, none⟩) := hF 9 (by kernel_rfl)
                    simp only [Act.eval, Array.getD_eq_getD_getElem?] at f9
                    have q0 := (HVk.out.keep hR1).cell 0
                    have q1 := (HVk.out.keep hR1).cell 1
                    simp only [List.getElem?_toArray, List.getElem?_cons_zero, List.getElem?_cons_succ] at q0 q1
                    show Oper.wp _ _ _ _ _ _
                    unfold Oper.wp
                    simp only [execOp]
                    go_simp
                    exact ⟨_, rfl, rfl, Below.refl _ _⟩
                  · intro a u hR hF hD
                    have hR1 := below_undrew hR
                    have f10 : a.eval (.tmp 10) = .slice (some ⟨b, o, none⟩) L2 cp := hF 10 (by kernel_rfl)
                    simp only [Act.eval, Array.getD_eq_getD_getElem?] at f10
                    show Oper.wp _ _ _ _ _ _
                    unfold Oper.wp
                    simp only [execOp]
                    go_simp
                    exact ⟨_, rfl, rfl, Below.refl _ _⟩
                  · intro a u hR hF hD
                    have hR1 := below_undrew hR
                    have f12 : a.eval (.tmp 12) = .int .i64 (k : Int) := hF 12 (by kernel_rfl)
                    simp only [Act.eval, Array.getD_eq_getD_getElem?] at f12
                    show Oper.wp _ _ _ _ _ _
                    unfold Oper.wp
                    simp only [execOp]
                    go_simp
                    exact ⟨_, rfl, rfl, Below.refl _ _⟩
                  · intro a u hR hF hD
                    have hR1 := below_undrew hR
                    have d86 : a.eval (.tmp 86) = .slice (some ⟨b, o, none⟩) L2 cp := hD 2 (by kernel_rfl)
                    have d87 : a.eval (.tmp 87) = .int .i64 (k : Int) := hD 3 (by kernel_rfl)
                    simp only [Act.eval, Array.getD_eq_getD_getElem?] at d86 d87
                    show Oper.wp _ _ _ _ _ _
                    unfold Oper.wp
                    simp only [execOp]
                    go_simp
                    exact ⟨_, rfl, rfl, Below.refl _ _⟩
                  · intro a u hR hF hD
                    have hR1 := below_undrew hR
                    have d88 : a.eval (.tmp 88) = .pointer (some ⟨b, o + k * 5, none⟩) := hD 4 (by kernel_rfl)
                    simp only [Act.eval, Array.getD_eq_getD_getElem?] at d88
                    show Oper.wp _ _ _ _ _ _
                    unfold Oper.wp
                    simp only [execOp]
                    go_simp
                    exact ⟨_, rfl, rfl, Below.refl _ _⟩
                  · intro a u hR hF hD
                    have hR1 := below_undrew hR
                    have d89 : a.eval (.tmp 89) = .pointer (some ⟨b, o + k * 5, none⟩) := hD 5 (by kernel_rfl)
                    simp only [Act.eval, Array.getD_eq_getD_getElem?] at d89
                    have kz0 := (hR1.cell (block_lt_of_cell z0)).trans z0
                    show Oper.wp _ _ _ _ _ _
                    unfold Oper.wp
                    simp only [execOp]
                    go_simp
                    exact ⟨_, rfl, rfl, Below.refl _ _⟩
                  · intro a u hR hF hD
                    have hR1 := below_undrew hR
                    have d84 : a.eval (.tmp 84) = pv p := hD 0 (by kernel_rfl)
                    have d85 : a.eval (.tmp 85) = .agg #[.bool false, .int .i64 i] := hD 1 (by kernel_rfl)
                    have d90 : a.eval (.tmp 90) = .string zn := hD 6 (by kernel_rfl)
                    simp only [Act.eval, Array.getD_eq_getD_getElem?] at d84 d85 d90
                    show Oper.wp _ _ _ _ _ _
                    unfold Oper.wp
                    simp only [execOp]
                    go_simp
                    (with_reducible refine (HCP.out u hR1).mono ?_); rintro e u2 ⟨rfl, hb2⟩
                    exact ⟨_, rfl, rfl, hb2⟩
                  · intro a u hR hF hD
                    have hR1 := below_undrew hR
                    have f10 : a.eval (.tmp 10) = .slice (some ⟨b, o, none⟩) L2 cp := hF 10 (by kernel_rfl)
                    simp only [Act.eval, Array.getD_eq_getD_getElem?] at f10
                    show Oper.wp _ _ _ _ _ _
                    unfold Oper.wp
                    simp only [execOp]
                    go_simp
                    exact ⟨_, rfl, rfl, Below.refl _ _⟩
                  · intro a u hR hF hD
                    have hR1 := below_undrew hR
                    have f12 : a.eval (.tmp 12) = .int .i64 (k : Int) := hF 12 (by kernel_rfl)
                    simp only [Act.eval, Array.getD_eq_getD_getElem?] at f12
                    show Oper.wp _ _ _ _ _ _
                    unfold Oper.wp
                    simp only [execOp]
                    go_simp
                    exact ⟨_, rfl, rfl, Below.refl _ _⟩
                  · intro a u hR hF hD
                    have hR1 := below_undrew hR
                    have d92 : a.eval (.tmp 92) = .slice (some ⟨b, o, none⟩) L2 cp := hD 8 (by kernel_rfl)
                    have d93 : a.eval (.tmp 93) = .int .i64 (k : Int) := hD 9 (by kernel_rfl)
                    simp only [Act.eval, Array.getD_eq_getD_getElem?] at d92 d93
                    show Oper.wp _ _ _ _ _ _
                    unfold Oper.wp
                    simp only [execOp]
                    go_simp
                    exact ⟨_, rfl, rfl, Below.refl _ _⟩
                  · intro a u hR hF hD
                    have hR1 := below_undrew hR
                    have d94 : a.eval (.tmp 94) = .pointer (some ⟨b, o + k * 5, none⟩) := hD 10 (by kernel_rfl)
                    simp only [Act.eval, Array.getD_eq_getD_getElem?] at d94
                    show Oper.wp _ _ _ _ _ _
                    unfold Oper.wp
                    simp only [execOp]
                    go_simp
                    exact ⟨_, rfl, rfl, Below.refl _ _⟩
                  · intro a u hR hF hD
                    have hR1 := below_undrew hR
                    have d95 : a.eval (.tmp 95) = .pointer (some ⟨b, o + k * 5 + 1, none⟩) := hD 11 (by kernel_rfl)
                    simp only [Act.eval, Array.getD_eq_getD_getElem?] at d95
                    have kz1 := (hR1.cell (block_lt_of_cell z1)).trans z1
                    have kz2 := (hR1.cell (block_lt_of_cell z2)).trans z2
                    have kz3 := (hR1.cell (block_lt_of_cell z3)).trans z3
                    have kz4 := (hR1.cell (block_lt_of_cell z4)).trans z4
                    show Oper.wp _ _ _ _ _ _
                    unfold Oper.wp
                    simp only [execOp]
                    go_simp
                    exact ⟨_, rfl, rfl, Below.refl _ _⟩
                  · intro a u hR hF hD
                    have hR1 := below_undrew hR
                    have d91 : a.eval (.tmp 91) = .agg #[.int .i64 zk, .int .i64 zm, .float .f64 zf, .string zs] := hD 7 (by kernel_rfl)
                    have d96 : a.eval (.tmp 96) = .agg #[.int .i64 zk, .int .i64 zm, .float .f64 zf, .string zs] := hD 12 (by kernel_rfl)
                    simp only [Act.eval, Array.getD_eq_getD_getElem?] at d91 d96
                    show Oper.wp _ _ _ _ _ _
                    unfold Oper.wp
                    simp only [execOp]
                    go_simp
                    (with_reducible refine (HSM.out u).mono ?_); rintro e u2 ⟨rfl, hb2⟩
                    exact ⟨_, rfl, rfl, hb2⟩
                  · intro a u hR hF hD
                    have hR1 := below_undrew hR
                    have d97 : a.eval (.tmp 97) = .bool true := hD 13 (by kernel_rfl)
                    simp only [Act.eval, Array.getD_eq_getD_getElem?] at d97
                    show Oper.wp _ _ _ _ _ _
                    unfold Oper.wp
                    simp only [execOp]
                    go_simp
                    exact ⟨_, rfl, rfl, Below.refl _ _⟩
                · intro vs u hv hR
                  have e14 : vs 14 = .bool false := hv 14 (by decide)
                  have hR1 := below_undrew hR
                  simp only [putAll, List.take, List.drop, Act.put, List.setIfInBounds_toArray, List.set_cons_succ, List.set_cons_zero, Nat.zero_add, Nat.reduceAdd]
                  rw [e14]
                  generalize vs 0 = t0
                  generalize vs 1 = t1
                  generalize vs 2 = t2
                  generalize vs 3 = t3
                  generalize vs 4 = t4
                  generalize vs 5 = t5
                  generalize vs 6 = t6
                  generalize vs 7 = t7
                  generalize vs 8 = t8
                  generalize vs 9 = t9
                  generalize vs 10 = t10
                  generalize vs 11 = t11
                  generalize vs 12 = t12
                  generalize vs 13 = t13
                  clear hv e14 hR
                  go_wp2_with fail
                  go_roundg (L2 - (k + 1))
                  case rel => exact ⟨k + 1, by omega, by go_num, by rw [HSC2.out], Below.chain HBk.out hR1⟩
                  case measure => omega
            · obtain rfl : L2 = k := by omega
              have kk : ¬ ((L2 : Int) < (L2 : Int)) := by omega
              have ht : l.take L2 = l := List.take_of_length_le (by rw [HLl.out]; exact Nat.le_refl _)
              have hh := look_has HPB.out nm
              have CP := prop7_any HIk.out false i nm
              rw [HPl.out] at CP
              rw [ht]
              rw [← hh]
              generalize lookV l nm = r at *
              obtain ⟨rk, rm, rf, rs⟩ := r
              dsimp only [vv] at CP hh ⊢
              have HCP := Lib.hid CP
              clear CP ht hh
              have v0 := HVk.out.cell 0
              have v1 := HVk.out.cell 1
              simp only [List.getElem?_toArray, List.getElem?_cons_zero, List.getElem?_cons_succ] at v0 v1
              cases hrk : (rk != 0)
              · go_wp2_with fail
                (with_reducible refine HCP.out.mono ?_); rintro e wF ⟨rfl, hbF⟩
                have HBF := Lib.hid (HBe.out.trans ((Below.chain HBk.out hbF).mono HBe.out.size))
                clear v0 v1 hbF
                go_wp2_with fail
                go_roundg (n1 + n2 - (i + 1))
                case rel => exact ⟨i + 1, by omega, by go_num, HBF.out⟩
                case measure => omega
              · go_wp2_with fail
                (with_reducible refine HCP.out.mono ?_); rintro e wF ⟨rfl, hbF⟩
                have HBF := Lib.hid (HBe.out.trans ((Below.chain HBk.out hbF).mono HBe.out.size))
                clear v0 v1 hbF
                go_wp2_with fail
                go_roundg (n1 + n2 - (i + 1))
                case rel => exact ⟨i + 1, by omega, by go_num, HBF.out⟩
                case measure => omega
        · have jj : ¬ (i : Int) < (n1 : Int) := by omega
          obtain ⟨j, hj⟩ : ∃ j, i = n1 + j := ⟨i - n1, by omega⟩
          have hj1 : (i : Int) - (n1 : Int) = (j : Int) := by omega
          have hj2 : (j : Int) < (n2 : Int) := by omega
          clear hj
          obtain ⟨-, ⟨ys, hx, hk⟩, -⟩ := HZr.out
          dsimp only [Sl.v] at hx
          have hi1 : j < gc.edges.length := by rw [HL2.out]; omega
          have hi2 : j < ys.length := by rw [← hk.1]; exact hi1
          obtain ⟨b1, o1, rfl, hc⟩ := RwD.at hx j hi2
          obtain ⟨-, -, -, -, -, z2⟩ := hc j hi2
          obtain ⟨-, -, -, -, -, -, -, hP, hO, -⟩ := hk.2 j hi1 hi2
          have HPl := Lib.hid (props_edge gc j hi1)
          have HPB := Lib.hid (right_ep HR0.out j hi1)
          have HOk := Lib.hid hO
          generalize gc.edges[j].props = l at *
          generalize ys[j].p = q at *
          have hh := hP.hd
          obtain ⟨qa, L2, cp⟩ := q
          dsimp only [Sl.v] at z2 hP hh
          have HLl := Lib.hid hh.1
          have mL2 := hh.2
          clear hh
          have hlz := block_lt_of_cell z2
          have hbe := bl_al (o := .cells #[] 69) (bl_al (o := .cells #[.bool true, .int .i64 j] 27) (Below.refl wr.heap.size wr))
          have HRw := Lib.hid (hP.keep hbe)
          have HIw := Lib.hid (HIr.out.keep hbe)
          have HBw := Lib.hid (Below.chain HBr.out hbe)
          have HVw := Lib.hid ((Vr.new wr 27 #[.bool true, .int .i64 j]).al (o := .cells #[] 69))
          clear hx hk hc hi1 hi2 hO hP hbe
          go_wp2_with fail
          generalize (wr.alloc (.cells #[.bool true, .int .i64 j] 27)).alloc (.cells #[] 69) = wE at *
          have HRe := HRw
          have HIe := HIw
          have HBe := HBw
          have HVe := HVw
          clear HRw HIw HBw HVw z2 hlz q0 q1 HVr HZr HIr HBr hlt2
          generalize wr = wO at *
          go_loopg [11, 12] L2 (fun gg s11 s12 wr => ∃ k : Nat, gg + k = L2 ∧ s12 = .int .i64 k ∧ s11 = .bool (hasP (l.take k) nm) ∧ Below wE.heap.size wE wr)
          case atStart => exact ⟨0, rfl, rfl, rfl, Below.refl _ _⟩
          case round =>
            obtain ⟨k, hgk, rfl, rfl, hbk⟩ := hrel
            have HBk := Lib.hid hbk
            have HIk := Lib.hid (HIe.out.keep hbk)
            have HVk := Lib.hid (HVe.out.keep hbk)
            clear hbk
            by_cases hkL : k < L2
            · have kk : (k : Int) < (L2 : Int) := by omega
              have hk : k < l.length := by rw [HLl.out]; exact hkL
              obtain ⟨b, o, rfl, z0, z1, z2, z3, z4⟩ := RwP.at (HRe.out.keep HBk.out) k hk
              have hok := HOk.out _ (List.getElem_mem hk)
              have hlk := look_own HPB.out k hk
              have hsc := hasP_succ l nm k hk
              have HCP := Lib.hid (fun u (hb : Below wr.heap.size wr u) => prop7_any (HIk.out.keep hb) true j l[k].1)
              rw [HPl.out, hlk] at HCP
              generalize l[k] = z at *
              obtain ⟨zn, ⟨zk, zm, zf, zs⟩⟩ := z
              dsimp only [vv] at z0 z1 z2 z3 z4 HCP hsc
              have HSM := Lib.hid (fun u => same2_refl ⟨zk, zm, zf, zs⟩ hok u)
              dsimp only [vv] at HSM
              have HSC := Lib.hid hsc
              clear hok hlk hsc
              generalize hasP (l.take k) nm = hv at *
              cases hv
              · cases hzn : zn.toList == nm.toList
                · rw [hzn] at HSC
                  go_wp2_with fail
                  refine wp_region_facts 15 (VP (pv p) (.agg #[.bool true, .int .i64 j]) (.slice (some ⟨b, o, none⟩) L2 cp) (.int .i64 (k : Int)) (.pointer (some ⟨b, o + k * 5, none⟩)) (.string zn) (.agg #[.int .i64 zk, .int .i64 zm, .float .f64 zf, .string zs]) (.pointer (some ⟨b, o + k * 5 + 1, none⟩))) (fun a b => Below a.heap.size a b) (by kernel_rfl) (by decide) (by kernel_rfl) (by kernel_rfl) (fun a => Below.refl _ _) (fun a b c => Below.chain) (fun i v _ _ h _ => h) ?_ ?_
                  · refine ⟨?_, ?_, ?_, ?_, ?_, ?_, ?_, ?_, ?_, ?_, ?_, ?_, ?_, ?_, ?_, trivial⟩
                    · intro a u hR hF hD
                      have hR1 := below_undrew hR
                      have f6 : a.eval (.tmp 6) = pv p := hF 6 (by kernel_rfl)
                      simp only [Act.eval, Array.getD_eq_getD_getElem?] at f6
                      show Oper.wp _ _ _ _ _ _
                      unfold Oper.wp
                      simp only [execOp]
                      go_simp
                      exact ⟨_, rfl, rfl, Below.refl _ _⟩
                    · intro a u hR hF hD
                      have hR1 := below_undrew hR
                      have f9 : a.eval (.tmp 9) = .pointer (some ⟨wO.heap.size, 0, none⟩) := hF 9 (by kernel_rfl)
                      simp only [Act.eval, Array.getD_eq_getD_getElem?] at f9
                      have q0 := (HVk.out.keep hR1).cell 0
                      have q1 := (HVk.out.keep hR1).cell 1
                      simp only [List.getElem?_toArray, List.getElem?_cons_zero, List.getElem?_cons_succ] at q0 q1
                      show Oper.wp _ _ _ _ _ _
                      unfold Oper.wp
                      simp only [execOp]
                      go_simp
                      exact ⟨_, rfl, rfl, Below.refl _ _⟩
                    · intro a u hR hF hD
                      have hR1 := below_undrew hR
                      have f10 : a.eval (.tmp 10) = .slice (some ⟨b, o, none⟩) L2 cp := hF 10 (by kernel_rfl)
                      simp only [Act.eval, Array.getD_eq_getD_getElem?] at f10
                      show Oper.wp _ _ _ _ _ _
                      unfold Oper.wp
                      simp only [execOp]
                      go_simp
                      exact ⟨_, rfl, rfl, Below.refl _ _⟩
                    · intro a u hR hF hD
                      have hR1 := below_undrew hR
                      have f12 : a.eval (.tmp 12) = .int .i64 (k : Int) := hF 12 (by kernel_rfl)
                      simp only [Act.eval, Array.getD_eq_getD_getElem?] at f12
                      show Oper.wp _ _ _ _ _ _
                      unfold Oper.wp
                      simp only [execOp]
                      go_simp
                      exact ⟨_, rfl, rfl, Below.refl _ _⟩
                    · intro a u hR hF hD
                      have hR1 := below_undrew hR
                      have d86 : a.eval (.tmp 86) = .slice (some ⟨b, o, none⟩) L2 cp := hD 2 (by kernel_rfl)
                      have d87 : a.eval (.tmp 87) = .int .i64 (k : Int) := hD 3 (by kernel_rfl)
                      simp only [Act.eval, Array.getD_eq_getD_getElem?] at d86 d87
                      show Oper.wp _ _ _ _ _ _
                      unfold Oper.wp
                      simp only [execOp]
                      go_simp
                      exact ⟨_, rfl, rfl, Below.refl _ _⟩
                    · intro a u hR hF hD
                      have hR1 := below_undrew hR
                      have d88 : a.eval (.tmp 88) = .pointer (some ⟨b, o + k * 5, none⟩) := hD 4 (by kernel_rfl)
                      simp only [Act.eval, Array.getD_eq_getD_getElem?] at d88
                      show Oper.wp _ _ _ _ _ _
                      unfold Oper.wp
                      simp only [execOp]
                      go_simp
                      exact ⟨_, rfl, rfl, Below.refl _ _⟩
                    · intro a u hR hF hD
                      have hR1 := below_undrew hR
                      have d89 : a.eval (.tmp 89) = .pointer (some ⟨b, o + k * 5, none⟩) := hD 5 (by kernel_rfl)
                      simp only [Act.eval, Array.getD_eq_getD_getElem?] at d89
                      have kz0 := (hR1.cell (block_lt_of_cell z0)).trans z0
                      show Oper.wp _ _ _ _ _ _
                      unfold Oper.wp
                      simp only [execOp]
                      go_simp
                      exact ⟨_, rfl, rfl, Below.refl _ _⟩
                    · intro a u hR hF hD
                      have hR1 := below_undrew hR
                      have d84 : a.eval (.tmp 84) = pv p := hD 0 (by kernel_rfl)
                      have d85 : a.eval (.tmp 85) = .agg #[.bool true, .int .i64 j] := hD 1 (by kernel_rfl)
                      have d90 : a.eval (.tmp 90) = .string zn := hD 6 (by kernel_rfl)
                      simp only [Act.eval, Array.getD_eq_getD_getElem?] at d84 d85 d90
                      show Oper.wp _ _ _ _ _ _
                      unfold Oper.wp
                      simp only [execOp]
                      go_simp
                      (with_reducible refine (HCP.out u hR1).mono ?_); rintro e u2 ⟨rfl, hb2⟩
                      exact ⟨_, rfl, rfl, hb2⟩
                    · intro a u hR hF hD
                      have hR1 := below_undrew hR
                      have f10 : a.eval (.tmp 10) = .slice (some ⟨b, o, none⟩) L2 cp := hF 10 (by kernel_rfl)
                      simp only [Act.eval, Array.getD_eq_getD_getElem?] at f10
                      show Oper.wp _ _ _ _ _ _
                      unfold Oper.wp
                      simp only [execOp]
                      go_simp
                      exact ⟨_, rfl, rfl, Below.refl _ _⟩
                    · intro a u hR hF hD
                      have hR1 := below_undrew hR
                      have f12 : a.eval (.tmp 12) = .int .i64 (k : Int) := hF 12 (by kernel_rfl)
                      simp only [Act.eval, Array.getD_eq_getD_getElem?] at f12
                      show Oper.wp _ _ _ _ _ _
                      unfold Oper.wp
                      simp only [execOp]
                      go_simp
                      exact ⟨_, rfl, rfl, Below.refl _ _⟩
                    · intro a u hR hF hD
                      have hR1 := below_undrew hR
                      have d92 : a.eval (.tmp 92) = .slice (some ⟨b, o, none⟩) L2 cp := hD 8 (by kernel_rfl)
                      have d93 : a.eval (.tmp 93) = .int .i64 (k : Int) := hD 9 (by kernel_rfl)
                      simp only [Act.eval, Array.getD_eq_getD_getElem?] at d92 d93
                      show Oper.wp _ _ _ _ _ _
                      unfold Oper.wp
                      simp only [execOp]
                      go_simp
                      exact ⟨_, rfl, rfl, Below.refl _ _⟩
                    · intro a u hR hF hD
                      have hR1 := below_undrew hR
                      have d94 : a.eval (.tmp 94) = .pointer (some ⟨b, o + k * 5, none⟩) := hD 10 (by kernel_rfl)
                      simp only [Act.eval, Array.getD_eq_getD_getElem?] at d94
                      show Oper.wp _ _ _ _ _ _
                      unfold Oper.wp
                      simp only [execOp]
                      go_simp
                      exact ⟨_, rfl, rfl, Below.refl _ _⟩
                    · intro a u hR hF hD
                      have hR1 := below_undrew hR
                      have d95 : a.eval (.tmp 95) = .pointer (some ⟨b, o + k * 5 + 1, none⟩) := hD 11 (by kernel_rfl)
                      simp only [Act.eval, Array.getD_eq_getD_getElem?] at d95
                      have kz1 := (hR1.cell (block_lt_of_cell z1)).trans z1
                      have kz2 := (hR1.cell (block_lt_of_cell z2)).trans z2
                      have kz3 := (hR1.cell (block_lt_of_cell z3)).trans z3
                      have kz4 := (hR1.cell (block_lt_of_cell z4)).trans z4
                      show Oper.wp _ _ _ _ _ _
                      unfold Oper.wp
                      simp only [execOp]
                      go_simp
                      exact ⟨_, rfl, rfl, Below.refl _ _⟩
                    · intro a u hR hF hD
                      have hR1 := below_undrew hR
                      have d91 : a.eval (.tmp 91) = .agg #[.int .i64 zk, .int .i64 zm, .float .f64 zf, .string zs] := hD 7 (by kernel_rfl)
                      have d96 : a.eval (.tmp 96) = .agg #[.int .i64 zk, .int .i64 zm, .float .f64 zf, .string zs] := hD 12 (by kernel_rfl)
                      simp only [Act.eval, Array.getD_eq_getD_getElem?] at d91 d96
                      show Oper.wp _ _ _ _ _ _
                      unfold Oper.wp
                      simp only [execOp]
                      go_simp
                      (with_reducible refine (HSM.out u).mono ?_); rintro e u2 ⟨rfl, hb2⟩
                      exact ⟨_, rfl, rfl, hb2⟩
                    · intro a u hR hF hD
                      have hR1 := below_undrew hR
                      have d97 : a.eval (.tmp 97) = .bool true := hD 13 (by kernel_rfl)
                      simp only [Act.eval, Array.getD_eq_getD_getElem?] at d97
                      show Oper.wp _ _ _ _ _ _
                      unfold Oper.wp
                      simp only [execOp]
                      go_simp
                      exact ⟨_, rfl, rfl, Below.refl _ _⟩
                  · intro vs u hv hR
                    have e14 : vs 14 = .bool false := hv 14 (by decide)
                    have hR1 := below_undrew hR
                    simp only [putAll, List.take, List.drop, Act.put, List.setIfInBounds_toArray, List.set_cons_succ, List.set_cons_zero, Nat.zero_add, Nat.reduceAdd]
                    rw [e14]
                    generalize vs 0 = t0
                    generalize vs 1 = t1
                    generalize vs 2 = t2
                    generalize vs 3 = t3
                    generalize vs 4 = t4
                    generalize vs 5 = t5
                    generalize vs 6 = t6
                    generalize vs 7 = t7
                    generalize vs 8 = t8
                    generalize vs 9 = t9
                    generalize vs 10 = t10
                    generalize vs 11 = t11
                    generalize vs 12 = t12
                    generalize vs 13 = t13
                    clear hv e14 hR
                    go_wp2_with fail
                    go_roundg (L2 - (k + 1))
                    case rel => exact ⟨k + 1, by omega, by go_num, by rw [HSC.out]; rfl, Below.chain HBk.out hR1⟩
                    case measure => omega
                · rw [hzn] at HSC
                  go_wp2_with fail
                  refine wp_region_facts 15 (VP (pv p) (.agg #[.bool true, .int .i64 j]) (.slice (some ⟨b, o, none⟩) L2 cp) (.int .i64 (k : Int)) (.pointer (some ⟨b, o + k * 5, none⟩)) (.string zn) (.agg #[.int .i64 zk, .int .i64 zm, .float .f64 zf, .string zs]) (.pointer (some ⟨b, o + k * 5 + 1, none⟩))) (fun a b => Below a.heap.size a b) (by kernel_rfl) (by decide) (by kernel_rfl) (by kernel_rfl) (fun a => Below.refl _ _) (fun a b c => Below.chain) (fun i v _ _ h _ => h) ?_ ?_
                  · refine ⟨?_, ?_, ?_, ?_, ?_, ?_, ?_, ?_, ?_, ?_, ?_, ?_, ?_, ?_, ?_, trivial⟩
                    · intro a u hR hF hD
                      have hR1 := below_undrew hR
                      have f6 : a.eval (.tmp 6) = pv p := hF 6 (by kernel_rfl)
                      simp only [Act.eval, Array.getD_eq_getD_getElem?] at f6
                      show Oper.wp _ _ _ _ _ _
                      unfold Oper.wp
                      simp only [execOp]
                      go_simp
                      exact ⟨_, rfl, rfl, Below.refl _ _⟩
                    · intro a u hR hF hD
                      have hR1 := below_undrew hR
                      have f9 : a.eval (.tmp 9) = .pointer (some ⟨wO.heap.size, 0, none⟩) := hF 9 (by kernel_rfl)
                      simp only [Act.eval, Array.getD_eq_getD_getElem?] at f9
                      have q0 := (HVk.out.keep hR1).cell 0
                      have q1 := (HVk.out.keep hR1).cell 1
                      simp only [List.getElem?_toArray, List.getElem?_cons_zero, List.getElem?_cons_succ] at q0 q1
                      show Oper.wp _ _ _ _ _ _
                      unfold Oper.wp
                      simp only [execOp]
                      go_simp
                      exact ⟨_, rfl, rfl, Below.refl _ _⟩
                    · intro a u hR hF hD
                      have hR1 := below_undrew hR
                      have f10 : a.eval (.tmp 10) = .slice (some ⟨b, o, none⟩) L2 cp := hF 10 (by kernel_rfl)
                      simp only [Act.eval, Array.getD_eq_getD_getElem?] at f10
                      show Oper.wp _ _ _ _ _ _
                      unfold Oper.wp
                      simp only [execOp]
                      go_simp
                      exact ⟨_, rfl, rfl, Below.refl _ _⟩
                    · intro a u hR hF hD
                      have hR1 := below_undrew hR
                      have f12 : a.eval (.tmp 12) = .int .i64 (k : Int) := hF 12 (by kernel_rfl)
                      simp only [Act.eval, Array.getD_eq_getD_getElem?] at f12
                      show Oper.wp _ _ _ _ _ _
                      unfold Oper.wp
                      simp only [execOp]
                      go_simp
                      exact ⟨_, rfl, rfl, Below.refl _ _⟩
                    · intro a u hR hF hD
                      have hR1 := below_undrew hR
                      have d86 : a.eval (.tmp 86) = .slice (some ⟨b, o, none⟩) L2 cp := hD 2 (by kernel_rfl)
                      have d87 : a.eval (.tmp 87) = .int .i64 (k : Int) := hD 3 (by kernel_rfl)
                      simp only [Act.eval, Array.getD_eq_getD_getElem?] at d86 d87
                      show Oper.wp _ _ _ _ _ _
                      unfold Oper.wp
                      simp only [execOp]
                      go_simp
                      exact ⟨_, rfl, rfl, Below.refl _ _⟩
                    · intro a u hR hF hD
                      have hR1 := below_undrew hR
                      have d88 : a.eval (.tmp 88) = .pointer (some ⟨b, o + k * 5, none⟩) := hD 4 (by kernel_rfl)
                      simp only [Act.eval, Array.getD_eq_getD_getElem?] at d88
                      show Oper.wp _ _ _ _ _ _
                      unfold Oper.wp
                      simp only [execOp]
                      go_simp
                      exact ⟨_, rfl, rfl, Below.refl _ _⟩
                    · intro a u hR hF hD
                      have hR1 := below_undrew hR
                      have d89 : a.eval (.tmp 89) = .pointer (some ⟨b, o + k * 5, none⟩) := hD 5 (by kernel_rfl)
                      simp only [Act.eval, Array.getD_eq_getD_getElem?] at d89
                      have kz0 := (hR1.cell (block_lt_of_cell z0)).trans z0
                      show Oper.wp _ _ _ _ _ _
                      unfold Oper.wp
                      simp only [execOp]
                      go_simp
                      exact ⟨_, rfl, rfl, Below.refl _ _⟩
                    · intro a u hR hF hD
                      have hR1 := below_undrew hR
                      have d84 : a.eval (.tmp 84) = pv p := hD 0 (by kernel_rfl)
                      have d85 : a.eval (.tmp 85) = .agg #[.bool true, .int .i64 j] := hD 1 (by kernel_rfl)
                      have d90 : a.eval (.tmp 90) = .string zn := hD 6 (by kernel_rfl)
                      simp only [Act.eval, Array.getD_eq_getD_getElem?] at d84 d85 d90
                      show Oper.wp _ _ _ _ _ _
                      unfold Oper.wp
                      simp only [execOp]
                      go_simp
                      (with_reducible refine (HCP.out u hR1).mono ?_); rintro e u2 ⟨rfl, hb2⟩
                      exact ⟨_, rfl, rfl, hb2⟩
                    · intro a u hR hF hD
                      have hR1 := below_undrew hR
                      have f10 : a.eval (.tmp 10) = .slice (some ⟨b, o, none⟩) L2 cp := hF 10 (by kernel_rfl)
                      simp only [Act.eval, Array.getD_eq_getD_getElem?] at f10
                      show Oper.wp _ _ _ _ _ _
                      unfold Oper.wp
                      simp only [execOp]
                      go_simp
                      exact ⟨_, rfl, rfl, Below.refl _ _⟩
                    · intro a u hR hF hD
                      have hR1 := below_undrew hR
                      have f12 : a.eval (.tmp 12) = .int .i64 (k : Int) := hF 12 (by kernel_rfl)
                      simp only [Act.eval, Array.getD_eq_getD_getElem?] at f12
                      show Oper.wp _ _ _ _ _ _
                      unfold Oper.wp
                      simp only [execOp]
                      go_simp
                      exact ⟨_, rfl, rfl, Below.refl _ _⟩
                    · intro a u hR hF hD
                      have hR1 := below_undrew hR
                      have d92 : a.eval (.tmp 92) = .slice (some ⟨b, o, none⟩) L2 cp := hD 8 (by kernel_rfl)
                      have d93 : a.eval (.tmp 93) = .int .i64 (k : Int) := hD 9 (by kernel_rfl)
                      simp only [Act.eval, Array.getD_eq_getD_getElem?] at d92 d93
                      show Oper.wp _ _ _ _ _ _
                      unfold Oper.wp
                      simp only [execOp]
                      go_simp
                      exact ⟨_, rfl, rfl, Below.refl _ _⟩
                    · intro a u hR hF hD
                      have hR1 := below_undrew hR
                      have d94 : a.eval (.tmp 94) = .pointer (some ⟨b, o + k * 5, none⟩) := hD 10 (by kernel_rfl)
                      simp only [Act.eval, Array.getD_eq_getD_getElem?] at d94
                      show Oper.wp _ _ _ _ _ _
                      unfold Oper.wp
                      simp only [execOp]
                      go_simp
                      exact ⟨_, rfl, rfl, Below.refl _ _⟩
                    · intro a u hR hF hD
                      have hR1 := below_undrew hR
                      have d95 : a.eval (.tmp 95) = .pointer (some ⟨b, o + k * 5 + 1, none⟩) := hD 11 (by kernel_rfl)
                      simp only [Act.eval, Array.getD_eq_getD_getElem?] at d95
                      have kz1 := (hR1.cell (block_lt_of_cell z1)).trans z1
                      have kz2 := (hR1.cell (block_lt_of_cell z2)).trans z2
                      have kz3 := (hR1.cell (block_lt_of_cell z3)).trans z3
                      have kz4 := (hR1.cell (block_lt_of_cell z4)).trans z4
                      show Oper.wp _ _ _ _ _ _
                      unfold Oper.wp
                      simp only [execOp]
                      go_simp
                      exact ⟨_, rfl, rfl, Below.refl _ _⟩
                    · intro a u hR hF hD
                      have hR1 := below_undrew hR
                      have d91 : a.eval (.tmp 91) = .agg #[.int .i64 zk, .int .i64 zm, .float .f64 zf, .string zs] := hD 7 (by kernel_rfl)
                      have d96 : a.eval (.tmp 96) = .agg #[.int .i64 zk, .int .i64 zm, .float .f64 zf, .string zs] := hD 12 (by kernel_rfl)
                      simp only [Act.eval, Array.getD_eq_getD_getElem?] at d91 d96
                      show Oper.wp _ _ _ _ _ _
                      unfold Oper.wp
                      simp only [execOp]
                      go_simp
                      (with_reducible refine (HSM.out u).mono ?_); rintro e u2 ⟨rfl, hb2⟩
                      exact ⟨_, rfl, rfl, hb2⟩
                    · intro a u hR hF hD
                      have hR1 := below_undrew hR
                      have d97 : a.eval (.tmp 97) = .bool true := hD 13 (by kernel_rfl)
                      simp only [Act.eval, Array.getD_eq_getD_getElem?] at d97
                      show Oper.wp _ _ _ _ _ _
                      unfold Oper.wp
                      simp only [execOp]
                      go_simp
                      exact ⟨_, rfl, rfl, Below.refl _ _⟩
                  · intro vs u hv hR
                    have e14 : vs 14 = .bool false := hv 14 (by decide)
                    have hR1 := below_undrew hR
                    simp only [putAll, List.take, List.drop, Act.put, List.setIfInBounds_toArray, List.set_cons_succ, List.set_cons_zero, Nat.zero_add, Nat.reduceAdd]
                    rw [e14]
                    generalize vs 0 = t0
                    generalize vs 1 = t1
                    generalize vs 2 = t2
                    generalize vs 3 = t3
                    generalize vs 4 = t4
                    generalize vs 5 = t5
                    generalize vs 6 = t6
                    generalize vs 7 = t7
                    generalize vs 8 = t8
                    generalize vs 9 = t9
                    generalize vs 10 = t10
                    generalize vs 11 = t11
                    generalize vs 12 = t12
                    generalize vs 13 = t13
                    clear hv e14 hR
                    go_wp2_with fail
                    go_roundg (L2 - (k + 1))
                    case rel => exact ⟨k + 1, by omega, by go_num, by rw [HSC.out]; rfl, Below.chain HBk.out hR1⟩
                    case measure => omega
              · have HSC2 := Lib.hid (HSC.out.trans (Bool.true_or _))
                clear HSC
                go_wp2_with fail
                refine wp_region_facts 15 (VP (pv p) (.agg #[.bool true, .int .i64 j]) (.slice (some ⟨b, o, none⟩) L2 cp) (.int .i64 (k : Int)) (.pointer (some ⟨b, o + k * 5, none⟩)) (.string zn) (.agg #[.int .i64 zk, .int .i64 zm, .float .f64 zf, .string zs]) (.pointer (some ⟨b, o + k * 5 + 1, none⟩))) (fun a b => Below a.heap.size a b) (by kernel_rfl) (by decide) (by kernel_rfl) (by kernel_rfl) (fun a => Below.refl _ _) (fun a b c => Below.chain) (fun i v _ _ h _ => h) ?_ ?_
                · refine ⟨?_, ?_, ?_, ?_, ?_, ?_, ?_, ?_, ?_, ?_, ?_, ?_, ?_, ?_, ?_, trivial⟩
                  · intro a u hR hF hD
                    have hR1 := below_undrew hR
                    have f6 : a.eval (.tmp 6) = pv p := hF 6 (by kernel_rfl)
                    simp only [Act.eval, Array.getD_eq_getD_getElem?] at f6
                    show Oper.wp _ _ _ _ _ _
                    unfold Oper.wp
                    simp only [execOp]
                    go_simp
                    exact ⟨_, rfl, rfl, Below.refl _ _⟩
                  · intro a u hR hF hD
                    have hR1 := below_undrew hR
                    have f9 : a.eval (.tmp 9) = .pointer (some ⟨wO.heap.size, 0, none⟩) := hF 9 (by kernel_rfl)
                    simp only [Act.eval, Array.getD_eq_getD_getElem?] at f9
                    have q0 := (HVk.out.keep hR1).cell 0
                    have q1 := (HVk.out.keep hR1).cell 1
                    simp only [List.getElem?_toArray, List.getElem?_cons_zero, List.getElem?_cons_succ] at q0 q1
                    show Oper.wp _ _ _ _ _ _
                    unfold Oper.wp
                    simp only [execOp]
                    go_simp
                    exact ⟨_, rfl, rfl, Below.refl _ _⟩
                  · intro a u hR hF hD
                    have hR1 := below_undrew hR
                    have f10 : a.eval (.tmp 10) = .slice (some ⟨b, o, none⟩) L2 cp := hF 10 (by kernel_rfl)
                    simp only [Act.eval, Array.getD_eq_getD_getElem?] at f10
                    show Oper.wp _ _ _ _ _ _
                    unfold Oper.wp
                    simp only [execOp]
                    go_simp
                    exact ⟨_, rfl, rfl, Below.refl _ _⟩
                  · intro a u hR hF hD
                    have hR1 := below_undrew hR
                    have f12 : a.eval (.tmp 12) = .int .i64 (k : Int) := hF 12 (by kernel_rfl)
                    simp only [Act.eval, Array.getD_eq_getD_getElem?] at f12
                    show Oper.wp _ _ _ _ _ _
                    unfold Oper.wp
                    simp only [execOp]
                    go_simp
                    exact ⟨_, rfl, rfl, Below.refl _ _⟩
                  · intro a u hR hF hD
                    have hR1 := below_undrew hR
                    have d86 : a.eval (.tmp 86) = .slice (some ⟨b, o, none⟩) L2 cp := hD 2 (by kernel_rfl)
                    have d87 : a.eval (.tmp 87) = .int .i64 (k : Int) := hD 3 (by kernel_rfl)
                    simp only [Act.eval, Array.getD_eq_getD_getElem?] at d86 d87
                    show Oper.wp _ _ _ _ _ _
                    unfold Oper.wp
                    simp only [execOp]
                    go_simp
                    exact ⟨_, rfl, rfl, Below.refl _ _⟩
                  · intro a u hR hF hD
                    have hR1 := below_undrew hR
                    have d88 : a.eval (.tmp 88) = .pointer (some ⟨b, o + k * 5, none⟩) := hD 4 (by kernel_rfl)
                    simp only [Act.eval, Array.getD_eq_getD_getElem?] at d88
                    show Oper.wp _ _ _ _ _ _
                    unfold Oper.wp
                    simp only [execOp]
                    go_simp
                    exact ⟨_, rfl, rfl, Below.refl _ _⟩
                  · intro a u hR hF hD
                    have hR1 := below_undrew hR
                    have d89 : a.eval (.tmp 89) = .pointer (some ⟨b, o + k * 5, none⟩) := hD 5 (by kernel_rfl)
                    simp only [Act.eval, Array.getD_eq_getD_getElem?] at d89
                    have kz0 := (hR1.cell (block_lt_of_cell z0)).trans z0
                    show Oper.wp _ _ _ _ _ _
                    unfold Oper.wp
                    simp only [execOp]
                    go_simp
                    exact ⟨_, rfl, rfl, Below.refl _ _⟩
                  · intro a u hR hF hD
                    have hR1 := below_undrew hR
                    have d84 : a.eval (.tmp 84) = pv p := hD 0 (by kernel_rfl)
                    have d85 : a.eval (.tmp 85) = .agg #[.bool true, .int .i64 j] := hD 1 (by kernel_rfl)
                    have d90 : a.eval (.tmp 90) = .string zn := hD 6 (by kernel_rfl)
                    simp only [Act.eval, Array.getD_eq_getD_getElem?] at d84 d85 d90
                    show Oper.wp _ _ _ _ _ _
                    unfold Oper.wp
                    simp only [execOp]
                    go_simp
                    (with_reducible refine (HCP.out u hR1).mono ?_); rintro e u2 ⟨rfl, hb2⟩
                    exact ⟨_, rfl, rfl, hb2⟩
                  · intro a u hR hF hD
                    have hR1 := below_undrew hR
                    have f10 : a.eval (.tmp 10) = .slice (some ⟨b, o, none⟩) L2 cp := hF 10 (by kernel_rfl)
                    simp only [Act.eval, Array.getD_eq_getD_getElem?] at f10
                    show Oper.wp _ _ _ _ _ _
                    unfold Oper.wp
                    simp only [execOp]
                    go_simp
                    exact ⟨_, rfl, rfl, Below.refl _ _⟩
                  · intro a u hR hF hD
                    have hR1 := below_undrew hR
                    have f12 : a.eval (.tmp 12) = .int .i64 (k : Int) := hF 12 (by kernel_rfl)
                    simp only [Act.eval, Array.getD_eq_getD_getElem?] at f12
                    show Oper.wp _ _ _ _ _ _
                    unfold Oper.wp
                    simp only [execOp]
                    go_simp
                    exact ⟨_, rfl, rfl, Below.refl _ _⟩
                  · intro a u hR hF hD
                    have hR1 := below_undrew hR
                    have d92 : a.eval (.tmp 92) = .slice (some ⟨b, o, none⟩) L2 cp := hD 8 (by kernel_rfl)
                    have d93 : a.eval (.tmp 93) = .int .i64 (k : Int) := hD 9 (by kernel_rfl)
                    simp only [Act.eval, Array.getD_eq_getD_getElem?] at d92 d93
                    show Oper.wp _ _ _ _ _ _
                    unfold Oper.wp
                    simp only [execOp]
                    go_simp
                    exact ⟨_, rfl, rfl, Below.refl _ _⟩
                  · intro a u hR hF hD
                    have hR1 := below_undrew hR
                    have d94 : a.eval (.tmp 94) = .pointer (some ⟨b, o + k * 5, none⟩) := hD 10 (by kernel_rfl)
                    simp only [Act.eval, Array.getD_eq_getD_getElem?] at d94
                    show Oper.wp _ _ _ _ _ _
                    unfold Oper.wp
                    simp only [execOp]
                    go_simp
                    exact ⟨_, rfl, rfl, Below.refl _ _⟩
                  · intro a u hR hF hD
                    have hR1 := below_undrew hR
                    have d95 : a.eval (.tmp 95) = .pointer (some ⟨b, o + k * 5 + 1, none⟩) := hD 11 (by kernel_rfl)
                    simp only [Act.eval, Array.getD_eq_getD_getElem?] at d95
                    have kz1 := (hR1.cell (block_lt_of_cell z1)).trans z1
                    have kz2 := (hR1.cell (block_lt_of_cell z2)).trans z2
                    have kz3 := (hR1.cell (block_lt_of_cell z3)).trans z3
                    have kz4 := (hR1.cell (block_lt_of_cell z4)).trans z4
                    show Oper.wp _ _ _ _ _ _
                    unfold Oper.wp
                    simp only [execOp]
                    go_simp
                    exact ⟨_, rfl, rfl, Below.refl _ _⟩
                  · intro a u hR hF hD
                    have hR1 := below_undrew hR
                    have d91 : a.eval (.tmp 91) = .agg #[.int .i64 zk, .int .i64 zm, .float .f64 zf, .string zs] := hD 7 (by kernel_rfl)
                    have d96 : a.eval (.tmp 96) = .agg #[.int .i64 zk, .int .i64 zm, .float .f64 zf, .string zs] := hD 12 (by kernel_rfl)
                    simp only [Act.eval, Array.getD_eq_getD_getElem?] at d91 d96
                    show Oper.wp _ _ _ _ _ _
                    unfold Oper.wp
                    simp only [execOp]
                    go_simp
                    (with_reducible refine (HSM.out u).mono ?_); rintro e u2 ⟨rfl, hb2⟩
                    exact ⟨_, rfl, rfl, hb2⟩
                  · intro a u hR hF hD
                    have hR1 := below_undrew hR
                    have d97 : a.eval (.tmp 97) = .bool true := hD 13 (by kernel_rfl)
                    simp only [Act.eval, Array.getD_eq_getD_getElem?] at d97
                    show Oper.wp _ _ _ _ _ _
                    unfold Oper.wp
                    simp only [execOp]
                    go_simp
                    exact ⟨_, rfl, rfl, Below.refl _ _⟩
                · intro vs u hv hR
                  have e14 : vs 14 = .bool false := hv 14 (by decide)
                  have hR1 := below_undrew hR
                  simp only [putAll, List.take, List.drop, Act.put, List.setIfInBounds_toArray, List.set_cons_succ, List.set_cons_zero, Nat.zero_add, Nat.reduceAdd]
                  rw [e14]
                  generalize vs 0 = t0
                  generalize vs 1 = t1
                  generalize vs 2 = t2
                  generalize vs 3 = t3
                  generalize vs 4 = t4
                  generalize vs 5 = t5
                  generalize vs 6 = t6
                  generalize vs 7 = t7
                  generalize vs 8 = t8
                  generalize vs 9 = t9
                  generalize vs 10 = t10
                  generalize vs 11 = t11
                  generalize vs 12 = t12
                  generalize vs 13 = t13
                  clear hv e14 hR
                  go_wp2_with fail
                  go_roundg (L2 - (k + 1))
                  case rel => exact ⟨k + 1, by omega, by go_num, by rw [HSC2.out], Below.chain HBk.out hR1⟩
                  case measure => omega
            · obtain rfl : L2 = k := by omega
              have kk : ¬ ((L2 : Int) < (L2 : Int)) := by omega
              have ht : l.take L2 = l := List.take_of_length_le (by rw [HLl.out]; exact Nat.le_refl _)
              have hh := look_has HPB.out nm
              have CP := prop7_any HIk.out true j nm
              rw [HPl.out] at CP
              rw [ht]
              rw [← hh]
              generalize lookV l nm = r at *
              obtain ⟨rk, rm, rf, rs⟩ := r
              dsimp only [vv] at CP hh ⊢
              have HCP := Lib.hid CP
              clear CP ht hh
              have v0 := HVk.out.cell 0
              have v1 := HVk.out.cell 1
              simp only [List.getElem?_toArray, List.getElem?_cons_zero, List.getElem?_cons_succ] at v0 v1
              cases hrk : (rk != 0)
              · go_wp2_with fail
                (with_reducible refine HCP.out.mono ?_); rintro e wF ⟨rfl, hbF⟩
                have HBF := Lib.hid (HBe.out.trans ((Below.chain HBk.out hbF).mono HBe.out.size))
                clear v0 v1 hbF
                go_wp2_with fail
                go_roundg (n1 + n2 - (i + 1))
                case rel => exact ⟨i + 1, by omega, by go_num, HBF.out⟩
                case measure => omega
              · go_wp2_with fail
                (with_reducible refine HCP.out.mono ?_); rintro e wF ⟨rfl, hbF⟩
                have HBF := Lib.hid (HBe.out.trans ((Below.chain HBk.out hbF).mono HBe.out.size))
                clear v0 v1 hbF
                go_wp2_with fail
                go_roundg (n1 + n2 - (i + 1))
                case rel => exact ⟨i + 1, by omega, by go_num, HBF.out⟩
                case measure => omega
      · have ii : ¬ (i : Int) < (n1 : Int) + (n2 : Int) := by omega
        have HBw := Lib.hid (below_a2 wr (.cells #[.bool false, .int .i64 n1] 27) (.cells #[.bool true, .int .i64 n2] 27))
        have HIw := Lib.hid (HIr.out.keep HBw.out)
        have HV1 := Lib.hid ((Vr.new wr 27 #[.bool false, .int .i64 n1]).al (o := .cells #[.bool true, .int .i64 n2] 27))
        have HV2 := Lib.hid (Vr.at' (wr.alloc (.cells #[.bool false, .int .i64 n1] 27)) 27 #[.bool true, .int .i64 n2] (wr.heap.size + 1) (by simp))
        have e1 := props_none gc
        have e2 := props_none2 gc
        have e3 := labels_none gc
        have e4 := labels_none2 gc
        rw [HL1.out] at e1 e3
        rw [HL2.out] at e2 e4
        have E1 := Lib.hid e1
        have E2 := Lib.hid e2
        have E3 := Lib.hid e3
        have E4 := Lib.hid e4
        clear e1 e2 e3 e4
        go_wp2_with fail
        generalize (wr.alloc (.cells #[.bool false, .int .i64 n1] 27)).alloc (.cells #[.bool true, .int .i64 n2] 27) = w0 at *
        clear q0 q1
        have CP := prop7_any HIw.out false n1 nm
        rw [E1.out, look_nil] at CP
        (with_reducible refine CP.mono ?_); clear CP; rintro e w1 ⟨rfl, hb1⟩
        have HI1 := Lib.hid (HIw.out.keep hb1)
        have HB1 := Lib.hid (Below.chain HBw.out hb1)
        have q0 := (HV2.out.keep hb1).cell 0
        have q1 := (HV2.out.keep hb1).cell 1
        have HV3 := Lib.hid (HV1.out.keep hb1)
        have HV4 := Lib.hid (HV2.out.keep hb1)
        simp only [List.getElem?_toArray, List.getElem?_cons_zero, List.getElem?_cons_succ] at q0 q1
        clear hb1 HV1 HV2 HIw HBw
        go_wp2_with fail
        have CP := prop7_any HI1.out true n2 nm
        rw [E2.out, look_nil] at CP
        (with_reducible refine CP.mono ?_); clear CP; rintro e w2 ⟨rfl, hb2⟩
        have HI2 := Lib.hid (HI1.out.keep hb2)
        have HB2 := Lib.hid (Below.chain HB1.out hb2)
        clear q0 q1
        have q0 := (HV3.out.keep hb2).cell 0
        have q1 := (HV3.out.keep hb2).cell 1
        have HV5 := Lib.hid (HV4.out.keep hb2)
        simp only [List.getElem?_toArray, List.getElem?_cons_zero, List.getElem?_cons_succ] at q0 q1
        clear hb2 HV3 HV4 HI1 HB1
        go_wp2_with fail
        have CP := labels7_any HI2.out false n1
        rw [E3.out] at CP
        (with_reducible refine CP.mono ?_); clear CP; rintro e w3 ⟨v3, rfl, ho3, hb3⟩
        obtain ⟨a3, c3, rfl⟩ := ho3.shape
        have HI3 := Lib.hid (HI2.out.keep hb3)
        have HB3 := Lib.hid (Below.chain HB2.out hb3)
        clear q0 q1
        have q0 := (HV5.out.keep hb3).cell 0
        have q1 := (HV5.out.keep hb3).cell 1
        simp only [List.getElem?_toArray, List.getElem?_cons_zero, List.getElem?_cons_succ] at q0 q1
        clear hb3 HV5 HI2 HB2 ho3
        go_wp2_with fail
        have CP := labels7_any HI3.out true n2
        rw [E4.out] at CP
        (with_reducible refine CP.mono ?_); clear CP; rintro e w4 ⟨v4, rfl, ho4, hb4⟩
        obtain ⟨a4, c4, rfl⟩ := ho4.shape
        have HB4 := Lib.hid (HBd.out.trans ((Below.chain HBr.out (Below.chain HB3.out hb4)).mono HBd.out.size))
        clear hb4 ho4 q0 q1
        go_wp2_with fail
        go_ret
        exact ⟨rfl, HB4.out⟩
  · have hr' : (rightG gc != 0) = true := by simpa using hr
    go_wp2_with fail
    go_ret
    exact ⟨rfl, HBd.out⟩
end Go.Proofs.Ytdoefndppoglfaa.GraphProps
