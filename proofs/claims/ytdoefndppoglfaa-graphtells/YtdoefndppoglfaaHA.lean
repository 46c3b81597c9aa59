import Derived.Test.YtdoefndppoglfaaH9
import Derived.Deep.QuietTactic
import Derived.BigQuiet
namespace Go.Proofs.Ytdoefndppoglfaa
open Go Go.ChangeShapes Go.WideShapes Go.ChangeAt Go.RowKit
open Go.Joins
set_option linter.unusedVariables false
set_option maxRecDepth 100000 in
set_option maxHeartbeats 4000000 in
/-- what an element has -/
theorem element_any {g : Gd} {p : Nat} {w : World} (h : Ix w p g) (edge : Bool) (id : Int) :
    Calls Try.prog 45 #[pv p, .agg #[.bool edge, .int .i64 id]] w fun e w' => ∃ s q : Sl, e = .returned (.tuple #[s.v, q.v]) ∧ RwS w' s.v (labelsG g edge id) ∧ RwP w' q.v (propsG g edge id) ∧ Below w.heap.size w w' := by
  obtain ⟨x, m1, m2, ls, hv, ⟨⟨xs, r1, k1⟩, ⟨ys, r2, k2⟩, -⟩, -, -, -, -⟩ := h
  have l1 := r1.hd.1
  have l2 := r2.hd.1
  have n1 := k1.1
  have n2 := k2.1
  obtain ⟨⟨ao, L, cap⟩, ⟨bo, M, cbp⟩⟩ := x
  dsimp only [Sl.v] at l1 l2 hv r1 r2
  have B1 := below_a1 w (.cells #[.bool edge, .int .i64 id] 27)
  obtain ⟨W1, hW1⟩ : ∃ W1, w.alloc (.cells #[.bool edge, .int .i64 id] 27) = W1 := ⟨_, rfl⟩
  have VE := Vr.new w 27 #[.bool edge, .int .i64 id]
  rw [hW1] at B1 VE
  have hV := hv.keep B1
  have c0 := VE.cell 0
  have c1 := VE.cell 1
  have c2 := hV.cell 0
  have c3 := hV.cell 1
  simp only [List.getElem?_toArray, List.getElem?_cons_zero, List.getElem?_cons_succ] at c0 c1 c2 c3
  have T0 : ∀ x : Later W1, x.w.cell? ⟨w.heap.size, 0, none⟩ = some (.bool edge) := fun x => later_cell c0 x
  have T1 : ∀ x : Later W1, x.w.cell? ⟨w.heap.size, 1, none⟩ = some (.int .i64 id) := fun x => later_cell c1 x
  have T2 : ∀ x : Later W1, x.w.cell? ⟨p, 0, none⟩ = some (.slice ao L cap) := fun x => later_cell c2 x
  have T3 : ∀ x : Later W1, x.w.cell? ⟨p, 1, none⟩ = some (.slice bo M cbp) := fun x => later_cell c3 x
  have HB1 := Lib.hid B1
  have HR := Lib.hid (r1.keep B1)
  have HR2 := Lib.hid (r2.keep B1)
  have HK := Lib.hid (k1.keep B1)
  have HK2 := Lib.hid (k2.keep B1)
  have HL := Lib.hid l1
  have HM := Lib.hid l2
  have HN := Lib.hid n1
  have HN2 := Lib.hid n2
  clear r1 r2 k1 k2 l1 l2 n1 n2 hv hV VE B1 c0 c1 c2 c3
  have C1 := fun w' => (isplace_any id M w').mono (fun e w'' ⟨h1, h2⟩ => (⟨h1, h2.symm⟩ : e = _ ∧ w' = w''))
  have C2 := fun w' => (isplace_any id L w').mono (fun e w'' ⟨h1, h2⟩ => (⟨h1, h2.symm⟩ : e = _ ∧ w' = w''))
  cases edge
  · by_cases hid : 0 ≤ id ∧ id < (L : Int)
    · obtain ⟨i, rfl⟩ : ∃ i : Nat, id = (i : Int) := ⟨id.toNat, by omega⟩
      have i0 : ((i : Int) ≥ 0) := by omega
      have i1 : ((i : Int) < (L : Int)) := hid.2
      have hi : i < xs.length := by have := HL.out; omega
      have hi' : i < g.nodes.length := by rw [HN.out]; exact hi
      obtain ⟨b, o, rfl, hc⟩ := RwN.at HR.out i hi
      obtain ⟨q0, q1, q2⟩ := hc i hi
      obtain ⟨z0, z1, z2, z3, z4, z5⟩ := HK.out.2 i hi' hi
      have EL := Lib.hid (show labelsG g false (i : Int) = g.nodes[i].labels by
        unfold labelsG
        rw [if_neg (by simp), if_pos ⟨i0, by rw [HN.out, HL.out]; exact i1⟩, Int.toNat_natCast, getElem!_pos g.nodes i hi'])
      have EP := Lib.hid (show propsG g false (i : Int) = g.nodes[i].props by
        unfold propsG
        rw [if_neg (by simp), if_pos ⟨i0, by rw [HN.out, HL.out]; exact i1⟩, Int.toNat_natCast, getElem!_pos g.nodes i hi'])
      have Z1 := Lib.hid z1
      have Z2 := Lib.hid z2
      clear hc z0 z1 z2 z3 z4 z5
      generalize xs[i] = x at *
      obtain ⟨xn, ⟨xla, xln, xlc⟩, ⟨xpa, xpn, xpc⟩⟩ := x
      dsimp only [Sl.v] at q1 q2 Z1 Z2
      have U1 : ∀ x : Later W1, x.w.cell? ⟨b, o + i * 3 + 1, none⟩ = some (.slice xla xln xlc) := fun x => later_cell q1 x
      have U2 : ∀ x : Later W1, x.w.cell? ⟨b, o + i * 3 + 2, none⟩ = some (.slice xpa xpn xpc) := fun x => later_cell q2 x
      clear q0 q1 q2
      have hp : placeB (i : Int) L = true := by simp [placeB]; omega
      rw [hp] at C2
      clear hp C1
      go_enter Try.func45, Try.ntmps45
      go_wp2_with fail
      clear hW1
      refine wp_region_later (by kernel_rfl) (by kernel_rfl) ?_
      repeat (go_big_quiet_step (first | fail))
      refine wpQuiet_nil ?_
      rintro w' ⟨x, rfl⟩
      rename Later W1 => x1
      have T0' : ∀ y : Later x1.w, y.w.cell? ⟨w.heap.size, 0, none⟩ = some (.bool false) := fun y => later_cell (T0 x1) y
      have T1' : ∀ y : Later x1.w, y.w.cell? ⟨w.heap.size, 1, none⟩ = some (.int .i64 i) := fun y => later_cell (T1 x1) y
      have T2' : ∀ y : Later x1.w, y.w.cell? ⟨p, 0, none⟩ = some (.slice (some ⟨b, o, none⟩) L cap) := fun y => later_cell (T2 x1) y
      have T3' : ∀ y : Later x1.w, y.w.cell? ⟨p, 1, none⟩ = some (.slice bo M cbp) := fun y => later_cell (T3 x1) y
      have U1' : ∀ y : Later x1.w, y.w.cell? ⟨b, o + i * 3 + 1, none⟩ = some (.slice xla xln xlc) := fun y => later_cell (U1 x1) y
      have U2' : ∀ y : Later x1.w, y.w.cell? ⟨b, o + i * 3 + 2, none⟩ = some (.slice xpa xpn xpc) := fun y => later_cell (U2 x1) y
      have BX := Lib.hid x1.kept
      clear T0 T1 T2 T3 U1 U2
      go_wp2_with fail
      refine wp_region_later (by kernel_rfl) (by kernel_rfl) ?_
      repeat (go_big_quiet_step (first | with_reducible exact later_same (C2 _)))
      refine wpQuiet_nil ?_
      rintro w' ⟨x, rfl⟩
      rename Later x1.w => x2
      have T0'' : ∀ y : Later x2.w, y.w.cell? ⟨w.heap.size, 0, none⟩ = some (.bool false) := fun y => later_cell (T0' x2) y
      have T1'' : ∀ y : Later x2.w, y.w.cell? ⟨w.heap.size, 1, none⟩ = some (.int .i64 i) := fun y => later_cell (T1' x2) y
      have T2'' : ∀ y : Later x2.w, y.w.cell? ⟨p, 0, none⟩ = some (.slice (some ⟨b, o, none⟩) L cap) := fun y => later_cell (T2' x2) y
      have T3'' : ∀ y : Later x2.w, y.w.cell? ⟨p, 1, none⟩ = some (.slice bo M cbp) := fun y => later_cell (T3' x2) y
      have U1'' : ∀ y : Later x2.w, y.w.cell? ⟨b, o + i * 3 + 1, none⟩ = some (.slice xla xln xlc) := fun y => later_cell (U1' x2) y
      have U2'' : ∀ y : Later x2.w, y.w.cell? ⟨b, o + i * 3 + 2, none⟩ = some (.slice xpa xpn xpc) := fun y => later_cell (U2' x2) y
      have BX2 := Lib.hid (Below.chain BX.out x2.kept)
      clear T0' T1' T2' T3' U1' U2' C2
      go_wp2_with fail
      refine wp_region_later (by kernel_rfl) (by kernel_rfl) ?_
      repeat (go_big_quiet_step (first | fail))
      refine wpQuiet_nil ?_
      rintro w' ⟨x, rfl⟩
      go_wp2_with fail
      go_ret2
      have hk := Below.chain BX2.out x.kept
      exact ⟨⟨xla, xln, xlc⟩, ⟨xpa, xpn, xpc⟩, rfl, by rw [EL.out]; exact Z1.out.keep hk, by rw [EP.out]; exact Z2.out.keep hk, Below.chain HB1.out hk⟩
    · have EL := Lib.hid (show labelsG g false id = [] by
        unfold labelsG
        rw [if_neg (by simp), if_neg (by rw [HN.out, HL.out]; exact hid)])
      have EP := Lib.hid (show propsG g false id = [] by
        unfold propsG
        rw [if_neg (by simp), if_neg (by rw [HN.out, HL.out]; exact hid)])
      have hp : placeB id L = false := by
        unfold placeB
        rw [Bool.eq_false_iff]
        intro h
        rw [Bool.and_eq_true, decide_eq_true_eq, decide_eq_true_eq] at h
        exact hid h
      rw [hp] at C2
      clear hp C1
      go_enter Try.func45, Try.ntmps45
      go_wp2_with fail
      clear hW1
      refine wp_region_later (by kernel_rfl) (by kernel_rfl) ?_
      repeat (go_big_quiet_step (first | fail))
      refine wpQuiet_nil ?_
      rintro w' ⟨x, rfl⟩
      rename Later W1 => x1
      have T0' : ∀ y : Later x1.w, y.w.cell? ⟨w.heap.size, 0, none⟩ = some (.bool false) := fun y => later_cell (T0 x1) y
      have T1' : ∀ y : Later x1.w, y.w.cell? ⟨w.heap.size, 1, none⟩ = some (.int .i64 id) := fun y => later_cell (T1 x1) y
      have T2' : ∀ y : Later x1.w, y.w.cell? ⟨p, 0, none⟩ = some (.slice ao L cap) := fun y => later_cell (T2 x1) y
      have T3' : ∀ y : Later x1.w, y.w.cell? ⟨p, 1, none⟩ = some (.slice bo M cbp) := fun y => later_cell (T3 x1) y
      have BX := Lib.hid x1.kept
      clear T0 T1 T2 T3
      go_wp2_with fail
      refine wp_region_later (by kernel_rfl) (by kernel_rfl) ?_
      repeat (go_big_quiet_step (first | with_reducible exact later_same (C2 _)))
      refine wpQuiet_nil ?_
      rintro w' ⟨x, rfl⟩
      go_wp2_with fail
      go_ret2
      have hk := Below.chain BX.out x.kept
      exact ⟨⟨none, 0, 0⟩, ⟨none, 0, 0⟩, rfl, by rw [EL.out]; exact Rw.nil _, by rw [EP.out]; exact Rw.nil _, Below.chain HB1.out hk⟩
  · by_cases hid : 0 ≤ id ∧ id < (M : Int)
    · obtain ⟨i, rfl⟩ : ∃ i : Nat, id = (i : Int) := ⟨id.toNat, by omega⟩
      have i0 : ((i : Int) ≥ 0) := by omega
      have i1 : ((i : Int) < (M : Int)) := hid.2
      have hi : i < ys.length := by have := HM.out; omega
      have hi' : i < g.edges.length := by rw [HN2.out]; exact hi
      obtain ⟨b, o, rfl, hc⟩ := RwD.at HR2.out i hi
      obtain ⟨q0, q1, q2, q3, q4, q5⟩ := hc i hi
      obtain ⟨z0, z1, z2, z3, zf, zt, z4, z5, z6, z7, z8⟩ := HK2.out.2 i hi' hi
      have EL := Lib.hid (show labelsG g true (i : Int) = g.edges[i].labels by
        unfold labelsG
        rw [if_pos rfl, if_pos ⟨i0, by rw [HN2.out, HM.out]; exact i1⟩, Int.toNat_natCast, getElem!_pos g.edges i hi'])
      have EP := Lib.hid (show propsG g true (i : Int) = g.edges[i].props by
        unfold propsG
        rw [if_pos rfl, if_pos ⟨i0, by rw [HN2.out, HM.out]; exact i1⟩, Int.toNat_natCast, getElem!_pos g.edges i hi'])
      have Z1 := Lib.hid z4
      have Z2 := Lib.hid z5
      clear hc z0 z1 z2 z3 zf zt z4 z5 z6 z7 z8
      generalize ys[i] = x at *
      obtain ⟨xn, xf, xt, xd, ⟨xla, xln, xlc⟩, ⟨xpa, xpn, xpc⟩⟩ := x
      dsimp only [Sl.v] at q4 q5 Z1 Z2
      have U1 : ∀ x : Later W1, x.w.cell? ⟨b, o + i * 6 + 4, none⟩ = some (.slice xla xln xlc) := fun x => later_cell q4 x
      have U2 : ∀ x : Later W1, x.w.cell? ⟨b, o + i * 6 + 5, none⟩ = some (.slice xpa xpn xpc) := fun x => later_cell q5 x
      clear q0 q1 q2 q3 q4 q5
      have hp : placeB (i : Int) M = true := by simp [placeB]; omega
      rw [hp] at C1
      clear hp C2
      go_enter Try.func45, Try.ntmps45
      go_wp2_with fail
      clear hW1
      refine wp_region_later (by kernel_rfl) (by kernel_rfl) ?_
      repeat (go_big_quiet_step (first | with_reducible exact later_same (C1 _)))
      refine wpQuiet_nil ?_
      rintro w' ⟨x, rfl⟩
      rename Later W1 => x1
      have T0' : ∀ y : Later x1.w, y.w.cell? ⟨w.heap.size, 0, none⟩ = some (.bool true) := fun y => later_cell (T0 x1) y
      have T1' : ∀ y : Later x1.w, y.w.cell? ⟨w.heap.size, 1, none⟩ = some (.int .i64 i) := fun y => later_cell (T1 x1) y
      have T3' : ∀ y : Later x1.w, y.w.cell? ⟨p, 1, none⟩ = some (.slice (some ⟨b, o, none⟩) M cbp) := fun y => later_cell (T3 x1) y
      have U1' : ∀ y : Later x1.w, y.w.cell? ⟨b, o + i * 6 + 4, none⟩ = some (.slice xla xln xlc) := fun y => later_cell (U1 x1) y
      have U2' : ∀ y : Later x1.w, y.w.cell? ⟨b, o + i * 6 + 5, none⟩ = some (.slice xpa xpn xpc) := fun y => later_cell (U2 x1) y
      have BX := Lib.hid x1.kept
      clear T0 T1 T2 T3 U1 U2 C1
      go_wp2_with fail
      refine wp_region_later (by kernel_rfl) (by kernel_rfl) ?_
      repeat (go_big_quiet_step (first | fail))
      refine wpQuiet_nil ?_
      rintro w' ⟨x, rfl⟩
      go_wp2_with fail
      go_ret2
      have hk := Below.chain BX.out x.kept
      exact ⟨⟨xla, xln, xlc⟩, ⟨xpa, xpn, xpc⟩, rfl, by rw [EL.out]; exact Z1.out.keep hk, by rw [EP.out]; exact Z2.out.keep hk, Below.chain HB1.out hk⟩
    · have EL := Lib.hid (show labelsG g true id = [] by
        unfold labelsG
        rw [if_pos rfl, if_neg (by rw [HN2.out, HM.out]; exact hid)])
      have EP := Lib.hid (show propsG g true id = [] by
        unfold propsG
        rw [if_pos rfl, if_neg (by rw [HN2.out, HM.out]; exact hid)])
      have hp : placeB id M = false := by
        unfold placeB
        rw [Bool.eq_false_iff]
        intro h
        rw [Bool.and_eq_true, decide_eq_true_eq, decide_eq_true_eq] at h
        exact hid h
      rw [hp] at C1
      clear hp C2
      go_enter Try.func45, Try.ntmps45
      go_wp2_with fail
      clear hW1
      refine wp_region_later (by kernel_rfl) (by kernel_rfl) ?_
      repeat (go_big_quiet_step (first | with_reducible exact later_same (C1 _)))
      refine wpQuiet_nil ?_
      rintro w' ⟨x, rfl⟩
      rename Later W1 => x1
      have T0' : ∀ y : Later x1.w, y.w.cell? ⟨w.heap.size, 0, none⟩ = some (.bool true) := fun y => later_cell (T0 x1) y
      have T1' : ∀ y : Later x1.w, y.w.cell? ⟨w.heap.size, 1, none⟩ = some (.int .i64 id) := fun y => later_cell (T1 x1) y
      have T2' : ∀ y : Later x1.w, y.w.cell? ⟨p, 0, none⟩ = some (.slice ao L cap) := fun y => later_cell (T2 x1) y
      have T3' : ∀ y : Later x1.w, y.w.cell? ⟨p, 1, none⟩ = some (.slice bo M cbp) := fun y => later_cell (T3 x1) y
      have BX := Lib.hid x1.kept
      clear T0 T1 T2 T3 C1
      go_wp2_with fail
      refine wp_region_later (by kernel_rfl) (by kernel_rfl) ?_
      repeat (go_big_quiet_step (first | fail))
      refine wpQuiet_nil ?_
      rintro w' ⟨x, rfl⟩
      go_wp2_with fail
      go_ret2
      have hk := Below.chain BX.out x.kept
      exact ⟨⟨none, 0, 0⟩, ⟨none, 0, 0⟩, rfl, by rw [EL.out]; exact Rw.nil _, by rw [EP.out]; exact Rw.nil _, Below.chain HB1.out hk⟩
/-- a variable that is a graph may be written: no other graph lies in it -/
theorem rw_other {α : Type} {sz : Nat} {E : Enc α sz} (h0 : 0 < sz) (hE : ∀ x, isSl ((E.enc x)[0]?.getD undef) = false) {w : World} {v : Value} {l : List α} (h : Rw E w v l) {b : Nat} {a0 a1 : Option Addr} {n0 n1 c0 c1 : Nat} {e : TypeId} (hv : Vr w b e #[.slice a0 n0 c0, .slice a1 n1 c1]) (j : Nat) (y : Value) : Rw E (w.setCell ⟨b, j, none⟩ y) v l := by
  obtain ⟨ao, cap, h1, h2, h3, h4, h5⟩ := h
  refine ⟨ao, cap, h1, h2, h3, h4, fun i hi => ?_⟩
  obtain ⟨c, o, ha, hc⟩ := h5 i hi
  refine ⟨c, o, ha, fun k hk => ?_⟩
  have hcb : b ≠ c := by
    intro e
    subst e
    have := hc 0 h0
    rw [hv.cell] at this
    have hs := hE l[i]
    rw [← this] at hs
    rcases Nat.lt_or_ge (o + i * sz + 0) 2 with h | h
    · have : o + i * sz + 0 = 0 ∨ o + i * sz + 0 = 1 := by omega
      rcases this with e | e
      · rw [e] at hs; cases hs
      · rw [e] at hs; cases hs
    · have hl : 0 < (E.enc l[i]).length := by rw [E.len]; exact h0
      have h2 : (#[Value.slice a0 n0 c0, Value.slice a1 n1 c1] : Array Value)[o + i * sz + 0]? = none := Array.getElem?_eq_none (by simpa using h)
      rw [h2, List.getElem?_eq_getElem hl] at this
      cases this
  rw [World.cell?_setCell_other _ _ _ _ (by intro e; cases e; exact hcb rfl)]
  exact hc k hk
theorem gz_other {w : World} {g : Gd} {x : Gx} (h : Gz w g x) {b : Nat} {a0 a1 : Option Addr} {n0 n1 c0 c1 : Nat} {e : TypeId} (hv : Vr w b e #[.slice a0 n0 c0, .slice a1 n1 c1]) (y0 y1 : Sl) : Gz ((w.setCell ⟨b, 0, none⟩ y0.v).setCell ⟨b, 1, none⟩ y1.v) g x := by
  obtain ⟨⟨xs, r1, k1⟩, ⟨ys, r2, k2⟩, h3⟩ := h
  have q0 := hv.cell 0
  have q1 := hv.cell 1
  simp only [List.getElem?_toArray, List.getElem?_cons_zero, List.getElem?_cons_succ] at q0 q1
  have ks := KS.set q0 y0.v
  have q1' : (w.setCell ⟨b, 0, none⟩ y0.v).cell? ⟨b, 1, none⟩ = some (.slice a1 n1 c1) := by
    rw [World.cell?_setCell_other _ _ _ _ (by simp)]; exact q1
  have ks2 := ks.trans (KS.set q1' y1.v)
  have hv' : Vr (w.setCell ⟨b, 0, none⟩ y0.v) b e #[y0.v, .slice a1 n1 c1] := by
    have hb : w.heap[b]? = some (.cells #[.slice a0 n0 c0, .slice a1 n1 c1] e (0, 0)) := hv
    have hlt : b < w.heap.size := hv.lt
    show (w.setCell ⟨b, 0, none⟩ y0.v).heap[b]? = _
    simp only [World.setCell, Array.getElem?_modify, if_true, hb, Option.map_some]
    simp
  exact ⟨⟨xs, rw_other (by decide) (fun _ => rfl) (rw_other (by decide) (fun _ => rfl) r1 hv 0 _) hv' 1 _, k1.turn ks2⟩, ⟨ys, rw_other (by decide) (fun _ => rfl) (rw_other (by decide) (fun _ => rfl) r2 hv 0 _) hv' 1 _, k2.turn ks2⟩, h3⟩
theorem labels_lim {g : Gd} {p : Nat} {w : World} (h : Ix w p g) (edge : Bool) (id : Int) : Lim (labelsG g edge id).length 16 := by
  obtain ⟨x, m1, m2, ls, hv, ⟨⟨xs, r1, k1⟩, ⟨ys, r2, k2⟩, -⟩, -, -, -, -⟩ := h
  unfold labelsG
  split
  · split
    · rename_i hid
      have hi : id.toNat < g.edges.length := by omega
      rw [getElem!_pos g.edges id.toNat hi]
      exact (k2.2 id.toNat hi (by rw [← k2.1]; exact hi)).2.2.2.2.2.2.2.2.2.1
    · exact Lim.of (by simp)
  · split
    · rename_i hid
      have hi : id.toNat < g.nodes.length := by omega
      rw [getElem!_pos g.nodes id.toNat hi]
      exact (k1.2 id.toNat hi (by rw [← k1.1]; exact hi)).2.2.2.2.1
    · exact Lim.of (by simp)
set_option maxRecDepth 100000 in
set_option maxHeartbeats 4000000 in
/-- Prop: a property of an element -/
theorem prop7_any {g : Gd} {p : Nat} {w : World} (h : Ix w p g) (edge : Bool) (id : Int) (nm : ByteArray) :
    Calls Try.prog 21 #[pv p, .agg #[.bool edge, .int .i64 id], .string nm] w fun e w' => e = .returned (vv (lookV (propsG g edge id) nm)) ∧ Below w.heap.size w w' := by
  have hsf := run_store_float
  have B1 := below_a1 w (.cells #[.bool edge, .int .i64 id] 27)
  have B2 := Lib.hid (Below.chain B1 (below_a1 _ (.cells #[.int .i64 0, .int .i64 0, .float .f64 0, .string ⟨#[]⟩] 52)))
  have C := Lib.hid (element_any (h.keep B2.out) edge id)
  have VR := Lib.hid (Vr.new (w.alloc (.cells #[.bool edge, .int .i64 id] 27)) 52 #[.int .i64 0, .int .i64 0, .float .f64 0, .string ⟨#[]⟩])
  clear B1 h
  generalize propsG g edge id = l at *
  go_enter Try.func21, Try.ntmps21
  go_wp2_with fail
  (with_reducible refine C.out.mono ?_); rintro e w2 ⟨s, q, rfl, h1, h2, hb2⟩
  have hv2 := VR.out.keep hb2
  simp only [World.size_alloc] at hv2
  have VR2 := Lib.hid hv2
  clear hv2
  have HB := Lib.hid (Below.chain B2.out hb2)
  have HR := Lib.hid h2
  have HL := Lib.hid h2.hd.1
  have hLm := h2.hd.2
  obtain ⟨ao, L, cap⟩ := q
  obtain ⟨sa, sn, sc⟩ := s
  dsimp only [Sl.v] at HR HL hLm ⊢
  clear hb2 h1 h2 VR
  go_wp2_with fail
  go_loopg [10, 19] L (fun gg s10 s19 wr => ∃ i : Nat, gg + i = L ∧ s19 = .int .i64 i ∧ (∀ j (hj : j < i) (hj' : j < l.length), ¬ byt l[j].1 = byt nm) ∧ Below w2.heap.size w2 wr)
  case atStart => exact ⟨0, rfl, rfl, fun j hj => absurd hj (Nat.not_lt_zero j), Below.refl _ _⟩
  case round =>
    obtain ⟨i, hg, rfl, hy, hb⟩ := hrel
    by_cases hlt : i < L
    · have ii : (i : Int) < (L : Int) := by omega
      have hi : i < l.length := by rw [HL.out]; exact hlt
      obtain ⟨b, o, rfl, q0, q1, q2, q3, q4⟩ := RwP.at (HR.out.keep hb) i hi
      have HT := Lib.hid (show l[i].1.toList = nm.toList → lookV l nm = l[i].2 by
        intro e
        rw [tl_byt, tl_byt] at e
        exact lookV_at hi e (fun j hj => hy j hj (by omega)))
      have HF := Lib.hid (show ¬ l[i].1.toList = nm.toList → ∀ j (hj : j < i + 1) (hj' : j < l.length), ¬ byt l[j].1 = byt nm by
        intro e j hj hj'
        rw [tl_byt, tl_byt] at e
        by_cases hji : j = i
        · subst hji
          exact e
        · exact hy j (by omega) hj')
      clear hy
      generalize l[i] = z at *
      obtain ⟨zn, ⟨zk, zm, zf, zs⟩⟩ := z
      dsimp only at q0 q1 q2 q3 q4 HT HF
      have HVb := Lib.hid (VR2.out.keep hb)
      have HYq := Lib.hid ((VR2.out.keep hb).keep (below_a1 wr (.cells #[.string zn, .int .i64 zk, .int .i64 zm, .float .f64 zf, .string zs] 69)))
      have HB2 := Lib.hid (hb.alloc hb.size (.cells #[.string zn, .int .i64 zk, .int .i64 zm, .float .f64 zf, .string zs] 69))
      have hlt2 : w.heap.size + 1 < wr.heap.size := HVb.out.lt
      cases hz : zn.toList == nm.toList
      · have HF2 := Lib.hid (HF.out (by simpa using hz))
        clear HT HF
        go_wp2_with fail
        go_roundg (L - (i + 1))
        case rel => exact ⟨i + 1, by omega, by go_num, HF2.out, HB2.out⟩
        case measure => omega
      · have HT2 := Lib.hid (HT.out (by simpa using hz))
        clear HT HF
        obtain ⟨y0, y1, y2, y3⟩ := HVb.out.lies
        have t0 := HVb.out.thaw 0
        have t1 := HVb.out.thaw 1
        have t2 := HVb.out.thaw 2
        have t3 := HVb.out.thaw 3
        go_wp2_with fail
        refine ret_v rfl rfl rfl ((Lies.set HVb.out.lies _ _ _ _).alloc _) ?_
        exact ⟨by rw [HT2.out], (below_set4 (HB.out.trans (hb.mono HB.out.size)) (by omega) _ _ _ _).alloc (by have := hb.size; have := HB.out.size; simp; omega) _⟩
    · obtain rfl : L = i := by omega
      have ii : ¬ ((L : Int) < (L : Int)) := by omega
      have HX := Lib.hid (show lookV l nm = ⟨0, 0, 0, ⟨#[]⟩⟩ from lookV_no (fun j hj => hy j (by rw [← HL.out]; exact hj) hj))
      have HY := Lib.hid (VR2.out.keep hb)
      obtain ⟨y0, y1, y2, y3⟩ := HY.out.lies
      have t0 := HY.out.thaw 0
      have t1 := HY.out.thaw 1
      have t2 := HY.out.thaw 2
      have t3 := HY.out.thaw 3
      clear hy
      go_wp2_with fail
      refine ret_v rfl rfl rfl (Lies.set HY.out.lies _ _ _ _) ?_
      exact ⟨by rw [HX.out], below_set4 (HB.out.trans (hb.mono HB.out.size)) (by omega) _ _ _ _⟩
/-- Labels of an element -/
theorem labels7_any {g : Gd} {p : Nat} {w : World} (h : Ix w p g) (edge : Bool) (id : Int) :
    Calls Try.prog 24 #[pv p, .agg #[.bool edge, .int .i64 id]] w fun e w' => ∃ v, e = .returned v ∧ OwS w' w.heap.size v (labelsG g edge id) ∧ Below w.heap.size w w' := by
  have hlim := labels_lim h edge id
  have B1 := Lib.hid (below_a1 w (.cells #[.bool edge, .int .i64 id] 27))
  have C := Lib.hid (element_any (h.keep B1.out) edge id)
  have HLim := Lib.hid hlim
  clear h hlim
  generalize labelsG g edge id = l at *
  go_enter Try.func24, Try.ntmps24
  go_wp2_with fail
  (with_reducible refine C.out.mono ?_); rintro e w2 ⟨s, q, rfl, h1, h2, hb2⟩
  have C2 := Lib.hid (cloneS_any l _ w2 h1 HLim.out.le)
  have HB := Lib.hid (Below.chain B1.out hb2)
  obtain ⟨sa, sn, sc⟩ := s
  obtain ⟨qa, qn, qc⟩ := q
  dsimp only [Sl.v] at C2 ⊢
  clear h1 h2 hb2 C
  go_wp2_with fail
  (with_reducible refine C2.out.mono ?_); rintro e w3 ⟨v3, rfl, h3, hb3⟩
  obtain ⟨va, vc, rfl⟩ := h3.shape
  go_wp2_with fail
  go_ret
  exact ⟨_, rfl, h3.base HB.out.size, Below.chain HB.out hb3⟩
/-- Graph: the graph -/
theorem graph7_any {g : Gd} {p : Nat} {w : World} (h : Ix w p g) (hn : g.nodes.length ≤ 1000) (hm : g.edges.length ≤ 1000) :
    Calls Try.prog 27 #[pv p] w fun e w' => ∃ x, e = .returned (gv x) ∧ Gz w' g x ∧ Below w.heap.size w w' := by
  have B1 := Lib.hid (below_a1 w (.cells #[.slice none 0 0, .slice none 0 0] 25))
  have VR := Lib.hid (Vr.new w 25 #[.slice none 0 0, .slice none 0 0])
  obtain ⟨x, m1, m2, ls, hv, hz, -, -, -, -⟩ := h
  have C := Lib.hid (clone_any (hz.keep B1.out) hn hm)
  have hV := hv.keep B1.out
  have c2 := hV.cell 0
  have c3 := hV.cell 1
  obtain ⟨⟨ao, L, cap⟩, ⟨bo, M, cbp⟩⟩ := x
  simp only [List.getElem?_toArray, List.getElem?_cons_zero, List.getElem?_cons_succ, Sl.v] at c2 c3
  dsimp only [gv, Sl.v] at C
  clear hz hv hV hn hm
  go_enter Try.func27, Try.ntmps27
  go_wp2_with fail
  (with_reducible refine C.out.mono ?_); rintro e w2 ⟨x2, rfl, hz2, hb2⟩
  have HZ := Lib.hid hz2
  have HB2 := Lib.hid hb2
  have hR := VR.out.keep hb2
  have r0 := hR.cell 0
  have r1 := hR.cell 1
  simp only [List.getElem?_toArray, List.getElem?_cons_zero, List.getElem?_cons_succ] at r0 r1
  have t0 := hR.thaw 0
  have t1 := hR.thaw 1
  obtain ⟨⟨ao2, L2, cap2⟩, ⟨bo2, M2, cbp2⟩⟩ := x2
  dsimp only [gv, Sl.v] at HZ ⊢
  have HZs := Lib.hid (fun y0 y1 => gz_other HZ.out hR y0 y1)
  clear hz2 hb2 hR c2 c3
  go_wp2_with fail
  have k1 := KS.set r0 (.slice ao2 L2 cap2)
  have r1' : (w2.setCell ⟨w.heap.size, 0, none⟩ (.slice ao2 L2 cap2)).cell? ⟨w.heap.size, 1, none⟩ = some (.slice none 0 0) := by
    rw [World.cell?_setCell_other _ _ _ _ (by simp)]; exact r1
  have r0' : (w2.setCell ⟨w.heap.size, 0, none⟩ (.slice ao2 L2 cap2)).cell? ⟨w.heap.size, 0, none⟩ = some (.slice ao2 L2 cap2) := World.cell?_setCell_same' _ _ _ (by rw [r0]; rfl)
  have k2 := k1.trans (KS.set r1' (.slice bo2 M2 cbp2))
  refine ret_g7 (v0 := .slice ao2 L2 cap2) (v1 := .slice bo2 M2 cbp2) rfl rfl rfl (by rw [World.cell?_setCell_other _ _ _ _ (by simp)]; exact r0') (World.cell?_setCell_same' _ _ _ (by rw [r1']; rfl)) ?_
  refine ⟨⟨⟨ao2, L2, cap2⟩, ⟨bo2, M2, cbp2⟩⟩, rfl, HZs.out ⟨ao2, L2, cap2⟩ ⟨bo2, M2, cbp2⟩, ?_⟩
  exact ((B1.out.trans (HB2.out.mono B1.out.size)).setCell (p := ⟨w.heap.size, 0, none⟩) (Nat.le_refl _) _).setCell (p := ⟨w.heap.size, 1, none⟩) (Nat.le_refl _) _
end Go.Proofs.Ytdoefndppoglfaa
