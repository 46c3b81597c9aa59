import Derived.Test.YtfhnjilflffdfaaEDf
import Derived.Deep.RegionHeld3
import Derived.Deep.RegionWith
namespace Go.Proofs.Ytfhnjilflffdfaa
open Go Go.RowKit
set_option linter.unusedVariables false
theorem below_a3 (w : World) (o p q : Obj) : Below w.heap.size w (((w.alloc o).alloc p).alloc q) := (below_a2 w o p).alloc (by simp; omega) q
theorem laid3 (w : World) (a b : Vl) : Lies (((w.alloc (.cells #[.int .i64 a.k, .int .i64 a.n, .float .f64 a.f, .string a.s] 24)).alloc (.cells #[.int .i64 b.k, .int .i64 b.n, .float .f64 b.f, .string b.s] 24)).alloc (.cells #[.int .i64 0, .int .i64 0, .float .f64 0, .string ⟨#[]⟩] 24)) w.heap.size (.int .i64 a.k) (.int .i64 a.n) (.float .f64 a.f) (.string a.s) ∧ Lies (((w.alloc (.cells #[.int .i64 a.k, .int .i64 a.n, .float .f64 a.f, .string a.s] 24)).alloc (.cells #[.int .i64 b.k, .int .i64 b.n, .float .f64 b.f, .string b.s] 24)).alloc (.cells #[.int .i64 0, .int .i64 0, .float .f64 0, .string ⟨#[]⟩] 24)) (w.heap.size + 1) (.int .i64 b.k) (.int .i64 b.n) (.float .f64 b.f) (.string b.s) ∧ Vr (((w.alloc (.cells #[.int .i64 a.k, .int .i64 a.n, .float .f64 a.f, .string a.s] 24)).alloc (.cells #[.int .i64 b.k, .int .i64 b.n, .float .f64 b.f, .string b.s] 24)).alloc (.cells #[.int .i64 0, .int .i64 0, .float .f64 0, .string ⟨#[]⟩] 24)) (w.heap.size + 2) 24 #[.int .i64 0, .int .i64 0, .float .f64 0, .string ⟨#[]⟩] := by
  have e1 : (w.alloc (.cells #[.int .i64 a.k, .int .i64 a.n, .float .f64 a.f, .string a.s] 24)).heap.size = w.heap.size + 1 := by simp
  have e2 : ((w.alloc (.cells #[.int .i64 a.k, .int .i64 a.n, .float .f64 a.f, .string a.s] 24)).alloc (.cells #[.int .i64 b.k, .int .i64 b.n, .float .f64 b.f, .string b.s] 24)).heap.size = w.heap.size + 2 := by simp
  refine ⟨((lies_new w _ _ _ _ _).alloc _).alloc _, ?_, ?_⟩
  · have h := (lies_new (w.alloc (.cells #[.int .i64 a.k, .int .i64 a.n, .float .f64 a.f, .string a.s] 24)) (.int .i64 b.k) (.int .i64 b.n) (.float .f64 b.f) (.string b.s) 24).alloc (.cells #[.int .i64 0, .int .i64 0, .float .f64 0, .string ⟨#[]⟩] 24)
    rw [e1] at h; exact h
  · have h := Vr.new ((w.alloc (.cells #[.int .i64 a.k, .int .i64 a.n, .float .f64 a.f, .string a.s] 24)).alloc (.cells #[.int .i64 b.k, .int .i64 b.n, .float .f64 b.f, .string b.s] 24)) 24 #[.int .i64 0, .int .i64 0, .float .f64 0, .string ⟨#[]⟩]
    rw [e2] at h; exact h
theorem kp8 {W0 W : World} {a b : Vl} {p q r : Nat} {cs : Array Value} (h : Lies W0 p (.int .i64 a.k) (.int .i64 a.n) (.float .f64 a.f) (.string a.s) ∧ Lies W0 q (.int .i64 b.k) (.int .i64 b.n) (.float .f64 b.f) (.string b.s) ∧ Vr W0 r 24 cs) (hb : Below W0.heap.size W0 W) :
    (W.cell? ⟨p, 0, none⟩ = some (.int .i64 a.k) ∧ W.cell? ⟨p, 1, none⟩ = some (.int .i64 a.n) ∧ W.cell? ⟨p, 2, none⟩ = some (.float .f64 a.f) ∧ W.cell? ⟨p, 3, none⟩ = some (.string a.s)) ∧ W.cell? ⟨q, 0, none⟩ = some (.int .i64 b.k) ∧ W.cell? ⟨q, 1, none⟩ = some (.int .i64 b.n) ∧ W.cell? ⟨q, 2, none⟩ = some (.float .f64 b.f) ∧ W.cell? ⟨q, 3, none⟩ = some (.string b.s) :=
  ⟨h.1.below hb, h.2.1.below hb⟩
theorem kp8s {W : World} {x0 x1 x2 x3 z0 z1 z2 z3 : Value} {p q r : Nat} (h : (W.cell? ⟨p, 0, none⟩ = some x0 ∧ W.cell? ⟨p, 1, none⟩ = some x1 ∧ W.cell? ⟨p, 2, none⟩ = some x2 ∧ W.cell? ⟨p, 3, none⟩ = some x3) ∧ W.cell? ⟨q, 0, none⟩ = some z0 ∧ W.cell? ⟨q, 1, none⟩ = some z1 ∧ W.cell? ⟨q, 2, none⟩ = some z2 ∧ W.cell? ⟨q, 3, none⟩ = some z3) (hp : p ≠ r) (hq : q ≠ r) {v0 v1 v2 v3 : Value} {W2 : World} (e : W2 = (((W.setCell ⟨r, 0, none⟩ v0).setCell ⟨r, 1, none⟩ v1).setCell ⟨r, 2, none⟩ v2).setCell ⟨r, 3, none⟩ v3) :
    (W2.cell? ⟨p, 0, none⟩ = some x0 ∧ W2.cell? ⟨p, 1, none⟩ = some x1 ∧ W2.cell? ⟨p, 2, none⟩ = some x2 ∧ W2.cell? ⟨p, 3, none⟩ = some x3) ∧ W2.cell? ⟨q, 0, none⟩ = some z0 ∧ W2.cell? ⟨q, 1, none⟩ = some z1 ∧ W2.cell? ⟨q, 2, none⟩ = some z2 ∧ W2.cell? ⟨q, 3, none⟩ = some z3 := by
  subst e
  have g := grown_trans (grown_trans (grown_trans (grown_set W r 0 v0) (grown_set _ r 1 v1)) (grown_set _ r 2 v2)) (grown_set _ r 3 v3)
  have hp' : some p ≠ some r := by simpa using hp
  have hq' : some q ≠ some r := by simpa using hq
  exact ⟨⟨g.cell h.1.1 hp', g.cell h.1.2.1 hp', g.cell h.1.2.2.1 hp', g.cell h.1.2.2.2 hp'⟩, g.cell h.2.1 hq', g.cell h.2.2.1 hq', g.cell h.2.2.2.1 hq', g.cell h.2.2.2.2 hq'⟩
theorem Vr.four {w : World} {b : Nat} {e : TypeId} {v0 v1 v2 v3 : Value} (h : Vr w b e #[v0, v1, v2, v3]) : (w.cell? ⟨b, 0, none⟩ = some v0 ∧ w.cell? ⟨b, 1, none⟩ = some v1 ∧ w.cell? ⟨b, 2, none⟩ = some v2 ∧ w.cell? ⟨b, 3, none⟩ = some v3) ∧ w.frozen? ⟨b, 0, none⟩ = false ∧ w.frozen? ⟨b, 1, none⟩ = false ∧ w.frozen? ⟨b, 2, none⟩ = false ∧ w.frozen? ⟨b, 3, none⟩ = false :=
  ⟨⟨h.cell 0, h.cell 1, h.cell 2, h.cell 3⟩, h.frozen 0, h.frozen 1, h.frozen 2, h.frozen 3⟩
set_option maxHeartbeats 1000000 in
theorem two_and (R : Nat) (s : ByteArray) (hs : (s.toList == [97, 110, 100]) = true) (a b : Vl) (ha : a.ofE = 0) (hb : b.ofE = 0) (w : World) : Calls Try.prog 37 #[.pointer (some ⟨R, 0, none⟩), .string s, avl a, avl b] w fun e w' => e = .returned (avl (tv (joinI 0 [a.ofI, b.ofI]))) ∧ Below w.heap.size w w' := by
  have hsf := run_store_float
  have L := Lib.hid (laid3 w a b)
  have c0 := below_a3 w (.cells #[.int .i64 a.k, .int .i64 a.n, .float .f64 a.f, .string a.s] 24) (.cells #[.int .i64 b.k, .int .i64 b.n, .float .f64 b.f, .string b.s] 24) (.cells #[.int .i64 0, .int .i64 0, .float .f64 0, .string ⟨#[]⟩] 24)
  generalize hW : ((w.alloc (.cells #[.int .i64 a.k, .int .i64 a.n, .float .f64 a.f, .string a.s] 24)).alloc (.cells #[.int .i64 b.k, .int .i64 b.n, .float .f64 b.f, .string b.s] 24)).alloc (.cells #[.int .i64 0, .int .i64 0, .float .f64 0, .string ⟨#[]⟩] 24) = W0 at *
  obtain ⟨⟨p0, p1, p2, p3⟩, ⟨q0, q1, q2, q3⟩, -⟩ := L.out
  have C := Lib.hid (truth_ok a ha)
  have D := Lib.hid (truth_ok b hb)
  clear ha hb
  generalize a.ofI = I at *
  generalize b.ofI = J at *
  have G := Lib.hid (fun (x : World) => and_any [I, J] _ _ _ (pair_ts x I J))
  generalize joinI 0 [I, J] = U at *
  have V := Lib.hid (value_any U)
  simp only [tv]
  generalize vK U = K1 at *
  generalize vN U = N1 at *
  have r0 : Below W0.heap.size W0 W0.drew := (Below.refl _ _).drew
  go_enter Try.func37, Try.ntmps37
  go_wp2_with fail
  try rw [hW]
  clear hW
  go_region_held3 (fun W => (W.cell? ⟨w.heap.size, 0, none⟩ = some (.int .i64 a.k) ∧ W.cell? ⟨w.heap.size, 1, none⟩ = some (.int .i64 a.n) ∧ W.cell? ⟨w.heap.size, 2, none⟩ = some (.float .f64 a.f) ∧ W.cell? ⟨w.heap.size, 3, none⟩ = some (.string a.s)) ∧ W.cell? ⟨w.heap.size + 1, 0, none⟩ = some (.int .i64 b.k) ∧ W.cell? ⟨w.heap.size + 1, 1, none⟩ = some (.int .i64 b.n) ∧ W.cell? ⟨w.heap.size + 1, 2, none⟩ = some (.float .f64 b.f) ∧ W.cell? ⟨w.heap.size + 1, 3, none⟩ = some (.string b.s))
    (first | exact kp8 L.out r0 | exact kp8 L.out d1 | exact kp8 L.out d2 | exact kp8 L.out d3 | exact kp8 L.out d4 | exact kp8s (kp8 L.out d4) (by omega) (by omega) rfl)
    (first
      | ((with_reducible refine (C.out _).mono ?_); rintro e wa ⟨rfl, hba⟩; have d1 := Below.chain r0 hba)
      | ((with_reducible refine (D.out _).mono ?_); rintro e wb ⟨rfl, hbb⟩; have d2 := Below.chain d1 hbb; have d3 := d2.alloc d2.size (.cells #[.int .i64 I, .int .i64 J] 59))
      | ((with_reducible refine (G.out _).mono ?_); rintro e wz ⟨rfl, rfl⟩)
      | ((with_reducible refine (V.out _).mono ?_); rintro e wv ⟨rfl, hbv⟩; have d4 := Below.chain d3 hbv; have V4 := (L.out.2.2.keep d4); have ⟨⟨y0, y1, y2, y3⟩, g0, g1, g2, g3⟩ := V4.four))
  all_goals
    go_wp2_with fail
    exact ret_v rfl rfl rfl (Lies.set ⟨y0, y1, y2, y3⟩ _ _ _ _) ⟨rfl, below_set4 (Below.chain c0 d4) (by omega) _ _ _ _⟩
theorem two_and_a (R : Nat) (s : ByteArray) (hs : (s.toList == [97, 110, 100]) = true) (a b : Vl) (ha : ¬ a.ofE = 0) (w : World) : Calls Try.prog 37 #[.pointer (some ⟨R, 0, none⟩), .string s, avl a, avl b] w fun e w' => e = bad4 ∧ Below w.heap.size w w' := by
  have hsf := run_store_float
  have L := Lib.hid (laid3 w a b)
  have c0 := below_a3 w (.cells #[.int .i64 a.k, .int .i64 a.n, .float .f64 a.f, .string a.s] 24) (.cells #[.int .i64 b.k, .int .i64 b.n, .float .f64 b.f, .string b.s] 24) (.cells #[.int .i64 0, .int .i64 0, .float .f64 0, .string ⟨#[]⟩] 24)
  generalize hW : ((w.alloc (.cells #[.int .i64 a.k, .int .i64 a.n, .float .f64 a.f, .string a.s] 24)).alloc (.cells #[.int .i64 b.k, .int .i64 b.n, .float .f64 b.f, .string b.s] 24)).alloc (.cells #[.int .i64 0, .int .i64 0, .float .f64 0, .string ⟨#[]⟩] 24) = W0 at *
  obtain ⟨⟨p0, p1, p2, p3⟩, ⟨q0, q1, q2, q3⟩, -⟩ := L.out
  have C := Lib.hid (truth_bad a ha)
  clear ha
  have r0 : Below W0.heap.size W0 W0.drew := (Below.refl _ _).drew
  go_enter Try.func37, Try.ntmps37
  go_wp2_with fail
  try rw [hW]
  clear hW
  refine wp_region_held_drew (S := fun W => (W.cell? ⟨w.heap.size, 0, none⟩ = some (.int .i64 a.k) ∧ W.cell? ⟨w.heap.size, 1, none⟩ = some (.int .i64 a.n) ∧ W.cell? ⟨w.heap.size, 2, none⟩ = some (.float .f64 a.f) ∧ W.cell? ⟨w.heap.size, 3, none⟩ = some (.string a.s)) ∧ W.cell? ⟨w.heap.size + 1, 0, none⟩ = some (.int .i64 b.k) ∧ W.cell? ⟨w.heap.size + 1, 1, none⟩ = some (.int .i64 b.n) ∧ W.cell? ⟨w.heap.size + 1, 2, none⟩ = some (.float .f64 b.f) ∧ W.cell? ⟨w.heap.size + 1, 3, none⟩ = some (.string b.s)) (by kernel_rfl) (kp8 L.out r0) (fun hHeld => ?_)
  refine wpAnyH_take (i := 0) (oi := { dst := some 12, op := _, type := _, pos := _, after := _, guard := _ }) (v := ?_) rfl (by kernel_rfl) (by kernel_rfl) (by kernel_rfl) (fun _ _ _ h => h) (Or.inl ⟨by rfl, ?_⟩) (by assumption) ?_
  rotate_left
  focus (intro W hSw; (try dsimp only at hSw); go_simp; try with_reducible rfl)
  simp only [Act.put, List.setIfInBounds_toArray, List.set_cons_zero, List.set_cons_succ]
  refine wpAnyH_take (i := 2) (oi := { dst := some 14, op := _, type := _, pos := _, after := _, guard := _ }) (v := ?_) rfl (by kernel_rfl) (by kernel_rfl) (by kernel_rfl) (fun _ _ _ h => h) (Or.inl ⟨by rfl, ?_⟩) (by assumption) ?_
  rotate_left
  focus (intro W hSw; (try dsimp only at hSw); go_simp; try with_reducible rfl)
  simp only [Act.put, List.setIfInBounds_toArray, List.set_cons_zero, List.set_cons_succ]
  refine wpAnyH_ready (rs := [1]) (by kernel_rfl) (by simp) ?_
  refine AllReadyH.cons (o := _) rfl (fun K hK => ?_) AllReadyH.nil
  go_simp
  (with_reducible refine (C.out _).mono ?_); rintro e wa ⟨rfl, hba⟩
  exact ⟨rfl, rfl, Below.chain c0 (Below.chain r0 hba)⟩
theorem two_and_b (R : Nat) (s : ByteArray) (hs : (s.toList == [97, 110, 100]) = true) (a b : Vl) (ha : a.ofE = 0) (hb : ¬ b.ofE = 0) (w : World) : Calls Try.prog 37 #[.pointer (some ⟨R, 0, none⟩), .string s, avl a, avl b] w fun e w' => e = bad4 ∧ Below w.heap.size w w' := by
  have hsf := run_store_float
  have L := Lib.hid (laid3 w a b)
  have c0 := below_a3 w (.cells #[.int .i64 a.k, .int .i64 a.n, .float .f64 a.f, .string a.s] 24) (.cells #[.int .i64 b.k, .int .i64 b.n, .float .f64 b.f, .string b.s] 24) (.cells #[.int .i64 0, .int .i64 0, .float .f64 0, .string ⟨#[]⟩] 24)
  generalize hW : ((w.alloc (.cells #[.int .i64 a.k, .int .i64 a.n, .float .f64 a.f, .string a.s] 24)).alloc (.cells #[.int .i64 b.k, .int .i64 b.n, .float .f64 b.f, .string b.s] 24)).alloc (.cells #[.int .i64 0, .int .i64 0, .float .f64 0, .string ⟨#[]⟩] 24) = W0 at *
  obtain ⟨⟨p0, p1, p2, p3⟩, ⟨q0, q1, q2, q3⟩, -⟩ := L.out
  have C := Lib.hid (truth_ok a ha)
  have D := Lib.hid (truth_bad b hb)
  clear ha hb
  generalize a.ofI = I at *
  have r0 : Below W0.heap.size W0 W0.drew := (Below.refl _ _).drew
  go_enter Try.func37, Try.ntmps37
  go_wp2_with fail
  try rw [hW]
  clear hW
  refine wp_region_held_drew (S := fun W => (W.cell? ⟨w.heap.size, 0, none⟩ = some (.int .i64 a.k) ∧ W.cell? ⟨w.heap.size, 1, none⟩ = some (.int .i64 a.n) ∧ W.cell? ⟨w.heap.size, 2, none⟩ = some (.float .f64 a.f) ∧ W.cell? ⟨w.heap.size, 3, none⟩ = some (.string a.s)) ∧ W.cell? ⟨w.heap.size + 1, 0, none⟩ = some (.int .i64 b.k) ∧ W.cell? ⟨w.heap.size + 1, 1, none⟩ = some (.int .i64 b.n) ∧ W.cell? ⟨w.heap.size + 1, 2, none⟩ = some (.float .f64 b.f) ∧ W.cell? ⟨w.heap.size + 1, 3, none⟩ = some (.string b.s)) (by kernel_rfl) (kp8 L.out r0) (fun hHeld => ?_)
  refine wpAnyH_take (i := 0) (oi := { dst := some 12, op := _, type := _, pos := _, after := _, guard := _ }) (v := ?_) rfl (by kernel_rfl) (by kernel_rfl) (by kernel_rfl) (fun _ _ _ h => h) (Or.inl ⟨by rfl, ?_⟩) (by assumption) ?_
  rotate_left
  focus (intro W hSw; (try dsimp only at hSw); go_simp; try with_reducible rfl)
  simp only [Act.put, List.setIfInBounds_toArray, List.set_cons_zero, List.set_cons_succ]
  refine wpAnyH_take (i := 2) (oi := { dst := some 14, op := _, type := _, pos := _, after := _, guard := _ }) (v := ?_) rfl (by kernel_rfl) (by kernel_rfl) (by kernel_rfl) (fun _ _ _ h => h) (Or.inl ⟨by rfl, ?_⟩) (by assumption) ?_
  rotate_left
  focus (intro W hSw; (try dsimp only at hSw); go_simp; try with_reducible rfl)
  simp only [Act.put, List.setIfInBounds_toArray, List.set_cons_zero, List.set_cons_succ]
  refine wpAnyH_ready (rs := [1]) (by kernel_rfl) (by simp) ?_
  refine AllReadyH.cons (o := _) rfl (fun K hK => ?_) AllReadyH.nil
  go_simp
  (with_reducible refine (C.out _).mono ?_); rintro e wa ⟨rfl, hba⟩
  try go_wp2_with fail
  have d1 := Below.chain r0 hba
  refine hK.out _ _ (kp8 L.out d1) (fun hHeld => ?_)
  clear hK K
  try simp only [Act.put, List.setIfInBounds_toArray, List.set_cons_zero, List.set_cons_succ]
  refine wpAnyH_ready (rs := [3]) (by kernel_rfl) (by simp) ?_
  refine AllReadyH.cons (o := _) rfl (fun K hK => ?_) AllReadyH.nil
  go_simp
  (with_reducible refine (D.out _).mono ?_); rintro e wb ⟨rfl, hbb⟩
  exact ⟨rfl, rfl, Below.chain c0 (Below.chain d1 hbb)⟩
set_option maxHeartbeats 1000000 in
theorem two_or (R : Nat) (s : ByteArray) (hn : (s.toList == [97, 110, 100]) = false) (hs : (s.toList == [111, 114]) = true) (a b : Vl) (ha : a.ofE = 0) (hb : b.ofE = 0) (w : World) : Calls Try.prog 37 #[.pointer (some ⟨R, 0, none⟩), .string s, avl a, avl b] w fun e w' => e = .returned (avl (tv (joinI 1 [a.ofI, b.ofI]))) ∧ Below w.heap.size w w' := by
  have hsf := run_store_float
  have L := Lib.hid (laid3 w a b)
  have c0 := below_a3 w (.cells #[.int .i64 a.k, .int .i64 a.n, .float .f64 a.f, .string a.s] 24) (.cells #[.int .i64 b.k, .int .i64 b.n, .float .f64 b.f, .string b.s] 24) (.cells #[.int .i64 0, .int .i64 0, .float .f64 0, .string ⟨#[]⟩] 24)
  generalize hW : ((w.alloc (.cells #[.int .i64 a.k, .int .i64 a.n, .float .f64 a.f, .string a.s] 24)).alloc (.cells #[.int .i64 b.k, .int .i64 b.n, .float .f64 b.f, .string b.s] 24)).alloc (.cells #[.int .i64 0, .int .i64 0, .float .f64 0, .string ⟨#[]⟩] 24) = W0 at *
  obtain ⟨⟨p0, p1, p2, p3⟩, ⟨q0, q1, q2, q3⟩, -⟩ := L.out
  have C := Lib.hid (truth_ok a ha)
  have D := Lib.hid (truth_ok b hb)
  clear ha hb
  generalize a.ofI = I at *
  generalize b.ofI = J at *
  have G := Lib.hid (fun (x : World) => or_any [I, J] _ _ _ (pair_ts x I J))
  generalize joinI 1 [I, J] = U at *
  have V := Lib.hid (value_any U)
  simp only [tv]
  generalize vK U = K1 at *
  generalize vN U = N1 at *
  have r0 : Below W0.heap.size W0 W0.drew := (Below.refl _ _).drew
  go_enter Try.func37, Try.ntmps37
  go_wp2_with fail
  try rw [hW]
  clear hW
  go_region_held3 (fun W => (W.cell? ⟨w.heap.size, 0, none⟩ = some (.int .i64 a.k) ∧ W.cell? ⟨w.heap.size, 1, none⟩ = some (.int .i64 a.n) ∧ W.cell? ⟨w.heap.size, 2, none⟩ = some (.float .f64 a.f) ∧ W.cell? ⟨w.heap.size, 3, none⟩ = some (.string a.s)) ∧ W.cell? ⟨w.heap.size + 1, 0, none⟩ = some (.int .i64 b.k) ∧ W.cell? ⟨w.heap.size + 1, 1, none⟩ = some (.int .i64 b.n) ∧ W.cell? ⟨w.heap.size + 1, 2, none⟩ = some (.float .f64 b.f) ∧ W.cell? ⟨w.heap.size + 1, 3, none⟩ = some (.string b.s))
    (first | exact kp8 L.out r0 | exact kp8 L.out d1 | exact kp8 L.out d2 | exact kp8 L.out d3 | exact kp8 L.out d4 | exact kp8s (kp8 L.out d4) (by omega) (by omega) rfl)
    (first
      | ((with_reducible refine (C.out _).mono ?_); rintro e wa ⟨rfl, hba⟩; have d1 := Below.chain r0 hba)
      | ((with_reducible refine (D.out _).mono ?_); rintro e wb ⟨rfl, hbb⟩; have d2 := Below.chain d1 hbb; have d3 := d2.alloc d2.size (.cells #[.int .i64 I, .int .i64 J] 59))
      | ((with_reducible refine (G.out _).mono ?_); rintro e wz ⟨rfl, rfl⟩)
      | ((with_reducible refine (V.out _).mono ?_); rintro e wv ⟨rfl, hbv⟩; have d4 := Below.chain d3 hbv; have V4 := (L.out.2.2.keep d4); have ⟨⟨y0, y1, y2, y3⟩, g0, g1, g2, g3⟩ := V4.four))
  all_goals
    go_wp2_with fail
    exact ret_v rfl rfl rfl (Lies.set ⟨y0, y1, y2, y3⟩ _ _ _ _) ⟨rfl, below_set4 (Below.chain c0 d4) (by omega) _ _ _ _⟩
theorem two_or_a (R : Nat) (s : ByteArray) (hn : (s.toList == [97, 110, 100]) = false) (hs : (s.toList == [111, 114]) = true) (a b : Vl) (ha : ¬ a.ofE = 0) (w : World) : Calls Try.prog 37 #[.pointer (some ⟨R, 0, none⟩), .string s, avl a, avl b] w fun e w' => e = bad4 ∧ Below w.heap.size w w' := by
  have hsf := run_store_float
  have L := Lib.hid (laid3 w a b)
  have c0 := below_a3 w (.cells #[.int .i64 a.k, .int .i64 a.n, .float .f64 a.f, .string a.s] 24) (.cells #[.int .i64 b.k, .int .i64 b.n, .float .f64 b.f, .string b.s] 24) (.cells #[.int .i64 0, .int .i64 0, .float .f64 0, .string ⟨#[]⟩] 24)
  generalize hW : ((w.alloc (.cells #[.int .i64 a.k, .int .i64 a.n, .float .f64 a.f, .string a.s] 24)).alloc (.cells #[.int .i64 b.k, .int .i64 b.n, .float .f64 b.f, .string b.s] 24)).alloc (.cells #[.int .i64 0, .int .i64 0, .float .f64 0, .string ⟨#[]⟩] 24) = W0 at *
  obtain ⟨⟨p0, p1, p2, p3⟩, ⟨q0, q1, q2, q3⟩, -⟩ := L.out
  have C := Lib.hid (truth_bad a ha)
  clear ha
  have r0 : Below W0.heap.size W0 W0.drew := (Below.refl _ _).drew
  go_enter Try.func37, Try.ntmps37
  go_wp2_with fail
  try rw [hW]
  clear hW
  refine wp_region_held_drew (S := fun W => (W.cell? ⟨w.heap.size, 0, none⟩ = some (.int .i64 a.k) ∧ W.cell? ⟨w.heap.size, 1, none⟩ = some (.int .i64 a.n) ∧ W.cell? ⟨w.heap.size, 2, none⟩ = some (.float .f64 a.f) ∧ W.cell? ⟨w.heap.size, 3, none⟩ = some (.string a.s)) ∧ W.cell? ⟨w.heap.size + 1, 0, none⟩ = some (.int .i64 b.k) ∧ W.cell? ⟨w.heap.size + 1, 1, none⟩ = some (.int .i64 b.n) ∧ W.cell? ⟨w.heap.size + 1, 2, none⟩ = some (.float .f64 b.f) ∧ W.cell? ⟨w.heap.size + 1, 3, none⟩ = some (.string b.s)) (by kernel_rfl) (kp8 L.out r0) (fun hHeld => ?_)
  refine wpAnyH_take (i := 0) (oi := { dst := some 21, op := _, type := _, pos := _, after := _, guard := _ }) (v := ?_) rfl (by kernel_rfl) (by kernel_rfl) (by kernel_rfl) (fun _ _ _ h => h) (Or.inl ⟨by rfl, ?_⟩) (by assumption) ?_
  rotate_left
  focus (intro W hSw; (try dsimp only at hSw); go_simp; try with_reducible rfl)
  simp only [Act.put, List.setIfInBounds_toArray, List.set_cons_zero, List.set_cons_succ]
  refine wpAnyH_take (i := 2) (oi := { dst := some 23, op := _, type := _, pos := _, after := _, guard := _ }) (v := ?_) rfl (by kernel_rfl) (by kernel_rfl) (by kernel_rfl) (fun _ _ _ h => h) (Or.inl ⟨by rfl, ?_⟩) (by assumption) ?_
  rotate_left
  focus (intro W hSw; (try dsimp only at hSw); go_simp; try with_reducible rfl)
  simp only [Act.put, List.setIfInBounds_toArray, List.set_cons_zero, List.set_cons_succ]
  refine wpAnyH_ready (rs := [1]) (by kernel_rfl) (by simp) ?_
  refine AllReadyH.cons (o := _) rfl (fun K hK => ?_) AllReadyH.nil
  go_simp
  (with_reducible refine (C.out _).mono ?_); rintro e wa ⟨rfl, hba⟩
  exact ⟨rfl, rfl, Below.chain c0 (Below.chain r0 hba)⟩
theorem two_or_b (R : Nat) (s : ByteArray) (hn : (s.toList == [97, 110, 100]) = false) (hs : (s.toList == [111, 114]) = true) (a b : Vl) (ha : a.ofE = 0) (hb : ¬ b.ofE = 0) (w : World) : Calls Try.prog 37 #[.pointer (some ⟨R, 0, none⟩), .string s, avl a, avl b] w fun e w' => e = bad4 ∧ Below w.heap.size w w' := by
  have hsf := run_store_float
  have L := Lib.hid (laid3 w a b)
  have c0 := below_a3 w (.cells #[.int .i64 a.k, .int .i64 a.n, .float .f64 a.f, .string a.s] 24) (.cells #[.int .i64 b.k, .int .i64 b.n, .float .f64 b.f, .string b.s] 24) (.cells #[.int .i64 0, .int .i64 0, .float .f64 0, .string ⟨#[]⟩] 24)
  generalize hW : ((w.alloc (.cells #[.int .i64 a.k, .int .i64 a.n, .float .f64 a.f, .string a.s] 24)).alloc (.cells #[.int .i64 b.k, .int .i64 b.n, .float .f64 b.f, .string b.s] 24)).alloc (.cells #[.int .i64 0, .int .i64 0, .float .f64 0, .string ⟨#[]⟩] 24) = W0 at *
  obtain ⟨⟨p0, p1, p2, p3⟩, ⟨q0, q1, q2, q3⟩, -⟩ := L.out
  have C := Lib.hid (truth_ok a ha)
  have D := Lib.hid (truth_bad b hb)
  clear ha hb
  generalize a.ofI = I at *
  have r0 : Below W0.heap.size W0 W0.drew := (Below.refl _ _).drew
  go_enter Try.func37, Try.ntmps37
  go_wp2_with fail
  try rw [hW]
  clear hW
  refine wp_region_held_drew (S := fun W => (W.cell? ⟨w.heap.size, 0, none⟩ = some (.int .i64 a.k) ∧ W.cell? ⟨w.heap.size, 1, none⟩ = some (.int .i64 a.n) ∧ W.cell? ⟨w.heap.size, 2, none⟩ = some (.float .f64 a.f) ∧ W.cell? ⟨w.heap.size, 3, none⟩ = some (.string a.s)) ∧ W.cell? ⟨w.heap.size + 1, 0, none⟩ = some (.int .i64 b.k) ∧ W.cell? ⟨w.heap.size + 1, 1, none⟩ = some (.int .i64 b.n) ∧ W.cell? ⟨w.heap.size + 1, 2, none⟩ = some (.float .f64 b.f) ∧ W.cell? ⟨w.heap.size + 1, 3, none⟩ = some (.string b.s)) (by kernel_rfl) (kp8 L.out r0) (fun hHeld => ?_)
  refine wpAnyH_take (i := 0) (oi := { dst := some 21, op := _, type := _, pos := _, after := _, guard := _ }) (v := ?_) rfl (by kernel_rfl) (by kernel_rfl) (by kernel_rfl) (fun _ _ _ h => h) (Or.inl ⟨by rfl, ?_⟩) (by assumption) ?_
  rotate_left
  focus (intro W hSw; (try dsimp only at hSw); go_simp; try with_reducible rfl)
  simp only [Act.put, List.setIfInBounds_toArray, List.set_cons_zero, List.set_cons_succ]
  refine wpAnyH_take (i := 2) (oi := { dst := some 23, op := _, type := _, pos := _, after := _, guard := _ }) (v := ?_) rfl (by kernel_rfl) (by kernel_rfl) (by kernel_rfl) (fun _ _ _ h => h) (Or.inl ⟨by rfl, ?_⟩) (by assumption) ?_
  rotate_left
  focus (intro W hSw; (try dsimp only at hSw); go_simp; try with_reducible rfl)
  simp only [Act.put, List.setIfInBounds_toArray, List.set_cons_zero, List.set_cons_succ]
  refine wpAnyH_ready (rs := [1]) (by kernel_rfl) (by simp) ?_
  refine AllReadyH.cons (o := _) rfl (fun K hK => ?_) AllReadyH.nil
  go_simp
  (with_reducible refine (C.out _).mono ?_); rintro e wa ⟨rfl, hba⟩
  try go_wp2_with fail
  have d1 := Below.chain r0 hba
  refine hK.out _ _ (kp8 L.out d1) (fun hHeld => ?_)
  clear hK K
  try simp only [Act.put, List.setIfInBounds_toArray, List.set_cons_zero, List.set_cons_succ]
  refine wpAnyH_ready (rs := [3]) (by kernel_rfl) (by simp) ?_
  refine AllReadyH.cons (o := _) rfl (fun K hK => ?_) AllReadyH.nil
  go_simp
  (with_reducible refine (D.out _).mono ?_); rintro e wb ⟨rfl, hbb⟩
  exact ⟨rfl, rfl, Below.chain c0 (Below.chain d1 hbb)⟩
theorem two_rk_ok (R : Nat) (s : ByteArray) (h1 : (s.toList == [97, 110, 100]) = false) (h2 : (s.toList == [111, 114]) = false) (h3 : ((s.toList == [43]) = true) ∨ ((s.toList == [43]) = false ∧ (s.toList == [45]) = true) ∨ ((s.toList == [43]) = false ∧ (s.toList == [45]) = false ∧ (s.toList == [42]) = true)) (a b : Vl) (K N : Int) (F : Nat) (C : ∀ w, Calls Try.prog 51 #[.string s, avl a, avl b] w fun e w' => e = .returned (.tuple #[.agg #[.int .i64 K, .int .i64 N, .float .f64 F, .string ⟨#[]⟩], .int .i64 0]) ∧ Below w.heap.size w w') (w : World) : Calls Try.prog 37 #[.pointer (some ⟨R, 0, none⟩), .string s, avl a, avl b] w fun e w' => e = .returned (avl ⟨K, N, F, ⟨#[]⟩⟩) ∧ Below w.heap.size w w' := by
  have hsf := run_store_float
  have L := Lib.hid (laid3 w a b)
  have c0 := below_a3 w (.cells #[.int .i64 a.k, .int .i64 a.n, .float .f64 a.f, .string a.s] 24) (.cells #[.int .i64 b.k, .int .i64 b.n, .float .f64 b.f, .string b.s] 24) (.cells #[.int .i64 0, .int .i64 0, .float .f64 0, .string ⟨#[]⟩] 24)
  generalize hW : ((w.alloc (.cells #[.int .i64 a.k, .int .i64 a.n, .float .f64 a.f, .string a.s] 24)).alloc (.cells #[.int .i64 b.k, .int .i64 b.n, .float .f64 b.f, .string b.s] 24)).alloc (.cells #[.int .i64 0, .int .i64 0, .float .f64 0, .string ⟨#[]⟩] 24) = W0 at *
  obtain ⟨⟨p0, p1, p2, p3⟩, ⟨q0, q1, q2, q3⟩, -⟩ := L.out
  have C1 := Lib.hid C
  have hs : w.heap.size + 2 = w.heap.size + 1 + 1 := rfl
  clear C
  have V2 := Lib.hid L.out.2.2
  rw [hs] at V2
  rcases h3 with h3 | ⟨h3, h4⟩ | ⟨h3, h4, h5⟩
  all_goals
    go_enter Try.func37, Try.ntmps37
    go_wp2_with fail
    try rw [hW]
    clear hW
    (with_reducible refine (C1.out _).mono ?_); rintro e w2 ⟨rfl, hb2⟩
    go_wp2_with fail
    refine (checked_ok R ⟨K, N, F, ⟨#[]⟩⟩ _).mono ?_; rintro e w3 ⟨rfl, hb3⟩
    have V3 := Lib.hid ((V2.out.keep hb2).keep hb3)
    go_wp2_with (refine wpList_store_v ⟨K, N, F, ⟨#[]⟩⟩ rfl _ _ rfl rfl rfl V3.out rfl ?_)
    refine ret_v rfl rfl rfl (V3.out.set (vcs ⟨K, N, F, ⟨#[]⟩⟩)).lies ?_
    exact ⟨rfl, below_setRow (Below.chain (Below.chain c0 hb2) hb3) (by omega) _⟩
theorem two_rk_over (R : Nat) (s : ByteArray) (h1 : (s.toList == [97, 110, 100]) = false) (h2 : (s.toList == [111, 114]) = false) (h3 : ((s.toList == [43]) = true) ∨ ((s.toList == [43]) = false ∧ (s.toList == [45]) = true) ∨ ((s.toList == [43]) = false ∧ (s.toList == [45]) = false ∧ (s.toList == [42]) = true)) (a b : Vl) (K N : Int) (F : Nat) (v : Value) (o : Bool) (C : ∀ w, Calls Try.prog 51 #[.string s, avl a, avl b] w fun e w' => e = .returned (.tuple #[.agg #[.int .i64 K, .int .i64 N, .float .f64 F, .string ⟨#[]⟩], .int .i64 7]) ∧ Below w.heap.size w w') (w : World) (hR : Rk w R v o) : Calls Try.prog 37 #[.pointer (some ⟨R, 0, none⟩), .string s, avl a, avl b] w fun e w' => e = .returned (avl ⟨K, N, F, ⟨#[]⟩⟩) ∧ Rk w' R v true ∧ w.grownBy w' (some R) := by
  have hsf := run_store_float
  have L := Lib.hid (laid3 w a b)
  have c0 := below_a3 w (.cells #[.int .i64 a.k, .int .i64 a.n, .float .f64 a.f, .string a.s] 24) (.cells #[.int .i64 b.k, .int .i64 b.n, .float .f64 b.f, .string b.s] 24) (.cells #[.int .i64 0, .int .i64 0, .float .f64 0, .string ⟨#[]⟩] 24)
  generalize hW : ((w.alloc (.cells #[.int .i64 a.k, .int .i64 a.n, .float .f64 a.f, .string a.s] 24)).alloc (.cells #[.int .i64 b.k, .int .i64 b.n, .float .f64 b.f, .string b.s] 24)).alloc (.cells #[.int .i64 0, .int .i64 0, .float .f64 0, .string ⟨#[]⟩] 24) = W0 at *
  obtain ⟨⟨p0, p1, p2, p3⟩, ⟨q0, q1, q2, q3⟩, -⟩ := L.out
  have C1 := Lib.hid C
  have hs : w.heap.size + 2 = w.heap.size + 1 + 1 := rfl
  clear C
  have hn : w.heap.size + 2 ≠ R := by have := hR.lt; omega
  have HR := Lib.hid (hR.keep c0)
  clear hR
  have V2 := Lib.hid L.out.2.2
  rw [hs] at V2
  rcases h3 with h3 | ⟨h3, h4⟩ | ⟨h3, h4, h5⟩
  all_goals
    go_enter Try.func37, Try.ntmps37
    go_wp2_with fail
    try rw [hW]
    clear hW
    (with_reducible refine (C1.out _).mono ?_); rintro e w2 ⟨rfl, hb2⟩
    go_wp2_with fail
    refine (checked_over R v o ⟨K, N, F, ⟨#[]⟩⟩ _ (HR.out.keep hb2)).mono ?_; rintro e w3 ⟨rfl, hk3, hg3⟩
    have V3 := Lib.hid ((V2.out.keep hb2).grownR hg3 (by simpa using hn))
    have K3 := Lib.hid hk3
    clear hk3
    go_wp2_with (refine wpList_store_v ⟨K, N, F, ⟨#[]⟩⟩ rfl _ _ rfl rfl rfl V3.out rfl ?_)
    refine ret_v rfl rfl rfl (V3.out.set (vcs ⟨K, N, F, ⟨#[]⟩⟩)).lies ?_
    exact ⟨rfl, K3.out.row (by omega) _, grown_row (grown_trans (grown_of_below _ (Below.chain c0 hb2)) hg3) (by omega) _⟩
theorem two_rk_bad (R : Nat) (s : ByteArray) (h1 : (s.toList == [97, 110, 100]) = false) (h2 : (s.toList == [111, 114]) = false) (h3 : ((s.toList == [43]) = true) ∨ ((s.toList == [43]) = false ∧ (s.toList == [45]) = true) ∨ ((s.toList == [43]) = false ∧ (s.toList == [45]) = false ∧ (s.toList == [42]) = true)) (a b : Vl) (K N : Int) (F : Nat) (C : ∀ w, Calls Try.prog 51 #[.string s, avl a, avl b] w fun e w' => e = .returned (.tuple #[.agg #[.int .i64 K, .int .i64 N, .float .f64 F, .string ⟨#[]⟩], .int .i64 4]) ∧ Below w.heap.size w w') (w : World) : Calls Try.prog 37 #[.pointer (some ⟨R, 0, none⟩), .string s, avl a, avl b] w fun e w' => e = bad4 ∧ Below w.heap.size w w' := by
  have hsf := run_store_float
  have L := Lib.hid (laid3 w a b)
  have c0 := below_a3 w (.cells #[.int .i64 a.k, .int .i64 a.n, .float .f64 a.f, .string a.s] 24) (.cells #[.int .i64 b.k, .int .i64 b.n, .float .f64 b.f, .string b.s] 24) (.cells #[.int .i64 0, .int .i64 0, .float .f64 0, .string ⟨#[]⟩] 24)
  generalize hW : ((w.alloc (.cells #[.int .i64 a.k, .int .i64 a.n, .float .f64 a.f, .string a.s] 24)).alloc (.cells #[.int .i64 b.k, .int .i64 b.n, .float .f64 b.f, .string b.s] 24)).alloc (.cells #[.int .i64 0, .int .i64 0, .float .f64 0, .string ⟨#[]⟩] 24) = W0 at *
  obtain ⟨⟨p0, p1, p2, p3⟩, ⟨q0, q1, q2, q3⟩, -⟩ := L.out
  have C1 := Lib.hid C
  have hs : w.heap.size + 2 = w.heap.size + 1 + 1 := rfl
  clear C
  rcases h3 with h3 | ⟨h3, h4⟩ | ⟨h3, h4, h5⟩
  all_goals
    go_enter Try.func37, Try.ntmps37
    go_wp2_with fail
    try rw [hW]
    clear hW
    (with_reducible refine (C1.out _).mono ?_); rintro e w2 ⟨rfl, hb2⟩
    go_wp2_with fail
    refine (checked_bad R ⟨K, N, F, ⟨#[]⟩⟩ _).mono ?_; rintro e w3 ⟨rfl, hb3⟩
    exact ⟨rfl, rfl, Below.chain (Below.chain c0 hb2) hb3⟩
theorem two_ts_ok (R : Nat) (s : ByteArray) (h1 : (s.toList == [97, 110, 100]) = false) (h2 : (s.toList == [111, 114]) = false) (h3 : (s.toList == [43]) = false) (h4 : (s.toList == [45]) = false) (h5 : (s.toList == [42]) = false) (a b : Vl) (K N : Int)  (C : ∀ w, Calls Try.prog 52 #[.string s, avl a, avl b] w fun e w' => e = .returned (.tuple #[.agg #[.int .i64 K, .int .i64 N, .float .f64 0, .string ⟨#[]⟩], .int .i64 0]) ∧ Below w.heap.size w w') (w : World) : Calls Try.prog 37 #[.pointer (some ⟨R, 0, none⟩), .string s, avl a, avl b] w fun e w' => e = .returned (avl ⟨K, N, 0, ⟨#[]⟩⟩) ∧ Below w.heap.size w w' := by
  have hsf := run_store_float
  have L := Lib.hid (laid3 w a b)
  have c0 := below_a3 w (.cells #[.int .i64 a.k, .int .i64 a.n, .float .f64 a.f, .string a.s] 24) (.cells #[.int .i64 b.k, .int .i64 b.n, .float .f64 b.f, .string b.s] 24) (.cells #[.int .i64 0, .int .i64 0, .float .f64 0, .string ⟨#[]⟩] 24)
  generalize hW : ((w.alloc (.cells #[.int .i64 a.k, .int .i64 a.n, .float .f64 a.f, .string a.s] 24)).alloc (.cells #[.int .i64 b.k, .int .i64 b.n, .float .f64 b.f, .string b.s] 24)).alloc (.cells #[.int .i64 0, .int .i64 0, .float .f64 0, .string ⟨#[]⟩] 24) = W0 at *
  obtain ⟨⟨p0, p1, p2, p3⟩, ⟨q0, q1, q2, q3⟩, -⟩ := L.out
  have C1 := Lib.hid C
  have hs : w.heap.size + 2 = w.heap.size + 1 + 1 := rfl
  clear C
  have V2 := Lib.hid L.out.2.2
  rw [hs] at V2
  go_enter Try.func37, Try.ntmps37
  go_wp2_with fail
  try rw [hW]
  clear hW
  (with_reducible refine (C1.out _).mono ?_); rintro e w2 ⟨rfl, hb2⟩
  go_wp2_with fail
  refine (checked_ok R ⟨K, N, 0, ⟨#[]⟩⟩ _).mono ?_; rintro e w3 ⟨rfl, hb3⟩
  have V3 := Lib.hid ((V2.out.keep hb2).keep hb3)
  go_wp2_with (refine wpList_store_v ⟨K, N, 0, ⟨#[]⟩⟩ rfl _ _ rfl rfl rfl V3.out rfl ?_)
  refine ret_v rfl rfl rfl (V3.out.set (vcs ⟨K, N, 0, ⟨#[]⟩⟩)).lies ?_
  exact ⟨rfl, below_setRow (Below.chain (Below.chain c0 hb2) hb3) (by omega) _⟩
theorem two_ts_bad (R : Nat) (s : ByteArray) (h1 : (s.toList == [97, 110, 100]) = false) (h2 : (s.toList == [111, 114]) = false) (h3 : (s.toList == [43]) = false) (h4 : (s.toList == [45]) = false) (h5 : (s.toList == [42]) = false) (a b : Vl) (K N : Int)  (C : ∀ w, Calls Try.prog 52 #[.string s, avl a, avl b] w fun e w' => e = .returned (.tuple #[.agg #[.int .i64 K, .int .i64 N, .float .f64 0, .string ⟨#[]⟩], .int .i64 4]) ∧ Below w.heap.size w w') (w : World) : Calls Try.prog 37 #[.pointer (some ⟨R, 0, none⟩), .string s, avl a, avl b] w fun e w' => e = bad4 ∧ Below w.heap.size w w' := by
  have hsf := run_store_float
  have L := Lib.hid (laid3 w a b)
  have c0 := below_a3 w (.cells #[.int .i64 a.k, .int .i64 a.n, .float .f64 a.f, .string a.s] 24) (.cells #[.int .i64 b.k, .int .i64 b.n, .float .f64 b.f, .string b.s] 24) (.cells #[.int .i64 0, .int .i64 0, .float .f64 0, .string ⟨#[]⟩] 24)
  generalize hW : ((w.alloc (.cells #[.int .i64 a.k, .int .i64 a.n, .float .f64 a.f, .string a.s] 24)).alloc (.cells #[.int .i64 b.k, .int .i64 b.n, .float .f64 b.f, .string b.s] 24)).alloc (.cells #[.int .i64 0, .int .i64 0, .float .f64 0, .string ⟨#[]⟩] 24) = W0 at *
  obtain ⟨⟨p0, p1, p2, p3⟩, ⟨q0, q1, q2, q3⟩, -⟩ := L.out
  have C1 := Lib.hid C
  have hs : w.heap.size + 2 = w.heap.size + 1 + 1 := rfl
  clear C
  go_enter Try.func37, Try.ntmps37
  go_wp2_with fail
  try rw [hW]
  clear hW
  (with_reducible refine (C1.out _).mono ?_); rintro e w2 ⟨rfl, hb2⟩
  go_wp2_with fail
  refine (checked_bad R ⟨K, N, 0, ⟨#[]⟩⟩ _).mono ?_; rintro e w3 ⟨rfl, hb3⟩
  exact ⟨rfl, rfl, Below.chain (Below.chain c0 hb2) hb3⟩
end Go.Proofs.Ytfhnjilflffdfaa
