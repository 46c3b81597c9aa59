/- The walk of the law ValueEqual. -/
import Derived.Test.YtnjlcdemfdokoaaGreatDoorVs
import Derived.Test.YtnjlcdemfdokoaaGreatDoorVv
import Derived.Test.YtnjlcdemfdokoaaGreatDoorVu
namespace Go.Proofs.YtnjlcdemfdokoaaGreatDoor.ValueEqual
open Go Go.RowKit
set_option linter.unusedVariables false
theorem later_lies {w0 : World} {b : Nat} {v0 v1 v2 v3 : Value} (h : Lies w0 b v0 v1 v2 v3) (x : Later w0) : x.w.cell? ⟨b, 0, none⟩ = some v0 ∧ x.w.cell? ⟨b, 1, none⟩ = some v1 ∧ x.w.cell? ⟨b, 2, none⟩ = some v2 ∧ x.w.cell? ⟨b, 3, none⟩ = some v3 :=
  ⟨later_cell h.1 x, later_cell h.2.1 x, later_cell h.2.2.1 x, later_cell h.2.2.2 x⟩
set_option maxRecDepth 100000 in
set_option maxHeartbeats 1000000 in
theorem e1 (k n k' n' : Int) (f f' : Nat) (s s' : ByteArray) (R1 : ∀ w, Calls Tryz.prog 16 #[.agg #[.int .i64 k, .int .i64 n, .float .f64 f, .string (cut60 s)]] w fun e w' => e = .returned (.bool false) ∧ Below w.heap.size w w') (w : World) (hT : Tabs w) :
    Calls Tryz.prog 12 #[.agg #[.int .i64 k, .int .i64 n, .int .u64 (f : Int), .string s], .agg #[.int .i64 k', .int .i64 n', .int .u64 (f' : Int), .string s']] w fun e w' => e = .returned (.bool true) ∧ Below w.heap.size w w' := by
  have hsf := run_store_float
  have c0 : Below w.heap.size w ((w.alloc (.cells #[.int .i64 k, .int .i64 n, .int .u64 (f : Int), .string s] 24)).alloc (.cells #[.int .i64 k', .int .i64 n', .int .u64 (f' : Int), .string s'] 24)) := ((Below.refl w.heap.size w).alloc (by simp) _).alloc (by simp <;> omega) _
  have LB0_0 : Lies ((w.alloc (.cells #[.int .i64 k, .int .i64 n, .int .u64 (f : Int), .string s] 24)).alloc (.cells #[.int .i64 k', .int .i64 n', .int .u64 (f' : Int), .string s'] 24)) (w.heap.size) (.int .i64 k) (.int .i64 n) (.int .u64 (f : Int)) (.string s) := (lies_at w (w.heap.size) (by simp) (.int .i64 k) (.int .i64 n) (.int .u64 (f : Int)) (.string s) 24).alloc _
  have LB1_0 : Lies ((w.alloc (.cells #[.int .i64 k, .int .i64 n, .int .u64 (f : Int), .string s] 24)).alloc (.cells #[.int .i64 k', .int .i64 n', .int .u64 (f' : Int), .string s'] 24)) (w.heap.size + 1) (.int .i64 k') (.int .i64 n') (.int .u64 (f' : Int)) (.string s') := lies_at (w.alloc (.cells #[.int .i64 k, .int .i64 n, .int .u64 (f : Int), .string s] 24)) (w.heap.size + 1) (by simp) (.int .i64 k') (.int .i64 n') (.int .u64 (f' : Int)) (.string s') 24
  go_enter Tryz.func12, Tryz.ntmps12
  go_wp2_with fail
  refine (shown_any _ (hT.below c0)).mono ?_; rintro e w1 ⟨rfl, hb1⟩
  have c1 := Below.chain c0 hb1
  have LB0_1 := LB0_0.below hb1
  have LB1_1 := LB1_0.below hb1
  have ⟨_, _, _, _⟩ := LB0_1
  have ⟨_, _, _, _⟩ := LB1_1
  go_wp2_with fail
  refine (of_any k n f s _).mono ?_; rintro e w2 ⟨rfl, hb2⟩
  have c2 := Below.chain c1 hb2
  have LB0_2 := LB0_1.below hb2
  have LB1_2 := LB1_1.below hb2
  have c3 := Below.chain c2 (below_a1 w2 (.cells #[.int .i64 k, .int .i64 n, .float .f64 f, .string (cut60 s)] 28))
  have LB0_3 := LB0_2.alloc (.cells #[.int .i64 k, .int .i64 n, .float .f64 f, .string (cut60 s)] 28)
  have LB1_3 := LB1_2.alloc (.cells #[.int .i64 k, .int .i64 n, .float .f64 f, .string (cut60 s)] 28)
  have Lx_3 := lies_new w2 (.int .i64 k) (.int .i64 n) (.float .f64 f) (.string (cut60 s)) 28
  have ⟨_, _, _, _⟩ := LB0_3
  have ⟨_, _, _, _⟩ := LB1_3
  have ⟨_, _, _, _⟩ := Lx_3
  go_wp2_with fail
  refine (of_any k' n' f' s' _).mono ?_; rintro e w4 ⟨rfl, hb4⟩
  have c4 := Below.chain c3 hb4
  have LB0_4 := LB0_3.below hb4
  have LB1_4 := LB1_3.below hb4
  have Lx_4 := Lx_3.below hb4
  have c5 := Below.chain c4 (below_a1 w4 (.cells #[.int .i64 k', .int .i64 n', .float .f64 f', .string (cut60 s')] 28))
  have LB0_5 := LB0_4.alloc (.cells #[.int .i64 k', .int .i64 n', .float .f64 f', .string (cut60 s')] 28)
  have LB1_5 := LB1_4.alloc (.cells #[.int .i64 k', .int .i64 n', .float .f64 f', .string (cut60 s')] 28)
  have Lx_5 := Lx_4.alloc (.cells #[.int .i64 k', .int .i64 n', .float .f64 f', .string (cut60 s')] 28)
  have Ly_5 := lies_new w4 (.int .i64 k') (.int .i64 n') (.float .f64 f') (.string (cut60 s')) 28
  have ⟨_, _, _, _⟩ := LB0_5
  have ⟨_, _, _, _⟩ := LB1_5
  have ⟨_, _, _, _⟩ := Lx_5
  have ⟨_, _, _, _⟩ := Ly_5
  go_wp2_with fail
  refine (R1 _).mono ?_; rintro e w6 ⟨rfl, hb6⟩
  have c6 := Below.chain c5 hb6
  have LB0_6 := LB0_5.below hb6
  have LB1_6 := LB1_5.below hb6
  have Lx_6 := Lx_5.below hb6
  have Ly_6 := Ly_5.below hb6
  have ⟨_, _, _, _⟩ := LB0_6
  have ⟨_, _, _, _⟩ := LB1_6
  have ⟨_, _, _, _⟩ := Lx_6
  have ⟨_, _, _, _⟩ := Ly_6
  go_wp2_with fail
  go_ret
  exact ⟨rfl, c6⟩
set_option maxRecDepth 100000 in
set_option maxHeartbeats 1000000 in
theorem e2 (k n k' n' : Int) (f f' : Nat) (s s' : ByteArray) (R1 : ∀ w, Calls Tryz.prog 16 #[.agg #[.int .i64 k, .int .i64 n, .float .f64 f, .string (cut60 s)]] w fun e w' => e = .returned (.bool true) ∧ Below w.heap.size w w') (R2 : ∀ w, Calls Tryz.prog 16 #[.agg #[.int .i64 k', .int .i64 n', .float .f64 f', .string (cut60 s')]] w fun e w' => e = .returned (.bool false) ∧ Below w.heap.size w w') (w : World) (hT : Tabs w) :
    Calls Tryz.prog 12 #[.agg #[.int .i64 k, .int .i64 n, .int .u64 (f : Int), .string s], .agg #[.int .i64 k', .int .i64 n', .int .u64 (f' : Int), .string s']] w fun e w' => e = .returned (.bool true) ∧ Below w.heap.size w w' := by
  have hsf := run_store_float
  have c0 : Below w.heap.size w ((w.alloc (.cells #[.int .i64 k, .int .i64 n, .int .u64 (f : Int), .string s] 24)).alloc (.cells #[.int .i64 k', .int .i64 n', .int .u64 (f' : Int), .string s'] 24)) := ((Below.refl w.heap.size w).alloc (by simp) _).alloc (by simp <;> omega) _
  have LB0_0 : Lies ((w.alloc (.cells #[.int .i64 k, .int .i64 n, .int .u64 (f : Int), .string s] 24)).alloc (.cells #[.int .i64 k', .int .i64 n', .int .u64 (f' : Int), .string s'] 24)) (w.heap.size) (.int .i64 k) (.int .i64 n) (.int .u64 (f : Int)) (.string s) := (lies_at w (w.heap.size) (by simp) (.int .i64 k) (.int .i64 n) (.int .u64 (f : Int)) (.string s) 24).alloc _
  have LB1_0 : Lies ((w.alloc (.cells #[.int .i64 k, .int .i64 n, .int .u64 (f : Int), .string s] 24)).alloc (.cells #[.int .i64 k', .int .i64 n', .int .u64 (f' : Int), .string s'] 24)) (w.heap.size + 1) (.int .i64 k') (.int .i64 n') (.int .u64 (f' : Int)) (.string s') := lies_at (w.alloc (.cells #[.int .i64 k, .int .i64 n, .int .u64 (f : Int), .string s] 24)) (w.heap.size + 1) (by simp) (.int .i64 k') (.int .i64 n') (.int .u64 (f' : Int)) (.string s') 24
  go_enter Tryz.func12, Tryz.ntmps12
  go_wp2_with fail
  refine (shown_any _ (hT.below c0)).mono ?_; rintro e w1 ⟨rfl, hb1⟩
  have c1 := Below.chain c0 hb1
  have LB0_1 := LB0_0.below hb1
  have LB1_1 := LB1_0.below hb1
  have ⟨_, _, _, _⟩ := LB0_1
  have ⟨_, _, _, _⟩ := LB1_1
  go_wp2_with fail
  refine (of_any k n f s _).mono ?_; rintro e w2 ⟨rfl, hb2⟩
  have c2 := Below.chain c1 hb2
  have LB0_2 := LB0_1.below hb2
  have LB1_2 := LB1_1.below hb2
  have c3 := Below.chain c2 (below_a1 w2 (.cells #[.int .i64 k, .int .i64 n, .float .f64 f, .string (cut60 s)] 28))
  have LB0_3 := LB0_2.alloc (.cells #[.int .i64 k, .int .i64 n, .float .f64 f, .string (cut60 s)] 28)
  have LB1_3 := LB1_2.alloc (.cells #[.int .i64 k, .int .i64 n, .float .f64 f, .string (cut60 s)] 28)
  have Lx_3 := lies_new w2 (.int .i64 k) (.int .i64 n) (.float .f64 f) (.string (cut60 s)) 28
  have ⟨_, _, _, _⟩ := LB0_3
  have ⟨_, _, _, _⟩ := LB1_3
  have ⟨_, _, _, _⟩ := Lx_3
  go_wp2_with fail
  refine (of_any k' n' f' s' _).mono ?_; rintro e w4 ⟨rfl, hb4⟩
  have c4 := Below.chain c3 hb4
  have LB0_4 := LB0_3.below hb4
  have LB1_4 := LB1_3.below hb4
  have Lx_4 := Lx_3.below hb4
  have c5 := Below.chain c4 (below_a1 w4 (.cells #[.int .i64 k', .int .i64 n', .float .f64 f', .string (cut60 s')] 28))
  have LB0_5 := LB0_4.alloc (.cells #[.int .i64 k', .int .i64 n', .float .f64 f', .string (cut60 s')] 28)
  have LB1_5 := LB1_4.alloc (.cells #[.int .i64 k', .int .i64 n', .float .f64 f', .string (cut60 s')] 28)
  have Lx_5 := Lx_4.alloc (.cells #[.int .i64 k', .int .i64 n', .float .f64 f', .string (cut60 s')] 28)
  have Ly_5 := lies_new w4 (.int .i64 k') (.int .i64 n') (.float .f64 f') (.string (cut60 s')) 28
  have ⟨_, _, _, _⟩ := LB0_5
  have ⟨_, _, _, _⟩ := LB1_5
  have ⟨_, _, _, _⟩ := Lx_5
  have ⟨_, _, _, _⟩ := Ly_5
  go_wp2_with fail
  refine (R1 _).mono ?_; rintro e w6 ⟨rfl, hb6⟩
  have c6 := Below.chain c5 hb6
  have LB0_6 := LB0_5.below hb6
  have LB1_6 := LB1_5.below hb6
  have Lx_6 := Lx_5.below hb6
  have Ly_6 := Ly_5.below hb6
  have ⟨_, _, _, _⟩ := LB0_6
  have ⟨_, _, _, _⟩ := LB1_6
  have ⟨_, _, _, _⟩ := Lx_6
  have ⟨_, _, _, _⟩ := Ly_6
  go_wp2_with fail
  refine (R2 _).mono ?_; rintro e w7 ⟨rfl, hb7⟩
  have c7 := Below.chain c6 hb7
  have LB0_7 := LB0_6.below hb7
  have LB1_7 := LB1_6.below hb7
  have Lx_7 := Lx_6.below hb7
  have Ly_7 := Ly_6.below hb7
  have ⟨_, _, _, _⟩ := LB0_7
  have ⟨_, _, _, _⟩ := LB1_7
  have ⟨_, _, _, _⟩ := Lx_7
  have ⟨_, _, _, _⟩ := Ly_7
  go_wp2_with fail
  go_ret
  exact ⟨rfl, c7⟩
set_option maxRecDepth 100000 in
set_option maxHeartbeats 1000000 in
theorem e3 (k n k' n' : Int) (f f' : Nat) (s s' : ByteArray) (R1 : ∀ w, Calls Tryz.prog 16 #[.agg #[.int .i64 k, .int .i64 n, .float .f64 f, .string (cut60 s)]] w fun e w' => e = .returned (.bool true) ∧ Below w.heap.size w w') (R2 : ∀ w, Calls Tryz.prog 16 #[.agg #[.int .i64 k', .int .i64 n', .float .f64 f', .string (cut60 s')]] w fun e w' => e = .returned (.bool true) ∧ Below w.heap.size w w') (hk : (k != k') = true) (w : World) (hT : Tabs w) :
    Calls Tryz.prog 12 #[.agg #[.int .i64 k, .int .i64 n, .int .u64 (f : Int), .string s], .agg #[.int .i64 k', .int .i64 n', .int .u64 (f' : Int), .string s']] w fun e w' => e = .returned (.bool true) ∧ Below w.heap.size w w' := by
  have hsf := run_store_float
  have c0 : Below w.heap.size w ((w.alloc (.cells #[.int .i64 k, .int .i64 n, .int .u64 (f : Int), .string s] 24)).alloc (.cells #[.int .i64 k', .int .i64 n', .int .u64 (f' : Int), .string s'] 24)) := ((Below.refl w.heap.size w).alloc (by simp) _).alloc (by simp <;> omega) _
  have LB0_0 : Lies ((w.alloc (.cells #[.int .i64 k, .int .i64 n, .int .u64 (f : Int), .string s] 24)).alloc (.cells #[.int .i64 k', .int .i64 n', .int .u64 (f' : Int), .string s'] 24)) (w.heap.size) (.int .i64 k) (.int .i64 n) (.int .u64 (f : Int)) (.string s) := (lies_at w (w.heap.size) (by simp) (.int .i64 k) (.int .i64 n) (.int .u64 (f : Int)) (.string s) 24).alloc _
  have LB1_0 : Lies ((w.alloc (.cells #[.int .i64 k, .int .i64 n, .int .u64 (f : Int), .string s] 24)).alloc (.cells #[.int .i64 k', .int .i64 n', .int .u64 (f' : Int), .string s'] 24)) (w.heap.size + 1) (.int .i64 k') (.int .i64 n') (.int .u64 (f' : Int)) (.string s') := lies_at (w.alloc (.cells #[.int .i64 k, .int .i64 n, .int .u64 (f : Int), .string s] 24)) (w.heap.size + 1) (by simp) (.int .i64 k') (.int .i64 n') (.int .u64 (f' : Int)) (.string s') 24
  go_enter Tryz.func12, Tryz.ntmps12
  go_wp2_with fail
  refine (shown_any _ (hT.below c0)).mono ?_; rintro e w1 ⟨rfl, hb1⟩
  have c1 := Below.chain c0 hb1
  have LB0_1 := LB0_0.below hb1
  have LB1_1 := LB1_0.below hb1
  have ⟨_, _, _, _⟩ := LB0_1
  have ⟨_, _, _, _⟩ := LB1_1
  go_wp2_with fail
  refine (of_any k n f s _).mono ?_; rintro e w2 ⟨rfl, hb2⟩
  have c2 := Below.chain c1 hb2
  have LB0_2 := LB0_1.below hb2
  have LB1_2 := LB1_1.below hb2
  have c3 := Below.chain c2 (below_a1 w2 (.cells #[.int .i64 k, .int .i64 n, .float .f64 f, .string (cut60 s)] 28))
  have LB0_3 := LB0_2.alloc (.cells #[.int .i64 k, .int .i64 n, .float .f64 f, .string (cut60 s)] 28)
  have LB1_3 := LB1_2.alloc (.cells #[.int .i64 k, .int .i64 n, .float .f64 f, .string (cut60 s)] 28)
  have Lx_3 := lies_new w2 (.int .i64 k) (.int .i64 n) (.float .f64 f) (.string (cut60 s)) 28
  have ⟨_, _, _, _⟩ := LB0_3
  have ⟨_, _, _, _⟩ := LB1_3
  have ⟨_, _, _, _⟩ := Lx_3
  go_wp2_with fail
  refine (of_any k' n' f' s' _).mono ?_; rintro e w4 ⟨rfl, hb4⟩
  have c4 := Below.chain c3 hb4
  have LB0_4 := LB0_3.below hb4
  have LB1_4 := LB1_3.below hb4
  have Lx_4 := Lx_3.below hb4
  have c5 := Below.chain c4 (below_a1 w4 (.cells #[.int .i64 k', .int .i64 n', .float .f64 f', .string (cut60 s')] 28))
  have LB0_5 := LB0_4.alloc (.cells #[.int .i64 k', .int .i64 n', .float .f64 f', .string (cut60 s')] 28)
  have LB1_5 := LB1_4.alloc (.cells #[.int .i64 k', .int .i64 n', .float .f64 f', .string (cut60 s')] 28)
  have Lx_5 := Lx_4.alloc (.cells #[.int .i64 k', .int .i64 n', .float .f64 f', .string (cut60 s')] 28)
  have Ly_5 := lies_new w4 (.int .i64 k') (.int .i64 n') (.float .f64 f') (.string (cut60 s')) 28
  have ⟨_, _, _, _⟩ := LB0_5
  have ⟨_, _, _, _⟩ := LB1_5
  have ⟨_, _, _, _⟩ := Lx_5
  have ⟨_, _, _, _⟩ := Ly_5
  go_wp2_with fail
  refine (R1 _).mono ?_; rintro e w6 ⟨rfl, hb6⟩
  have c6 := Below.chain c5 hb6
  have LB0_6 := LB0_5.below hb6
  have LB1_6 := LB1_5.below hb6
  have Lx_6 := Lx_5.below hb6
  have Ly_6 := Ly_5.below hb6
  have ⟨_, _, _, _⟩ := LB0_6
  have ⟨_, _, _, _⟩ := LB1_6
  have ⟨_, _, _, _⟩ := Lx_6
  have ⟨_, _, _, _⟩ := Ly_6
  go_wp2_with fail
  refine (R2 _).mono ?_; rintro e w7 ⟨rfl, hb7⟩
  have c7 := Below.chain c6 hb7
  have LB0_7 := LB0_6.below hb7
  have LB1_7 := LB1_6.below hb7
  have Lx_7 := Lx_6.below hb7
  have Ly_7 := Ly_6.below hb7
  have ⟨_, _, _, _⟩ := LB0_7
  have ⟨_, _, _, _⟩ := LB1_7
  have ⟨_, _, _, _⟩ := Lx_7
  have ⟨_, _, _, _⟩ := Ly_7
  go_wp2_with fail
  go_ret
  exact ⟨rfl, c7⟩
set_option maxRecDepth 100000 in
set_option maxHeartbeats 1000000 in
theorem e4 (k n k' n' : Int) (f f' : Nat) (s s' : ByteArray) (R1 : ∀ w, Calls Tryz.prog 16 #[.agg #[.int .i64 k, .int .i64 n, .float .f64 f, .string (cut60 s)]] w fun e w' => e = .returned (.bool true) ∧ Below w.heap.size w w') (R2 : ∀ w, Calls Tryz.prog 16 #[.agg #[.int .i64 k', .int .i64 n', .float .f64 f', .string (cut60 s')]] w fun e w' => e = .returned (.bool true) ∧ Below w.heap.size w w') (hk : (k != k') = false) (h0 : (k == 0) = true) (w : World) (hT : Tabs w) :
    Calls Tryz.prog 12 #[.agg #[.int .i64 k, .int .i64 n, .int .u64 (f : Int), .string s], .agg #[.int .i64 k', .int .i64 n', .int .u64 (f' : Int), .string s']] w fun e w' => e = .returned (.bool true) ∧ Below w.heap.size w w' := by
  have hsf := run_store_float
  have c0 : Below w.heap.size w ((w.alloc (.cells #[.int .i64 k, .int .i64 n, .int .u64 (f : Int), .string s] 24)).alloc (.cells #[.int .i64 k', .int .i64 n', .int .u64 (f' : Int), .string s'] 24)) := ((Below.refl w.heap.size w).alloc (by simp) _).alloc (by simp <;> omega) _
  have LB0_0 : Lies ((w.alloc (.cells #[.int .i64 k, .int .i64 n, .int .u64 (f : Int), .string s] 24)).alloc (.cells #[.int .i64 k', .int .i64 n', .int .u64 (f' : Int), .string s'] 24)) (w.heap.size) (.int .i64 k) (.int .i64 n) (.int .u64 (f : Int)) (.string s) := (lies_at w (w.heap.size) (by simp) (.int .i64 k) (.int .i64 n) (.int .u64 (f : Int)) (.string s) 24).alloc _
  have LB1_0 : Lies ((w.alloc (.cells #[.int .i64 k, .int .i64 n, .int .u64 (f : Int), .string s] 24)).alloc (.cells #[.int .i64 k', .int .i64 n', .int .u64 (f' : Int), .string s'] 24)) (w.heap.size + 1) (.int .i64 k') (.int .i64 n') (.int .u64 (f' : Int)) (.string s') := lies_at (w.alloc (.cells #[.int .i64 k, .int .i64 n, .int .u64 (f : Int), .string s] 24)) (w.heap.size + 1) (by simp) (.int .i64 k') (.int .i64 n') (.int .u64 (f' : Int)) (.string s') 24
  go_enter Tryz.func12, Tryz.ntmps12
  go_wp2_with fail
  refine (shown_any _ (hT.below c0)).mono ?_; rintro e w1 ⟨rfl, hb1⟩
  have c1 := Below.chain c0 hb1
  have LB0_1 := LB0_0.below hb1
  have LB1_1 := LB1_0.below hb1
  have ⟨_, _, _, _⟩ := LB0_1
  have ⟨_, _, _, _⟩ := LB1_1
  go_wp2_with fail
  refine (of_any k n f s _).mono ?_; rintro e w2 ⟨rfl, hb2⟩
  have c2 := Below.chain c1 hb2
  have LB0_2 := LB0_1.below hb2
  have LB1_2 := LB1_1.below hb2
  have c3 := Below.chain c2 (below_a1 w2 (.cells #[.int .i64 k, .int .i64 n, .float .f64 f, .string (cut60 s)] 28))
  have LB0_3 := LB0_2.alloc (.cells #[.int .i64 k, .int .i64 n, .float .f64 f, .string (cut60 s)] 28)
  have LB1_3 := LB1_2.alloc (.cells #[.int .i64 k, .int .i64 n, .float .f64 f, .string (cut60 s)] 28)
  have Lx_3 := lies_new w2 (.int .i64 k) (.int .i64 n) (.float .f64 f) (.string (cut60 s)) 28
  have ⟨_, _, _, _⟩ := LB0_3
  have ⟨_, _, _, _⟩ := LB1_3
  have ⟨_, _, _, _⟩ := Lx_3
  go_wp2_with fail
  refine (of_any k' n' f' s' _).mono ?_; rintro e w4 ⟨rfl, hb4⟩
  have c4 := Below.chain c3 hb4
  have LB0_4 := LB0_3.below hb4
  have LB1_4 := LB1_3.below hb4
  have Lx_4 := Lx_3.below hb4
  have c5 := Below.chain c4 (below_a1 w4 (.cells #[.int .i64 k', .int .i64 n', .float .f64 f', .string (cut60 s')] 28))
  have LB0_5 := LB0_4.alloc (.cells #[.int .i64 k', .int .i64 n', .float .f64 f', .string (cut60 s')] 28)
  have LB1_5 := LB1_4.alloc (.cells #[.int .i64 k', .int .i64 n', .float .f64 f', .string (cut60 s')] 28)
  have Lx_5 := Lx_4.alloc (.cells #[.int .i64 k', .int .i64 n', .float .f64 f', .string (cut60 s')] 28)
  have Ly_5 := lies_new w4 (.int .i64 k') (.int .i64 n') (.float .f64 f') (.string (cut60 s')) 28
  have ⟨_, _, _, _⟩ := LB0_5
  have ⟨_, _, _, _⟩ := LB1_5
  have ⟨_, _, _, _⟩ := Lx_5
  have ⟨_, _, _, _⟩ := Ly_5
  go_wp2_with fail
  refine (R1 _).mono ?_; rintro e w6 ⟨rfl, hb6⟩
  have c6 := Below.chain c5 hb6
  have LB0_6 := LB0_5.below hb6
  have LB1_6 := LB1_5.below hb6
  have Lx_6 := Lx_5.below hb6
  have Ly_6 := Ly_5.below hb6
  have ⟨_, _, _, _⟩ := LB0_6
  have ⟨_, _, _, _⟩ := LB1_6
  have ⟨_, _, _, _⟩ := Lx_6
  have ⟨_, _, _, _⟩ := Ly_6
  go_wp2_with fail
  refine (R2 _).mono ?_; rintro e w7 ⟨rfl, hb7⟩
  have c7 := Below.chain c6 hb7
  have LB0_7 := LB0_6.below hb7
  have LB1_7 := LB1_6.below hb7
  have Lx_7 := Lx_6.below hb7
  have Ly_7 := Ly_6.below hb7
  have ⟨_, _, _, _⟩ := LB0_7
  have ⟨_, _, _, _⟩ := LB1_7
  have ⟨_, _, _, _⟩ := Lx_7
  have ⟨_, _, _, _⟩ := Ly_7
  go_wp2_with fail
  go_ret
  exact ⟨rfl, c7⟩
set_option maxRecDepth 100000 in
set_option maxHeartbeats 1000000 in
theorem e5 (k n k' n' : Int) (f f' : Nat) (s s' : ByteArray) (R1 : ∀ w, Calls Tryz.prog 16 #[.agg #[.int .i64 k, .int .i64 n, .float .f64 f, .string (cut60 s)]] w fun e w' => e = .returned (.bool true) ∧ Below w.heap.size w w') (R2 : ∀ w, Calls Tryz.prog 16 #[.agg #[.int .i64 k', .int .i64 n', .float .f64 f', .string (cut60 s')]] w fun e w' => e = .returned (.bool true) ∧ Below w.heap.size w w') (hk : (k != k') = false) (h0 : (k == 0) = false) (hN : (FloatKind.f64.format.order f f != some Ordering.eq) = true) (w : World) (hT : Tabs w) :
    Calls Tryz.prog 12 #[.agg #[.int .i64 k, .int .i64 n, .int .u64 (f : Int), .string s], .agg #[.int .i64 k', .int .i64 n', .int .u64 (f' : Int), .string s']] w fun e w' => e = .returned (.bool true) ∧ Below w.heap.size w w' := by
  have hsf := run_store_float
  have c0 : Below w.heap.size w ((w.alloc (.cells #[.int .i64 k, .int .i64 n, .int .u64 (f : Int), .string s] 24)).alloc (.cells #[.int .i64 k', .int .i64 n', .int .u64 (f' : Int), .string s'] 24)) := ((Below.refl w.heap.size w).alloc (by simp) _).alloc (by simp <;> omega) _
  have LB0_0 : Lies ((w.alloc (.cells #[.int .i64 k, .int .i64 n, .int .u64 (f : Int), .string s] 24)).alloc (.cells #[.int .i64 k', .int .i64 n', .int .u64 (f' : Int), .string s'] 24)) (w.heap.size) (.int .i64 k) (.int .i64 n) (.int .u64 (f : Int)) (.string s) := (lies_at w (w.heap.size) (by simp) (.int .i64 k) (.int .i64 n) (.int .u64 (f : Int)) (.string s) 24).alloc _
  have LB1_0 : Lies ((w.alloc (.cells #[.int .i64 k, .int .i64 n, .int .u64 (f : Int), .string s] 24)).alloc (.cells #[.int .i64 k', .int .i64 n', .int .u64 (f' : Int), .string s'] 24)) (w.heap.size + 1) (.int .i64 k') (.int .i64 n') (.int .u64 (f' : Int)) (.string s') := lies_at (w.alloc (.cells #[.int .i64 k, .int .i64 n, .int .u64 (f : Int), .string s] 24)) (w.heap.size + 1) (by simp) (.int .i64 k') (.int .i64 n') (.int .u64 (f' : Int)) (.string s') 24
  go_enter Tryz.func12, Tryz.ntmps12
  go_wp2_with fail
  refine (shown_any _ (hT.below c0)).mono ?_; rintro e w1 ⟨rfl, hb1⟩
  have c1 := Below.chain c0 hb1
  have LB0_1 := LB0_0.below hb1
  have LB1_1 := LB1_0.below hb1
  have ⟨_, _, _, _⟩ := LB0_1
  have ⟨_, _, _, _⟩ := LB1_1
  go_wp2_with fail
  refine (of_any k n f s _).mono ?_; rintro e w2 ⟨rfl, hb2⟩
  have c2 := Below.chain c1 hb2
  have LB0_2 := LB0_1.below hb2
  have LB1_2 := LB1_1.below hb2
  have c3 := Below.chain c2 (below_a1 w2 (.cells #[.int .i64 k, .int .i64 n, .float .f64 f, .string (cut60 s)] 28))
  have LB0_3 := LB0_2.alloc (.cells #[.int .i64 k, .int .i64 n, .float .f64 f, .string (cut60 s)] 28)
  have LB1_3 := LB1_2.alloc (.cells #[.int .i64 k, .int .i64 n, .float .f64 f, .string (cut60 s)] 28)
  have Lx_3 := lies_new w2 (.int .i64 k) (.int .i64 n) (.float .f64 f) (.string (cut60 s)) 28
  have ⟨_, _, _, _⟩ := LB0_3
  have ⟨_, _, _, _⟩ := LB1_3
  have ⟨_, _, _, _⟩ := Lx_3
  go_wp2_with fail
  refine (of_any k' n' f' s' _).mono ?_; rintro e w4 ⟨rfl, hb4⟩
  have c4 := Below.chain c3 hb4
  have LB0_4 := LB0_3.below hb4
  have LB1_4 := LB1_3.below hb4
  have Lx_4 := Lx_3.below hb4
  have c5 := Below.chain c4 (below_a1 w4 (.cells #[.int .i64 k', .int .i64 n', .float .f64 f', .string (cut60 s')] 28))
  have LB0_5 := LB0_4.alloc (.cells #[.int .i64 k', .int .i64 n', .float .f64 f', .string (cut60 s')] 28)
  have LB1_5 := LB1_4.alloc (.cells #[.int .i64 k', .int .i64 n', .float .f64 f', .string (cut60 s')] 28)
  have Lx_5 := Lx_4.alloc (.cells #[.int .i64 k', .int .i64 n', .float .f64 f', .string (cut60 s')] 28)
  have Ly_5 := lies_new w4 (.int .i64 k') (.int .i64 n') (.float .f64 f') (.string (cut60 s')) 28
  have ⟨_, _, _, _⟩ := LB0_5
  have ⟨_, _, _, _⟩ := LB1_5
  have ⟨_, _, _, _⟩ := Lx_5
  have ⟨_, _, _, _⟩ := Ly_5
  go_wp2_with fail
  refine (R1 _).mono ?_; rintro e w6 ⟨rfl, hb6⟩
  have c6 := Below.chain c5 hb6
  have LB0_6 := LB0_5.below hb6
  have LB1_6 := LB1_5.below hb6
  have Lx_6 := Lx_5.below hb6
  have Ly_6 := Ly_5.below hb6
  have ⟨_, _, _, _⟩ := LB0_6
  have ⟨_, _, _, _⟩ := LB1_6
  have ⟨_, _, _, _⟩ := Lx_6
  have ⟨_, _, _, _⟩ := Ly_6
  go_wp2_with fail
  refine (R2 _).mono ?_; rintro e w7 ⟨rfl, hb7⟩
  have c7 := Below.chain c6 hb7
  have LB0_7 := LB0_6.below hb7
  have LB1_7 := LB1_6.below hb7
  have Lx_7 := Lx_6.below hb7
  have Ly_7 := Ly_6.below hb7
  have ⟨_, _, _, _⟩ := LB0_7
  have ⟨_, _, _, _⟩ := LB1_7
  have ⟨_, _, _, _⟩ := Lx_7
  have ⟨_, _, _, _⟩ := Ly_7
  go_wp2_with fail
  go_ret
  exact ⟨rfl, c7⟩
set_option maxRecDepth 100000 in
set_option maxHeartbeats 1000000 in
theorem e6 (k n k' n' : Int) (f f' : Nat) (s s' : ByteArray) (R1 : ∀ w, Calls Tryz.prog 16 #[.agg #[.int .i64 k, .int .i64 n, .float .f64 f, .string (cut60 s)]] w fun e w' => e = .returned (.bool true) ∧ Below w.heap.size w w') (R2 : ∀ w, Calls Tryz.prog 16 #[.agg #[.int .i64 k', .int .i64 n', .float .f64 f', .string (cut60 s')]] w fun e w' => e = .returned (.bool true) ∧ Below w.heap.size w w') (hk : (k != k') = false) (h0 : (k == 0) = false) (hN : (FloatKind.f64.format.order f f != some Ordering.eq) = false) (hN' : (FloatKind.f64.format.order f' f' != some Ordering.eq) = true) (w : World) (hT : Tabs w) :
    Calls Tryz.prog 12 #[.agg #[.int .i64 k, .int .i64 n, .int .u64 (f : Int), .string s], .agg #[.int .i64 k', .int .i64 n', .int .u64 (f' : Int), .string s']] w fun e w' => e = .returned (.bool true) ∧ Below w.heap.size w w' := by
  have hsf := run_store_float
  have c0 : Below w.heap.size w ((w.alloc (.cells #[.int .i64 k, .int .i64 n, .int .u64 (f : Int), .string s] 24)).alloc (.cells #[.int .i64 k', .int .i64 n', .int .u64 (f' : Int), .string s'] 24)) := ((Below.refl w.heap.size w).alloc (by simp) _).alloc (by simp <;> omega) _
  have LB0_0 : Lies ((w.alloc (.cells #[.int .i64 k, .int .i64 n, .int .u64 (f : Int), .string s] 24)).alloc (.cells #[.int .i64 k', .int .i64 n', .int .u64 (f' : Int), .string s'] 24)) (w.heap.size) (.int .i64 k) (.int .i64 n) (.int .u64 (f : Int)) (.string s) := (lies_at w (w.heap.size) (by simp) (.int .i64 k) (.int .i64 n) (.int .u64 (f : Int)) (.string s) 24).alloc _
  have LB1_0 : Lies ((w.alloc (.cells #[.int .i64 k, .int .i64 n, .int .u64 (f : Int), .string s] 24)).alloc (.cells #[.int .i64 k', .int .i64 n', .int .u64 (f' : Int), .string s'] 24)) (w.heap.size + 1) (.int .i64 k') (.int .i64 n') (.int .u64 (f' : Int)) (.string s') := lies_at (w.alloc (.cells #[.int .i64 k, .int .i64 n, .int .u64 (f : Int), .string s] 24)) (w.heap.size + 1) (by simp) (.int .i64 k') (.int .i64 n') (.int .u64 (f' : Int)) (.string s') 24
  go_enter Tryz.func12, Tryz.ntmps12
  go_wp2_with fail
  refine (shown_any _ (hT.below c0)).mono ?_; rintro e w1 ⟨rfl, hb1⟩
  have c1 := Below.chain c0 hb1
  have LB0_1 := LB0_0.below hb1
  have LB1_1 := LB1_0.below hb1
  have ⟨_, _, _, _⟩ := LB0_1
  have ⟨_, _, _, _⟩ := LB1_1
  go_wp2_with fail
  refine (of_any k n f s _).mono ?_; rintro e w2 ⟨rfl, hb2⟩
  have c2 := Below.chain c1 hb2
  have LB0_2 := LB0_1.below hb2
  have LB1_2 := LB1_1.below hb2
  have c3 := Below.chain c2 (below_a1 w2 (.cells #[.int .i64 k, .int .i64 n, .float .f64 f, .string (cut60 s)] 28))
  have LB0_3 := LB0_2.alloc (.cells #[.int .i64 k, .int .i64 n, .float .f64 f, .string (cut60 s)] 28)
  have LB1_3 := LB1_2.alloc (.cells #[.int .i64 k, .int .i64 n, .float .f64 f, .string (cut60 s)] 28)
  have Lx_3 := lies_new w2 (.int .i64 k) (.int .i64 n) (.float .f64 f) (.string (cut60 s)) 28
  have ⟨_, _, _, _⟩ := LB0_3
  have ⟨_, _, _, _⟩ := LB1_3
  have ⟨_, _, _, _⟩ := Lx_3
  go_wp2_with fail
  refine (of_any k' n' f' s' _).mono ?_; rintro e w4 ⟨rfl, hb4⟩
  have c4 := Below.chain c3 hb4
  have LB0_4 := LB0_3.below hb4
  have LB1_4 := LB1_3.below hb4
  have Lx_4 := Lx_3.below hb4
  have c5 := Below.chain c4 (below_a1 w4 (.cells #[.int .i64 k', .int .i64 n', .float .f64 f', .string (cut60 s')] 28))
  have LB0_5 := LB0_4.alloc (.cells #[.int .i64 k', .int .i64 n', .float .f64 f', .string (cut60 s')] 28)
  have LB1_5 := LB1_4.alloc (.cells #[.int .i64 k', .int .i64 n', .float .f64 f', .string (cut60 s')] 28)
  have Lx_5 := Lx_4.alloc (.cells #[.int .i64 k', .int .i64 n', .float .f64 f', .string (cut60 s')] 28)
  have Ly_5 := lies_new w4 (.int .i64 k') (.int .i64 n') (.float .f64 f') (.string (cut60 s')) 28
  have ⟨_, _, _, _⟩ := LB0_5
  have ⟨_, _, _, _⟩ := LB1_5
  have ⟨_, _, _, _⟩ := Lx_5
  have ⟨_, _, _, _⟩ := Ly_5
  go_wp2_with fail
  refine (R1 _).mono ?_; rintro e w6 ⟨rfl, hb6⟩
  have c6 := Below.chain c5 hb6
  have LB0_6 := LB0_5.below hb6
  have LB1_6 := LB1_5.below hb6
  have Lx_6 := Lx_5.below hb6
  have Ly_6 := Ly_5.below hb6
  have ⟨_, _, _, _⟩ := LB0_6
  have ⟨_, _, _, _⟩ := LB1_6
  have ⟨_, _, _, _⟩ := Lx_6
  have ⟨_, _, _, _⟩ := Ly_6
  go_wp2_with fail
  refine (R2 _).mono ?_; rintro e w7 ⟨rfl, hb7⟩
  have c7 := Below.chain c6 hb7
  have LB0_7 := LB0_6.below hb7
  have LB1_7 := LB1_6.below hb7
  have Lx_7 := Lx_6.below hb7
  have Ly_7 := Ly_6.below hb7
  have ⟨_, _, _, _⟩ := LB0_7
  have ⟨_, _, _, _⟩ := LB1_7
  have ⟨_, _, _, _⟩ := Lx_7
  have ⟨_, _, _, _⟩ := Ly_7
  go_wp2_with fail
  go_ret
  exact ⟨rfl, c7⟩
set_option maxRecDepth 100000 in
set_option maxHeartbeats 1000000 in
theorem mA00 (k n k' n' : Int) (f f' : Nat) (s s' : ByteArray) (R1 : ∀ w, Calls Tryz.prog 16 #[.agg #[.int .i64 k, .int .i64 n, .float .f64 f, .string (cut60 s)]] w fun e w' => e = .returned (.bool true) ∧ Below w.heap.size w w') (R2 : ∀ w, Calls Tryz.prog 16 #[.agg #[.int .i64 k', .int .i64 n', .float .f64 f', .string (cut60 s')]] w fun e w' => e = .returned (.bool true) ∧ Below w.heap.size w w') (hk : (k != k') = false) (h0 : (k == 0) = false) (hN : (FloatKind.f64.format.order f f != some Ordering.eq) = false) (hN' : (FloatKind.f64.format.order f' f' != some Ordering.eq) = false) (hc : (k == 3) = false) (T1 : ∀ w, Calls Tryz.prog 23 #[.string ⟨#[61]⟩, .agg #[.int .i64 k, .int .i64 n, .float .f64 f, .string (cut60 s)], .agg #[.int .i64 k', .int .i64 n', .float .f64 f', .string (cut60 s')]] w fun e w' => e = .returned (.tuple #[.agg #[.int .i64 1, .int .i64 0, .float .f64 0, .string ⟨#[]⟩], .int .i64 0]) ∧ Below w.heap.size w w') (T2 : ∀ w, Calls Tryz.prog 23 #[.string ⟨#[60]⟩, .agg #[.int .i64 k, .int .i64 n, .float .f64 f, .string (cut60 s)], .agg #[.int .i64 k', .int .i64 n', .float .f64 f', .string (cut60 s')]] w fun e w' => e = .returned (.tuple #[.agg #[.int .i64 1, .int .i64 0, .float .f64 0, .string ⟨#[]⟩], .int .i64 0]) ∧ Below w.heap.size w w') (S1 : ∀ w, Calls Tryz.prog 18 #[.agg #[.int .i64 k, .int .i64 n, .float .f64 f, .string (cut60 s)], .agg #[.int .i64 k', .int .i64 n', .float .f64 f', .string (cut60 s')]] w fun e w' => e = .returned (.bool false) ∧ Below w.heap.size w w') (L1 : ∀ w, Calls Tryz.prog 20 #[.agg #[.int .i64 k, .int .i64 n, .float .f64 f, .string (cut60 s)], .agg #[.int .i64 k', .int .i64 n', .float .f64 f', .string (cut60 s')]] w fun e w' => e = .returned (.bool false) ∧ Below w.heap.size w w') (R3 : ∀ w, Calls Tryz.prog 17 #[.agg #[.int .i64 1, .int .i64 0, .float .f64 0, .string ⟨#[]⟩]] w fun e w' => e = .returned (.bool true) ∧ Below w.heap.size w w') (w : World) (hT : Tabs w) :
    Calls Tryz.prog 12 #[.agg #[.int .i64 k, .int .i64 n, .int .u64 (f : Int), .string s], .agg #[.int .i64 k', .int .i64 n', .int .u64 (f' : Int), .string s']] w fun e w' => e = .returned (.bool true) ∧ Below w.heap.size w w' := by
  have hsf := run_store_float
  have c0 : Below w.heap.size w ((w.alloc (.cells #[.int .i64 k, .int .i64 n, .int .u64 (f : Int), .string s] 24)).alloc (.cells #[.int .i64 k', .int .i64 n', .int .u64 (f' : Int), .string s'] 24)) := ((Below.refl w.heap.size w).alloc (by simp) _).alloc (by simp <;> omega) _
  have LB0_0 : Lies ((w.alloc (.cells #[.int .i64 k, .int .i64 n, .int .u64 (f : Int), .string s] 24)).alloc (.cells #[.int .i64 k', .int .i64 n', .int .u64 (f' : Int), .string s'] 24)) (w.heap.size) (.int .i64 k) (.int .i64 n) (.int .u64 (f : Int)) (.string s) := (lies_at w (w.heap.size) (by simp) (.int .i64 k) (.int .i64 n) (.int .u64 (f : Int)) (.string s) 24).alloc _
  have LB1_0 : Lies ((w.alloc (.cells #[.int .i64 k, .int .i64 n, .int .u64 (f : Int), .string s] 24)).alloc (.cells #[.int .i64 k', .int .i64 n', .int .u64 (f' : Int), .string s'] 24)) (w.heap.size + 1) (.int .i64 k') (.int .i64 n') (.int .u64 (f' : Int)) (.string s') := lies_at (w.alloc (.cells #[.int .i64 k, .int .i64 n, .int .u64 (f : Int), .string s] 24)) (w.heap.size + 1) (by simp) (.int .i64 k') (.int .i64 n') (.int .u64 (f' : Int)) (.string s') 24
  go_enter Tryz.func12, Tryz.ntmps12
  go_wp2_with fail
  refine (shown_any _ (hT.below c0)).mono ?_; rintro e w1 ⟨rfl, hb1⟩
  have c1 := Below.chain c0 hb1
  have LB0_1 := LB0_0.below hb1
  have LB1_1 := LB1_0.below hb1
  have ⟨_, _, _, _⟩ := LB0_1
  have ⟨_, _, _, _⟩ := LB1_1
  go_wp2_with fail
  refine (of_any k n f s _).mono ?_; rintro e w2 ⟨rfl, hb2⟩
  have c2 := Below.chain c1 hb2
  have LB0_2 := LB0_1.below hb2
  have LB1_2 := LB1_1.below hb2
  have c3 := Below.chain c2 (below_a1 w2 (.cells #[.int .i64 k, .int .i64 n, .float .f64 f, .string (cut60 s)] 28))
  have LB0_3 := LB0_2.alloc (.cells #[.int .i64 k, .int .i64 n, .float .f64 f, .string (cut60 s)] 28)
  have LB1_3 := LB1_2.alloc (.cells #[.int .i64 k, .int .i64 n, .float .f64 f, .string (cut60 s)] 28)
  have Lx_3 := lies_new w2 (.int .i64 k) (.int .i64 n) (.float .f64 f) (.string (cut60 s)) 28
  have ⟨_, _, _, _⟩ := LB0_3
  have ⟨_, _, _, _⟩ := LB1_3
  have ⟨_, _, _, _⟩ := Lx_3
  go_wp2_with fail
  refine (of_any k' n' f' s' _).mono ?_; rintro e w4 ⟨rfl, hb4⟩
  have c4 := Below.chain c3 hb4
  have LB0_4 := LB0_3.below hb4
  have LB1_4 := LB1_3.below hb4
  have Lx_4 := Lx_3.below hb4
  have c5 := Below.chain c4 (below_a1 w4 (.cells #[.int .i64 k', .int .i64 n', .float .f64 f', .string (cut60 s')] 28))
  have LB0_5 := LB0_4.alloc (.cells #[.int .i64 k', .int .i64 n', .float .f64 f', .string (cut60 s')] 28)
  have LB1_5 := LB1_4.alloc (.cells #[.int .i64 k', .int .i64 n', .float .f64 f', .string (cut60 s')] 28)
  have Lx_5 := Lx_4.alloc (.cells #[.int .i64 k', .int .i64 n', .float .f64 f', .string (cut60 s')] 28)
  have Ly_5 := lies_new w4 (.int .i64 k') (.int .i64 n') (.float .f64 f') (.string (cut60 s')) 28
  have ⟨_, _, _, _⟩ := LB0_5
  have ⟨_, _, _, _⟩ := LB1_5
  have ⟨_, _, _, _⟩ := Lx_5
  have ⟨_, _, _, _⟩ := Ly_5
  go_wp2_with fail
  refine (R1 _).mono ?_; rintro e w6 ⟨rfl, hb6⟩
  have c6 := Below.chain c5 hb6
  have LB0_6 := LB0_5.below hb6
  have LB1_6 := LB1_5.below hb6
  have Lx_6 := Lx_5.below hb6
  have Ly_6 := Ly_5.below hb6
  have ⟨_, _, _, _⟩ := LB0_6
  have ⟨_, _, _, _⟩ := LB1_6
  have ⟨_, _, _, _⟩ := Lx_6
  have ⟨_, _, _, _⟩ := Ly_6
  go_wp2_with fail
  refine (R2 _).mono ?_; rintro e w7 ⟨rfl, hb7⟩
  have c7 := Below.chain c6 hb7
  have LB0_7 := LB0_6.below hb7
  have LB1_7 := LB1_6.below hb7
  have Lx_7 := Lx_6.below hb7
  have Ly_7 := Ly_6.below hb7
  have ⟨_, _, _, _⟩ := LB0_7
  have ⟨_, _, _, _⟩ := LB1_7
  have ⟨_, _, _, _⟩ := Lx_7
  have ⟨_, _, _, _⟩ := Ly_7
  go_wp2_with fail
  refine (T1 _).mono ?_; rintro e w8 ⟨rfl, hb8⟩
  have c8 := Below.chain c7 hb8
  have LB0_8 := LB0_7.below hb8
  have LB1_8 := LB1_7.below hb8
  have Lx_8 := Lx_7.below hb8
  have Ly_8 := Ly_7.below hb8
  have c9 := Below.chain c8 (below_a1 w8 (.cells #[.int .i64 1, .int .i64 0, .float .f64 0, .string ⟨#[]⟩] 28))
  have LB0_9 := LB0_8.alloc (.cells #[.int .i64 1, .int .i64 0, .float .f64 0, .string ⟨#[]⟩] 28)
  have LB1_9 := LB1_8.alloc (.cells #[.int .i64 1, .int .i64 0, .float .f64 0, .string ⟨#[]⟩] 28)
  have Lx_9 := Lx_8.alloc (.cells #[.int .i64 1, .int .i64 0, .float .f64 0, .string ⟨#[]⟩] 28)
  have Ly_9 := Ly_8.alloc (.cells #[.int .i64 1, .int .i64 0, .float .f64 0, .string ⟨#[]⟩] 28)
  have Lp_9 := lies_new w8 (.int .i64 1) (.int .i64 0) (.float .f64 0) (.string ⟨#[]⟩) 28
  have ⟨_, _, _, _⟩ := LB0_9
  have ⟨_, _, _, _⟩ := LB1_9
  have ⟨_, _, _, _⟩ := Lx_9
  have ⟨_, _, _, _⟩ := Ly_9
  have ⟨_, _, _, _⟩ := Lp_9
  go_wp2_with fail
  refine (T2 _).mono ?_; rintro e w10 ⟨rfl, hb10⟩
  have c10 := Below.chain c9 hb10
  have LB0_10 := LB0_9.below hb10
  have LB1_10 := LB1_9.below hb10
  have Lx_10 := Lx_9.below hb10
  have Ly_10 := Ly_9.below hb10
  have Lp_10 := Lp_9.below hb10
  have c11 := Below.chain c10 (below_a1 w10 (.cells #[.int .i64 1, .int .i64 0, .float .f64 0, .string ⟨#[]⟩] 28))
  have LB0_11 := LB0_10.alloc (.cells #[.int .i64 1, .int .i64 0, .float .f64 0, .string ⟨#[]⟩] 28)
  have LB1_11 := LB1_10.alloc (.cells #[.int .i64 1, .int .i64 0, .float .f64 0, .string ⟨#[]⟩] 28)
  have Lx_11 := Lx_10.alloc (.cells #[.int .i64 1, .int .i64 0, .float .f64 0, .string ⟨#[]⟩] 28)
  have Ly_11 := Ly_10.alloc (.cells #[.int .i64 1, .int .i64 0, .float .f64 0, .string ⟨#[]⟩] 28)
  have Lp_11 := Lp_10.alloc (.cells #[.int .i64 1, .int .i64 0, .float .f64 0, .string ⟨#[]⟩] 28)
  have Lq_11 := lies_new w10 (.int .i64 1) (.int .i64 0) (.float .f64 0) (.string ⟨#[]⟩) 28
  have ⟨_, _, _, _⟩ := LB0_11
  have ⟨_, _, _, _⟩ := LB1_11
  have ⟨_, _, _, _⟩ := Lx_11
  have ⟨_, _, _, _⟩ := Ly_11
  have ⟨_, _, _, _⟩ := Lp_11
  have ⟨_, _, _, _⟩ := Lq_11
  go_wp2_with fail
  have lx := later_lies Lx_11
  have ly := later_lies Ly_11
  have lp := later_lies Lp_11
  have lq := later_lies Lq_11
  refine wp_region_later (by kernel_rfl) (by kernel_rfl) ?_
  repeat (go_big_quiet_step (first | with_reducible exact later_call (S1 _) | with_reducible exact later_call (L1 _) | with_reducible exact later_call (R3 _)))
  refine wpQuiet_nil ?_
  rintro w' ⟨x, rfl⟩
  go_wp2_with fail
  go_ret
  exact ⟨rfl, Below.chain c11 x.kept⟩
set_option maxRecDepth 100000 in
set_option maxHeartbeats 1000000 in
theorem mA01 (k n k' n' : Int) (f f' : Nat) (s s' : ByteArray) (R1 : ∀ w, Calls Tryz.prog 16 #[.agg #[.int .i64 k, .int .i64 n, .float .f64 f, .string (cut60 s)]] w fun e w' => e = .returned (.bool true) ∧ Below w.heap.size w w') (R2 : ∀ w, Calls Tryz.prog 16 #[.agg #[.int .i64 k', .int .i64 n', .float .f64 f', .string (cut60 s')]] w fun e w' => e = .returned (.bool true) ∧ Below w.heap.size w w') (hk : (k != k') = false) (h0 : (k == 0) = false) (hN : (FloatKind.f64.format.order f f != some Ordering.eq) = false) (hN' : (FloatKind.f64.format.order f' f' != some Ordering.eq) = false) (hc : (k == 3) = false) (T1 : ∀ w, Calls Tryz.prog 23 #[.string ⟨#[61]⟩, .agg #[.int .i64 k, .int .i64 n, .float .f64 f, .string (cut60 s)], .agg #[.int .i64 k', .int .i64 n', .float .f64 f', .string (cut60 s')]] w fun e w' => e = .returned (.tuple #[.agg #[.int .i64 1, .int .i64 0, .float .f64 0, .string ⟨#[]⟩], .int .i64 0]) ∧ Below w.heap.size w w') (T2 : ∀ w, Calls Tryz.prog 23 #[.string ⟨#[60]⟩, .agg #[.int .i64 k, .int .i64 n, .float .f64 f, .string (cut60 s)], .agg #[.int .i64 k', .int .i64 n', .float .f64 f', .string (cut60 s')]] w fun e w' => e = .returned (.tuple #[.agg #[.int .i64 1, .int .i64 1, .float .f64 0, .string ⟨#[]⟩], .int .i64 0]) ∧ Below w.heap.size w w') (S1 : ∀ w, Calls Tryz.prog 18 #[.agg #[.int .i64 k, .int .i64 n, .float .f64 f, .string (cut60 s)], .agg #[.int .i64 k', .int .i64 n', .float .f64 f', .string (cut60 s')]] w fun e w' => e = .returned (.bool false) ∧ Below w.heap.size w w') (L1 : ∀ w, Calls Tryz.prog 20 #[.agg #[.int .i64 k, .int .i64 n, .float .f64 f, .string (cut60 s)], .agg #[.int .i64 k', .int .i64 n', .float .f64 f', .string (cut60 s')]] w fun e w' => e = .returned (.bool true) ∧ Below w.heap.size w w') (R3 : ∀ w, Calls Tryz.prog 17 #[.agg #[.int .i64 1, .int .i64 0, .float .f64 0, .string ⟨#[]⟩]] w fun e w' => e = .returned (.bool true) ∧ Below w.heap.size w w') (w : World) (hT : Tabs w) :
    Calls Tryz.prog 12 #[.agg #[.int .i64 k, .int .i64 n, .int .u64 (f : Int), .string s], .agg #[.int .i64 k', .int .i64 n', .int .u64 (f' : Int), .string s']] w fun e w' => e = .returned (.bool true) ∧ Below w.heap.size w w' := by
  have hsf := run_store_float
  have c0 : Below w.heap.size w ((w.alloc (.cells #[.int .i64 k, .int .i64 n, .int .u64 (f : Int), .string s] 24)).alloc (.cells #[.int .i64 k', .int .i64 n', .int .u64 (f' : Int), .string s'] 24)) := ((Below.refl w.heap.size w).alloc (by simp) _).alloc (by simp <;> omega) _
  have LB0_0 : Lies ((w.alloc (.cells #[.int .i64 k, .int .i64 n, .int .u64 (f : Int), .string s] 24)).alloc (.cells #[.int .i64 k', .int .i64 n', .int .u64 (f' : Int), .string s'] 24)) (w.heap.size) (.int .i64 k) (.int .i64 n) (.int .u64 (f : Int)) (.string s) := (lies_at w (w.heap.size) (by simp) (.int .i64 k) (.int .i64 n) (.int .u64 (f : Int)) (.string s) 24).alloc _
  have LB1_0 : Lies ((w.alloc (.cells #[.int .i64 k, .int .i64 n, .int .u64 (f : Int), .string s] 24)).alloc (.cells #[.int .i64 k', .int .i64 n', .int .u64 (f' : Int), .string s'] 24)) (w.heap.size + 1) (.int .i64 k') (.int .i64 n') (.int .u64 (f' : Int)) (.string s') := lies_at (w.alloc (.cells #[.int .i64 k, .int .i64 n, .int .u64 (f : Int), .string s] 24)) (w.heap.size + 1) (by simp) (.int .i64 k') (.int .i64 n') (.int .u64 (f' : Int)) (.string s') 24
  go_enter Tryz.func12, Tryz.ntmps12
  go_wp2_with fail
  refine (shown_any _ (hT.below c0)).mono ?_; rintro e w1 ⟨rfl, hb1⟩
  have c1 := Below.chain c0 hb1
  have LB0_1 := LB0_0.below hb1
  have LB1_1 := LB1_0.below hb1
  have ⟨_, _, _, _⟩ := LB0_1
  have ⟨_, _, _, _⟩ := LB1_1
  go_wp2_with fail
  refine (of_any k n f s _).mono ?_; rintro e w2 ⟨rfl, hb2⟩
  have c2 := Below.chain c1 hb2
  have LB0_2 := LB0_1.below hb2
  have LB1_2 := LB1_1.below hb2
  have c3 := Below.chain c2 (below_a1 w2 (.cells #[.int .i64 k, .int .i64 n, .float .f64 f, .string (cut60 s)] 28))
  have LB0_3 := LB0_2.alloc (.cells #[.int .i64 k, .int .i64 n, .float .f64 f, .string (cut60 s)] 28)
  have LB1_3 := LB1_2.alloc (.cells #[.int .i64 k, .int .i64 n, .float .f64 f, .string (cut60 s)] 28)
  have Lx_3 := lies_new w2 (.int .i64 k) (.int .i64 n) (.float .f64 f) (.string (cut60 s)) 28
  have ⟨_, _, _, _⟩ := LB0_3
  have ⟨_, _, _, _⟩ := LB1_3
  have ⟨_, _, _, _⟩ := Lx_3
  go_wp2_with fail
  refine (of_any k' n' f' s' _).mono ?_; rintro e w4 ⟨rfl, hb4⟩
  have c4 := Below.chain c3 hb4
  have LB0_4 := LB0_3.below hb4
  have LB1_4 := LB1_3.below hb4
  have Lx_4 := Lx_3.below hb4
  have c5 := Below.chain c4 (below_a1 w4 (.cells #[.int .i64 k', .int .i64 n', .float .f64 f', .string (cut60 s')] 28))
  have LB0_5 := LB0_4.alloc (.cells #[.int .i64 k', .int .i64 n', .float .f64 f', .string (cut60 s')] 28)
  have LB1_5 := LB1_4.alloc (.cells #[.int .i64 k', .int .i64 n', .float .f64 f', .string (cut60 s')] 28)
  have Lx_5 := Lx_4.alloc (.cells #[.int .i64 k', .int .i64 n', .float .f64 f', .string (cut60 s')] 28)
  have Ly_5 := lies_new w4 (.int .i64 k') (.int .i64 n') (.float .f64 f') (.string (cut60 s')) 28
  have ⟨_, _, _, _⟩ := LB0_5
  have ⟨_, _, _, _⟩ := LB1_5
  have ⟨_, _, _, _⟩ := Lx_5
  have ⟨_, _, _, _⟩ := Ly_5
  go_wp2_with fail
  refine (R1 _).mono ?_; rintro e w6 ⟨rfl, hb6⟩
  have c6 := Below.chain c5 hb6
  have LB0_6 := LB0_5.below hb6
  have LB1_6 := LB1_5.below hb6
  have Lx_6 := Lx_5.below hb6
  have Ly_6 := Ly_5.below hb6
  have ⟨_, _, _, _⟩ := LB0_6
  have ⟨_, _, _, _⟩ := LB1_6
  have ⟨_, _, _, _⟩ := Lx_6
  have ⟨_, _, _, _⟩ := Ly_6
  go_wp2_with fail
  refine (R2 _).mono ?_; rintro e w7 ⟨rfl, hb7⟩
  have c7 := Below.chain c6 hb7
  have LB0_7 := LB0_6.below hb7
  have LB1_7 := LB1_6.below hb7
  have Lx_7 := Lx_6.below hb7
  have Ly_7 := Ly_6.below hb7
  have ⟨_, _, _, _⟩ := LB0_7
  have ⟨_, _, _, _⟩ := LB1_7
  have ⟨_, _, _, _⟩ := Lx_7
  have ⟨_, _, _, _⟩ := Ly_7
  go_wp2_with fail
  refine (T1 _).mono ?_; rintro e w8 ⟨rfl, hb8⟩
  have c8 := Below.chain c7 hb8
  have LB0_8 := LB0_7.below hb8
  have LB1_8 := LB1_7.below hb8
  have Lx_8 := Lx_7.below hb8
  have Ly_8 := Ly_7.below hb8
  have c9 := Below.chain c8 (below_a1 w8 (.cells #[.int .i64 1, .int .i64 0, .float .f64 0, .string ⟨#[]⟩] 28))
  have LB0_9 := LB0_8.alloc (.cells #[.int .i64 1, .int .i64 0, .float .f64 0, .string ⟨#[]⟩] 28)
  have LB1_9 := LB1_8.alloc (.cells #[.int .i64 1, .int .i64 0, .float .f64 0, .string ⟨#[]⟩] 28)
  have Lx_9 := Lx_8.alloc (.cells #[.int .i64 1, .int .i64 0, .float .f64 0, .string ⟨#[]⟩] 28)
  have Ly_9 := Ly_8.alloc (.cells #[.int .i64 1, .int .i64 0, .float .f64 0, .string ⟨#[]⟩] 28)
  have Lp_9 := lies_new w8 (.int .i64 1) (.int .i64 0) (.float .f64 0) (.string ⟨#[]⟩) 28
  have ⟨_, _, _, _⟩ := LB0_9
  have ⟨_, _, _, _⟩ := LB1_9
  have ⟨_, _, _, _⟩ := Lx_9
  have ⟨_, _, _, _⟩ := Ly_9
  have ⟨_, _, _, _⟩ := Lp_9
  go_wp2_with fail
  refine (T2 _).mono ?_; rintro e w10 ⟨rfl, hb10⟩
  have c10 := Below.chain c9 hb10
  have LB0_10 := LB0_9.below hb10
  have LB1_10 := LB1_9.below hb10
  have Lx_10 := Lx_9.below hb10
  have Ly_10 := Ly_9.below hb10
  have Lp_10 := Lp_9.below hb10
  have c11 := Below.chain c10 (below_a1 w10 (.cells #[.int .i64 1, .int .i64 1, .float .f64 0, .string ⟨#[]⟩] 28))
  have LB0_11 := LB0_10.alloc (.cells #[.int .i64 1, .int .i64 1, .float .f64 0, .string ⟨#[]⟩] 28)
  have LB1_11 := LB1_10.alloc (.cells #[.int .i64 1, .int .i64 1, .float .f64 0, .string ⟨#[]⟩] 28)
  have Lx_11 := Lx_10.alloc (.cells #[.int .i64 1, .int .i64 1, .float .f64 0, .string ⟨#[]⟩] 28)
  have Ly_11 := Ly_10.alloc (.cells #[.int .i64 1, .int .i64 1, .float .f64 0, .string ⟨#[]⟩] 28)
  have Lp_11 := Lp_10.alloc (.cells #[.int .i64 1, .int .i64 1, .float .f64 0, .string ⟨#[]⟩] 28)
  have Lq_11 := lies_new w10 (.int .i64 1) (.int .i64 1) (.float .f64 0) (.string ⟨#[]⟩) 28
  have ⟨_, _, _, _⟩ := LB0_11
  have ⟨_, _, _, _⟩ := LB1_11
  have ⟨_, _, _, _⟩ := Lx_11
  have ⟨_, _, _, _⟩ := Ly_11
  have ⟨_, _, _, _⟩ := Lp_11
  have ⟨_, _, _, _⟩ := Lq_11
  go_wp2_with fail
  have lx := later_lies Lx_11
  have ly := later_lies Ly_11
  have lp := later_lies Lp_11
  have lq := later_lies Lq_11
  refine wp_region_later (by kernel_rfl) (by kernel_rfl) ?_
  repeat (go_big_quiet_step (first | with_reducible exact later_call (S1 _) | with_reducible exact later_call (L1 _) | with_reducible exact later_call (R3 _)))
  refine wpQuiet_nil ?_
  rintro w' ⟨x, rfl⟩
  go_wp2_with fail
  go_ret
  exact ⟨rfl, Below.chain c11 x.kept⟩
set_option maxRecDepth 100000 in
set_option maxHeartbeats 1000000 in
theorem mA10 (k n k' n' : Int) (f f' : Nat) (s s' : ByteArray) (R1 : ∀ w, Calls Tryz.prog 16 #[.agg #[.int .i64 k, .int .i64 n, .float .f64 f, .string (cut60 s)]] w fun e w' => e = .returned (.bool true) ∧ Below w.heap.size w w') (R2 : ∀ w, Calls Tryz.prog 16 #[.agg #[.int .i64 k', .int .i64 n', .float .f64 f', .string (cut60 s')]] w fun e w' => e = .returned (.bool true) ∧ Below w.heap.size w w') (hk : (k != k') = false) (h0 : (k == 0) = false) (hN : (FloatKind.f64.format.order f f != some Ordering.eq) = false) (hN' : (FloatKind.f64.format.order f' f' != some Ordering.eq) = false) (hc : (k == 3) = false) (T1 : ∀ w, Calls Tryz.prog 23 #[.string ⟨#[61]⟩, .agg #[.int .i64 k, .int .i64 n, .float .f64 f, .string (cut60 s)], .agg #[.int .i64 k', .int .i64 n', .float .f64 f', .string (cut60 s')]] w fun e w' => e = .returned (.tuple #[.agg #[.int .i64 1, .int .i64 1, .float .f64 0, .string ⟨#[]⟩], .int .i64 0]) ∧ Below w.heap.size w w') (T2 : ∀ w, Calls Tryz.prog 23 #[.string ⟨#[60]⟩, .agg #[.int .i64 k, .int .i64 n, .float .f64 f, .string (cut60 s)], .agg #[.int .i64 k', .int .i64 n', .float .f64 f', .string (cut60 s')]] w fun e w' => e = .returned (.tuple #[.agg #[.int .i64 1, .int .i64 0, .float .f64 0, .string ⟨#[]⟩], .int .i64 0]) ∧ Below w.heap.size w w') (S1 : ∀ w, Calls Tryz.prog 18 #[.agg #[.int .i64 k, .int .i64 n, .float .f64 f, .string (cut60 s)], .agg #[.int .i64 k', .int .i64 n', .float .f64 f', .string (cut60 s')]] w fun e w' => e = .returned (.bool true) ∧ Below w.heap.size w w') (L1 : ∀ w, Calls Tryz.prog 20 #[.agg #[.int .i64 k, .int .i64 n, .float .f64 f, .string (cut60 s)], .agg #[.int .i64 k', .int .i64 n', .float .f64 f', .string (cut60 s')]] w fun e w' => e = .returned (.bool false) ∧ Below w.heap.size w w') (R3 : ∀ w, Calls Tryz.prog 17 #[.agg #[.int .i64 1, .int .i64 1, .float .f64 0, .string ⟨#[]⟩]] w fun e w' => e = .returned (.bool true) ∧ Below w.heap.size w w') (w : World) (hT : Tabs w) :
    Calls Tryz.prog 12 #[.agg #[.int .i64 k, .int .i64 n, .int .u64 (f : Int), .string s], .agg #[.int .i64 k', .int .i64 n', .int .u64 (f' : Int), .string s']] w fun e w' => e = .returned (.bool true) ∧ Below w.heap.size w w' := by
  have hsf := run_store_float
  have c0 : Below w.heap.size w ((w.alloc (.cells #[.int .i64 k, .int .i64 n, .int .u64 (f : Int), .string s] 24)).alloc (.cells #[.int .i64 k', .int .i64 n', .int .u64 (f' : Int), .string s'] 24)) := ((Below.refl w.heap.size w).alloc (by simp) _).alloc (by simp <;> omega) _
  have LB0_0 : Lies ((w.alloc (.cells #[.int .i64 k, .int .i64 n, .int .u64 (f : Int), .string s] 24)).alloc (.cells #[.int .i64 k', .int .i64 n', .int .u64 (f' : Int), .string s'] 24)) (w.heap.size) (.int .i64 k) (.int .i64 n) (.int .u64 (f : Int)) (.string s) := (lies_at w (w.heap.size) (by simp) (.int .i64 k) (.int .i64 n) (.int .u64 (f : Int)) (.string s) 24).alloc _
  have LB1_0 : Lies ((w.alloc (.cells #[.int .i64 k, .int .i64 n, .int .u64 (f : Int), .string s] 24)).alloc (.cells #[.int .i64 k', .int .i64 n', .int .u64 (f' : Int), .string s'] 24)) (w.heap.size + 1) (.int .i64 k') (.int .i64 n') (.int .u64 (f' : Int)) (.string s') := lies_at (w.alloc (.cells #[.int .i64 k, .int .i64 n, .int .u64 (f : Int), .string s] 24)) (w.heap.size + 1) (by simp) (.int .i64 k') (.int .i64 n') (.int .u64 (f' : Int)) (.string s') 24
  go_enter Tryz.func12, Tryz.ntmps12
  go_wp2_with fail
  refine (shown_any _ (hT.below c0)).mono ?_; rintro e w1 ⟨rfl, hb1⟩
  have c1 := Below.chain c0 hb1
  have LB0_1 := LB0_0.below hb1
  have LB1_1 := LB1_0.below hb1
  have ⟨_, _, _, _⟩ := LB0_1
  have ⟨_, _, _, _⟩ := LB1_1
  go_wp2_with fail
  refine (of_any k n f s _).mono ?_; rintro e w2 ⟨rfl, hb2⟩
  have c2 := Below.chain c1 hb2
  have LB0_2 := LB0_1.below hb2
  have LB1_2 := LB1_1.below hb2
  have c3 := Below.chain c2 (below_a1 w2 (.cells #[.int .i64 k, .int .i64 n, .float .f64 f, .string (cut60 s)] 28))
  have LB0_3 := LB0_2.alloc (.cells #[.int .i64 k, .int .i64 n, .float .f64 f, .string (cut60 s)] 28)
  have LB1_3 := LB1_2.alloc (.cells #[.int .i64 k, .int .i64 n, .float .f64 f, .string (cut60 s)] 28)
  have Lx_3 := lies_new w2 (.int .i64 k) (.int .i64 n) (.float .f64 f) (.string (cut60 s)) 28
  have ⟨_, _, _, _⟩ := LB0_3
  have ⟨_, _, _, _⟩ := LB1_3
  have ⟨_, _, _, _⟩ := Lx_3
  go_wp2_with fail
  refine (of_any k' n' f' s' _).mono ?_; rintro e w4 ⟨rfl, hb4⟩
  have c4 := Below.chain c3 hb4
  have LB0_4 := LB0_3.below hb4
  have LB1_4 := LB1_3.below hb4
  have Lx_4 := Lx_3.below hb4
  have c5 := Below.chain c4 (below_a1 w4 (.cells #[.int .i64 k', .int .i64 n', .float .f64 f', .string (cut60 s')] 28))
  have LB0_5 := LB0_4.alloc (.cells #[.int .i64 k', .int .i64 n', .float .f64 f', .string (cut60 s')] 28)
  have LB1_5 := LB1_4.alloc (.cells #[.int .i64 k', .int .i64 n', .float .f64 f', .string (cut60 s')] 28)
  have Lx_5 := Lx_4.alloc (.cells #[.int .i64 k', .int .i64 n', .float .f64 f', .string (cut60 s')] 28)
  have Ly_5 := lies_new w4 (.int .i64 k') (.int .i64 n') (.float .f64 f') (.string (cut60 s')) 28
  have ⟨_, _, _, _⟩ := LB0_5
  have ⟨_, _, _, _⟩ := LB1_5
  have ⟨_, _, _, _⟩ := Lx_5
  have ⟨_, _, _, _⟩ := Ly_5
  go_wp2_with fail
  refine (R1 _).mono ?_; rintro e w6 ⟨rfl, hb6⟩
  have c6 := Below.chain c5 hb6
  have LB0_6 := LB0_5.below hb6
  have LB1_6 := LB1_5.below hb6
  have Lx_6 := Lx_5.below hb6
  have Ly_6 := Ly_5.below hb6
  have ⟨_, _, _, _⟩ := LB0_6
  have ⟨_, _, _, _⟩ := LB1_6
  have ⟨_, _, _, _⟩ := Lx_6
  have ⟨_, _, _, _⟩ := Ly_6
  go_wp2_with fail
  refine (R2 _).mono ?_; rintro e w7 ⟨rfl, hb7⟩
  have c7 := Below.chain c6 hb7
  have LB0_7 := LB0_6.below hb7
  have LB1_7 := LB1_6.below hb7
  have Lx_7 := Lx_6.below hb7
  have Ly_7 := Ly_6.below hb7
  have ⟨_, _, _, _⟩ := LB0_7
  have ⟨_, _, _, _⟩ := LB1_7
  have ⟨_, _, _, _⟩ := Lx_7
  have ⟨_, _, _, _⟩ := Ly_7
  go_wp2_with fail
  refine (T1 _).mono ?_; rintro e w8 ⟨rfl, hb8⟩
  have c8 := Below.chain c7 hb8
  have LB0_8 := LB0_7.below hb8
  have LB1_8 := LB1_7.below hb8
  have Lx_8 := Lx_7.below hb8
  have Ly_8 := Ly_7.below hb8
  have c9 := Below.chain c8 (below_a1 w8 (.cells #[.int .i64 1, .int .i64 1, .float .f64 0, .string ⟨#[]⟩] 28))
  have LB0_9 := LB0_8.alloc (.cells #[.int .i64 1, .int .i64 1, .float .f64 0, .string ⟨#[]⟩] 28)
  have LB1_9 := LB1_8.alloc (.cells #[.int .i64 1, .int .i64 1, .float .f64 0, .string ⟨#[]⟩] 28)
  have Lx_9 := Lx_8.alloc (.cells #[.int .i64 1, .int .i64 1, .float .f64 0, .string ⟨#[]⟩] 28)
  have Ly_9 := Ly_8.alloc (.cells #[.int .i64 1, .int .i64 1, .float .f64 0, .string ⟨#[]⟩] 28)
  have Lp_9 := lies_new w8 (.int .i64 1) (.int .i64 1) (.float .f64 0) (.string ⟨#[]⟩) 28
  have ⟨_, _, _, _⟩ := LB0_9
  have ⟨_, _, _, _⟩ := LB1_9
  have ⟨_, _, _, _⟩ := Lx_9
  have ⟨_, _, _, _⟩ := Ly_9
  have ⟨_, _, _, _⟩ := Lp_9
  go_wp2_with fail
  refine (T2 _).mono ?_; rintro e w10 ⟨rfl, hb10⟩
  have c10 := Below.chain c9 hb10
  have LB0_10 := LB0_9.below hb10
  have LB1_10 := LB1_9.below hb10
  have Lx_10 := Lx_9.below hb10
  have Ly_10 := Ly_9.below hb10
  have Lp_10 := Lp_9.below hb10
  have c11 := Below.chain c10 (below_a1 w10 (.cells #[.int .i64 1, .int .i64 0, .float .f64 0, .string ⟨#[]⟩] 28))
  have LB0_11 := LB0_10.alloc (.cells #[.int .i64 1, .int .i64 0, .float .f64 0, .string ⟨#[]⟩] 28)
  have LB1_11 := LB1_10.alloc (.cells #[.int .i64 1, .int .i64 0, .float .f64 0, .string ⟨#[]⟩] 28)
  have Lx_11 := Lx_10.alloc (.cells #[.int .i64 1, .int .i64 0, .float .f64 0, .string ⟨#[]⟩] 28)
  have Ly_11 := Ly_10.alloc (.cells #[.int .i64 1, .int .i64 0, .float .f64 0, .string ⟨#[]⟩] 28)
  have Lp_11 := Lp_10.alloc (.cells #[.int .i64 1, .int .i64 0, .float .f64 0, .string ⟨#[]⟩] 28)
  have Lq_11 := lies_new w10 (.int .i64 1) (.int .i64 0) (.float .f64 0) (.string ⟨#[]⟩) 28
  have ⟨_, _, _, _⟩ := LB0_11
  have ⟨_, _, _, _⟩ := LB1_11
  have ⟨_, _, _, _⟩ := Lx_11
  have ⟨_, _, _, _⟩ := Ly_11
  have ⟨_, _, _, _⟩ := Lp_11
  have ⟨_, _, _, _⟩ := Lq_11
  go_wp2_with fail
  have lx := later_lies Lx_11
  have ly := later_lies Ly_11
  have lp := later_lies Lp_11
  have lq := later_lies Lq_11
  refine wp_region_later (by kernel_rfl) (by kernel_rfl) ?_
  repeat (go_big_quiet_step (first | with_reducible exact later_call (S1 _) | with_reducible exact later_call (L1 _) | with_reducible exact later_call (R3 _)))
  refine wpQuiet_nil ?_
  rintro w' ⟨x, rfl⟩
  go_wp2_with fail
  go_ret
  exact ⟨rfl, Below.chain c11 x.kept⟩
set_option maxRecDepth 100000 in
set_option maxHeartbeats 1000000 in
theorem mB00 (k n k' n' : Int) (f f' : Nat) (s s' : ByteArray) (R1 : ∀ w, Calls Tryz.prog 16 #[.agg #[.int .i64 k, .int .i64 n, .float .f64 f, .string (cut60 s)]] w fun e w' => e = .returned (.bool true) ∧ Below w.heap.size w w') (R2 : ∀ w, Calls Tryz.prog 16 #[.agg #[.int .i64 k', .int .i64 n', .float .f64 f', .string (cut60 s')]] w fun e w' => e = .returned (.bool true) ∧ Below w.heap.size w w') (hk : (k != k') = false) (h0 : (k == 0) = false) (hN : (FloatKind.f64.format.order f f != some Ordering.eq) = false) (hN' : (FloatKind.f64.format.order f' f' != some Ordering.eq) = false) (hc : (k == 3) = true) (hu : (FloatKind.f64.format.order f 0 == some Ordering.eq) = false) (T1 : ∀ w, Calls Tryz.prog 23 #[.string ⟨#[61]⟩, .agg #[.int .i64 k, .int .i64 n, .float .f64 f, .string (cut60 s)], .agg #[.int .i64 k', .int .i64 n', .float .f64 f', .string (cut60 s')]] w fun e w' => e = .returned (.tuple #[.agg #[.int .i64 1, .int .i64 0, .float .f64 0, .string ⟨#[]⟩], .int .i64 0]) ∧ Below w.heap.size w w') (T2 : ∀ w, Calls Tryz.prog 23 #[.string ⟨#[60]⟩, .agg #[.int .i64 k, .int .i64 n, .float .f64 f, .string (cut60 s)], .agg #[.int .i64 k', .int .i64 n', .float .f64 f', .string (cut60 s')]] w fun e w' => e = .returned (.tuple #[.agg #[.int .i64 1, .int .i64 0, .float .f64 0, .string ⟨#[]⟩], .int .i64 0]) ∧ Below w.heap.size w w') (S1 : ∀ w, Calls Tryz.prog 18 #[.agg #[.int .i64 k, .int .i64 n, .float .f64 f, .string (cut60 s)], .agg #[.int .i64 k', .int .i64 n', .float .f64 f', .string (cut60 s')]] w fun e w' => e = .returned (.bool false) ∧ Below w.heap.size w w') (L1 : ∀ w, Calls Tryz.prog 20 #[.agg #[.int .i64 k, .int .i64 n, .float .f64 f, .string (cut60 s)], .agg #[.int .i64 k', .int .i64 n', .float .f64 f', .string (cut60 s')]] w fun e w' => e = .returned (.bool false) ∧ Below w.heap.size w w') (R3 : ∀ w, Calls Tryz.prog 17 #[.agg #[.int .i64 1, .int .i64 0, .float .f64 0, .string ⟨#[]⟩]] w fun e w' => e = .returned (.bool true) ∧ Below w.heap.size w w') (w : World) (hT : Tabs w) :
    Calls Tryz.prog 12 #[.agg #[.int .i64 k, .int .i64 n, .int .u64 (f : Int), .string s], .agg #[.int .i64 k', .int .i64 n', .int .u64 (f' : Int), .string s']] w fun e w' => e = .returned (.bool true) ∧ Below w.heap.size w w' := by
  have hsf := run_store_float
  have c0 : Below w.heap.size w ((w.alloc (.cells #[.int .i64 k, .int .i64 n, .int .u64 (f : Int), .string s] 24)).alloc (.cells #[.int .i64 k', .int .i64 n', .int .u64 (f' : Int), .string s'] 24)) := ((Below.refl w.heap.size w).alloc (by simp) _).alloc (by simp <;> omega) _
  have LB0_0 : Lies ((w.alloc (.cells #[.int .i64 k, .int .i64 n, .int .u64 (f : Int), .string s] 24)).alloc (.cells #[.int .i64 k', .int .i64 n', .int .u64 (f' : Int), .string s'] 24)) (w.heap.size) (.int .i64 k) (.int .i64 n) (.int .u64 (f : Int)) (.string s) := (lies_at w (w.heap.size) (by simp) (.int .i64 k) (.int .i64 n) (.int .u64 (f : Int)) (.string s) 24).alloc _
  have LB1_0 : Lies ((w.alloc (.cells #[.int .i64 k, .int .i64 n, .int .u64 (f : Int), .string s] 24)).alloc (.cells #[.int .i64 k', .int .i64 n', .int .u64 (f' : Int), .string s'] 24)) (w.heap.size + 1) (.int .i64 k') (.int .i64 n') (.int .u64 (f' : Int)) (.string s') := lies_at (w.alloc (.cells #[.int .i64 k, .int .i64 n, .int .u64 (f : Int), .string s] 24)) (w.heap.size + 1) (by simp) (.int .i64 k') (.int .i64 n') (.int .u64 (f' : Int)) (.string s') 24
  go_enter Tryz.func12, Tryz.ntmps12
  go_wp2_with fail
  refine (shown_any _ (hT.below c0)).mono ?_; rintro e w1 ⟨rfl, hb1⟩
  have c1 := Below.chain c0 hb1
  have LB0_1 := LB0_0.below hb1
  have LB1_1 := LB1_0.below hb1
  have ⟨_, _, _, _⟩ := LB0_1
  have ⟨_, _, _, _⟩ := LB1_1
  go_wp2_with fail
  refine (of_any k n f s _).mono ?_; rintro e w2 ⟨rfl, hb2⟩
  have c2 := Below.chain c1 hb2
  have LB0_2 := LB0_1.below hb2
  have LB1_2 := LB1_1.below hb2
  have c3 := Below.chain c2 (below_a1 w2 (.cells #[.int .i64 k, .int .i64 n, .float .f64 f, .string (cut60 s)] 28))
  have LB0_3 := LB0_2.alloc (.cells #[.int .i64 k, .int .i64 n, .float .f64 f, .string (cut60 s)] 28)
  have LB1_3 := LB1_2.alloc (.cells #[.int .i64 k, .int .i64 n, .float .f64 f, .string (cut60 s)] 28)
  have Lx_3 := lies_new w2 (.int .i64 k) (.int .i64 n) (.float .f64 f) (.string (cut60 s)) 28
  have ⟨_, _, _, _⟩ := LB0_3
  have ⟨_, _, _, _⟩ := LB1_3
  have ⟨_, _, _, _⟩ := Lx_3
  go_wp2_with fail
  refine (of_any k' n' f' s' _).mono ?_; rintro e w4 ⟨rfl, hb4⟩
  have c4 := Below.chain c3 hb4
  have LB0_4 := LB0_3.below hb4
  have LB1_4 := LB1_3.below hb4
  have Lx_4 := Lx_3.below hb4
  have c5 := Below.chain c4 (below_a1 w4 (.cells #[.int .i64 k', .int .i64 n', .float .f64 f', .string (cut60 s')] 28))
  have LB0_5 := LB0_4.alloc (.cells #[.int .i64 k', .int .i64 n', .float .f64 f', .string (cut60 s')] 28)
  have LB1_5 := LB1_4.alloc (.cells #[.int .i64 k', .int .i64 n', .float .f64 f', .string (cut60 s')] 28)
  have Lx_5 := Lx_4.alloc (.cells #[.int .i64 k', .int .i64 n', .float .f64 f', .string (cut60 s')] 28)
  have Ly_5 := lies_new w4 (.int .i64 k') (.int .i64 n') (.float .f64 f') (.string (cut60 s')) 28
  have ⟨_, _, _, _⟩ := LB0_5
  have ⟨_, _, _, _⟩ := LB1_5
  have ⟨_, _, _, _⟩ := Lx_5
  have ⟨_, _, _, _⟩ := Ly_5
  go_wp2_with fail
  refine (R1 _).mono ?_; rintro e w6 ⟨rfl, hb6⟩
  have c6 := Below.chain c5 hb6
  have LB0_6 := LB0_5.below hb6
  have LB1_6 := LB1_5.below hb6
  have Lx_6 := Lx_5.below hb6
  have Ly_6 := Ly_5.below hb6
  have ⟨_, _, _, _⟩ := LB0_6
  have ⟨_, _, _, _⟩ := LB1_6
  have ⟨_, _, _, _⟩ := Lx_6
  have ⟨_, _, _, _⟩ := Ly_6
  go_wp2_with fail
  refine (R2 _).mono ?_; rintro e w7 ⟨rfl, hb7⟩
  have c7 := Below.chain c6 hb7
  have LB0_7 := LB0_6.below hb7
  have LB1_7 := LB1_6.below hb7
  have Lx_7 := Lx_6.below hb7
  have Ly_7 := Ly_6.below hb7
  have ⟨_, _, _, _⟩ := LB0_7
  have ⟨_, _, _, _⟩ := LB1_7
  have ⟨_, _, _, _⟩ := Lx_7
  have ⟨_, _, _, _⟩ := Ly_7
  go_wp2_with fail
  refine (T1 _).mono ?_; rintro e w8 ⟨rfl, hb8⟩
  have c8 := Below.chain c7 hb8
  have LB0_8 := LB0_7.below hb8
  have LB1_8 := LB1_7.below hb8
  have Lx_8 := Lx_7.below hb8
  have Ly_8 := Ly_7.below hb8
  have c9 := Below.chain c8 (below_a1 w8 (.cells #[.int .i64 1, .int .i64 0, .float .f64 0, .string ⟨#[]⟩] 28))
  have LB0_9 := LB0_8.alloc (.cells #[.int .i64 1, .int .i64 0, .float .f64 0, .string ⟨#[]⟩] 28)
  have LB1_9 := LB1_8.alloc (.cells #[.int .i64 1, .int .i64 0, .float .f64 0, .string ⟨#[]⟩] 28)
  have Lx_9 := Lx_8.alloc (.cells #[.int .i64 1, .int .i64 0, .float .f64 0, .string ⟨#[]⟩] 28)
  have Ly_9 := Ly_8.alloc (.cells #[.int .i64 1, .int .i64 0, .float .f64 0, .string ⟨#[]⟩] 28)
  have Lp_9 := lies_new w8 (.int .i64 1) (.int .i64 0) (.float .f64 0) (.string ⟨#[]⟩) 28
  have ⟨_, _, _, _⟩ := LB0_9
  have ⟨_, _, _, _⟩ := LB1_9
  have ⟨_, _, _, _⟩ := Lx_9
  have ⟨_, _, _, _⟩ := Ly_9
  have ⟨_, _, _, _⟩ := Lp_9
  go_wp2_with fail
  refine (T2 _).mono ?_; rintro e w10 ⟨rfl, hb10⟩
  have c10 := Below.chain c9 hb10
  have LB0_10 := LB0_9.below hb10
  have LB1_10 := LB1_9.below hb10
  have Lx_10 := Lx_9.below hb10
  have Ly_10 := Ly_9.below hb10
  have Lp_10 := Lp_9.below hb10
  have c11 := Below.chain c10 (below_a1 w10 (.cells #[.int .i64 1, .int .i64 0, .float .f64 0, .string ⟨#[]⟩] 28))
  have LB0_11 := LB0_10.alloc (.cells #[.int .i64 1, .int .i64 0, .float .f64 0, .string ⟨#[]⟩] 28)
  have LB1_11 := LB1_10.alloc (.cells #[.int .i64 1, .int .i64 0, .float .f64 0, .string ⟨#[]⟩] 28)
  have Lx_11 := Lx_10.alloc (.cells #[.int .i64 1, .int .i64 0, .float .f64 0, .string ⟨#[]⟩] 28)
  have Ly_11 := Ly_10.alloc (.cells #[.int .i64 1, .int .i64 0, .float .f64 0, .string ⟨#[]⟩] 28)
  have Lp_11 := Lp_10.alloc (.cells #[.int .i64 1, .int .i64 0, .float .f64 0, .string ⟨#[]⟩] 28)
  have Lq_11 := lies_new w10 (.int .i64 1) (.int .i64 0) (.float .f64 0) (.string ⟨#[]⟩) 28
  have ⟨_, _, _, _⟩ := LB0_11
  have ⟨_, _, _, _⟩ := LB1_11
  have ⟨_, _, _, _⟩ := Lx_11
  have ⟨_, _, _, _⟩ := Ly_11
  have ⟨_, _, _, _⟩ := Lp_11
  have ⟨_, _, _, _⟩ := Lq_11
  go_wp2_with fail
  have lx := later_lies Lx_11
  have ly := later_lies Ly_11
  have lp := later_lies Lp_11
  have lq := later_lies Lq_11
  refine wp_region_later (by kernel_rfl) (by kernel_rfl) ?_
  repeat (go_big_quiet_step (first | with_reducible exact later_call (S1 _) | with_reducible exact later_call (L1 _) | with_reducible exact later_call (R3 _)))
  refine wpQuiet_nil ?_
  rintro w' ⟨x, rfl⟩
  go_wp2_with fail
  go_ret
  exact ⟨rfl, Below.chain c11 x.kept⟩
set_option maxRecDepth 100000 in
set_option maxHeartbeats 1000000 in
theorem mB01 (k n k' n' : Int) (f f' : Nat) (s s' : ByteArray) (R1 : ∀ w, Calls Tryz.prog 16 #[.agg #[.int .i64 k, .int .i64 n, .float .f64 f, .string (cut60 s)]] w fun e w' => e = .returned (.bool true) ∧ Below w.heap.size w w') (R2 : ∀ w, Calls Tryz.prog 16 #[.agg #[.int .i64 k', .int .i64 n', .float .f64 f', .string (cut60 s')]] w fun e w' => e = .returned (.bool true) ∧ Below w.heap.size w w') (hk : (k != k') = false) (h0 : (k == 0) = false) (hN : (FloatKind.f64.format.order f f != some Ordering.eq) = false) (hN' : (FloatKind.f64.format.order f' f' != some Ordering.eq) = false) (hc : (k == 3) = true) (hu : (FloatKind.f64.format.order f 0 == some Ordering.eq) = false) (T1 : ∀ w, Calls Tryz.prog 23 #[.string ⟨#[61]⟩, .agg #[.int .i64 k, .int .i64 n, .float .f64 f, .string (cut60 s)], .agg #[.int .i64 k', .int .i64 n', .float .f64 f', .string (cut60 s')]] w fun e w' => e = .returned (.tuple #[.agg #[.int .i64 1, .int .i64 0, .float .f64 0, .string ⟨#[]⟩], .int .i64 0]) ∧ Below w.heap.size w w') (T2 : ∀ w, Calls Tryz.prog 23 #[.string ⟨#[60]⟩, .agg #[.int .i64 k, .int .i64 n, .float .f64 f, .string (cut60 s)], .agg #[.int .i64 k', .int .i64 n', .float .f64 f', .string (cut60 s')]] w fun e w' => e = .returned (.tuple #[.agg #[.int .i64 1, .int .i64 1, .float .f64 0, .string ⟨#[]⟩], .int .i64 0]) ∧ Below w.heap.size w w') (S1 : ∀ w, Calls Tryz.prog 18 #[.agg #[.int .i64 k, .int .i64 n, .float .f64 f, .string (cut60 s)], .agg #[.int .i64 k', .int .i64 n', .float .f64 f', .string (cut60 s')]] w fun e w' => e = .returned (.bool false) ∧ Below w.heap.size w w') (L1 : ∀ w, Calls Tryz.prog 20 #[.agg #[.int .i64 k, .int .i64 n, .float .f64 f, .string (cut60 s)], .agg #[.int .i64 k', .int .i64 n', .float .f64 f', .string (cut60 s')]] w fun e w' => e = .returned (.bool true) ∧ Below w.heap.size w w') (R3 : ∀ w, Calls Tryz.prog 17 #[.agg #[.int .i64 1, .int .i64 0, .float .f64 0, .string ⟨#[]⟩]] w fun e w' => e = .returned (.bool true) ∧ Below w.heap.size w w') (w : World) (hT : Tabs w) :
    Calls Tryz.prog 12 #[.agg #[.int .i64 k, .int .i64 n, .int .u64 (f : Int), .string s], .agg #[.int .i64 k', .int .i64 n', .int .u64 (f' : Int), .string s']] w fun e w' => e = .returned (.bool true) ∧ Below w.heap.size w w' := by
  have hsf := run_store_float
  have c0 : Below w.heap.size w ((w.alloc (.cells #[.int .i64 k, .int .i64 n, .int .u64 (f : Int), .string s] 24)).alloc (.cells #[.int .i64 k', .int .i64 n', .int .u64 (f' : Int), .string s'] 24)) := ((Below.refl w.heap.size w).alloc (by simp) _).alloc (by simp <;> omega) _
  have LB0_0 : Lies ((w.alloc (.cells #[.int .i64 k, .int .i64 n, .int .u64 (f : Int), .string s] 24)).alloc (.cells #[.int .i64 k', .int .i64 n', .int .u64 (f' : Int), .string s'] 24)) (w.heap.size) (.int .i64 k) (.int .i64 n) (.int .u64 (f : Int)) (.string s) := (lies_at w (w.heap.size) (by simp) (.int .i64 k) (.int .i64 n) (.int .u64 (f : Int)) (.string s) 24).alloc _
  have LB1_0 : Lies ((w.alloc (.cells #[.int .i64 k, .int .i64 n, .int .u64 (f : Int), .string s] 24)).alloc (.cells #[.int .i64 k', .int .i64 n', .int .u64 (f' : Int), .string s'] 24)) (w.heap.size + 1) (.int .i64 k') (.int .i64 n') (.int .u64 (f' : Int)) (.string s') := lies_at (w.alloc (.cells #[.int .i64 k, .int .i64 n, .int .u64 (f : Int), .string s] 24)) (w.heap.size + 1) (by simp) (.int .i64 k') (.int .i64 n') (.int .u64 (f' : Int)) (.string s') 24
  go_enter Tryz.func12, Tryz.ntmps12
  go_wp2_with fail
  refine (shown_any _ (hT.below c0)).mono ?_; rintro e w1 ⟨rfl, hb1⟩
  have c1 := Below.chain c0 hb1
  have LB0_1 := LB0_0.below hb1
  have LB1_1 := LB1_0.below hb1
  have ⟨_, _, _, _⟩ := LB0_1
  have ⟨_, _, _, _⟩ := LB1_1
  go_wp2_with fail
  refine (of_any k n f s _).mono ?_; rintro e w2 ⟨rfl, hb2⟩
  have c2 := Below.chain c1 hb2
  have LB0_2 := LB0_1.below hb2
  have LB1_2 := LB1_1.below hb2
  have c3 := Below.chain c2 (below_a1 w2 (.cells #[.int .i64 k, .int .i64 n, .float .f64 f, .string (cut60 s)] 28))
  have LB0_3 := LB0_2.alloc (.cells #[.int .i64 k, .int .i64 n, .float .f64 f, .string (cut60 s)] 28)
  have LB1_3 := LB1_2.alloc (.cells #[.int .i64 k, .int .i64 n, .float .f64 f, .string (cut60 s)] 28)
  have Lx_3 := lies_new w2 (.int .i64 k) (.int .i64 n) (.float .f64 f) (.string (cut60 s)) 28
  have ⟨_, _, _, _⟩ := LB0_3
  have ⟨_, _, _, _⟩ := LB1_3
  have ⟨_, _, _, _⟩ := Lx_3
  go_wp2_with fail
  refine (of_any k' n' f' s' _).mono ?_; rintro e w4 ⟨rfl, hb4⟩
  have c4 := Below.chain c3 hb4
  have LB0_4 := LB0_3.below hb4
  have LB1_4 := LB1_3.below hb4
  have Lx_4 := Lx_3.below hb4
  have c5 := Below.chain c4 (below_a1 w4 (.cells #[.int .i64 k', .int .i64 n', .float .f64 f', .string (cut60 s')] 28))
  have LB0_5 := LB0_4.alloc (.cells #[.int .i64 k', .int .i64 n', .float .f64 f', .string (cut60 s')] 28)
  have LB1_5 := LB1_4.alloc (.cells #[.int .i64 k', .int .i64 n', .float .f64 f', .string (cut60 s')] 28)
  have Lx_5 := Lx_4.alloc (.cells #[.int .i64 k', .int .i64 n', .float .f64 f', .string (cut60 s')] 28)
  have Ly_5 := lies_new w4 (.int .i64 k') (.int .i64 n') (.float .f64 f') (.string (cut60 s')) 28
  have ⟨_, _, _, _⟩ := LB0_5
  have ⟨_, _, _, _⟩ := LB1_5
  have ⟨_, _, _, _⟩ := Lx_5
  have ⟨_, _, _, _⟩ := Ly_5
  go_wp2_with fail
  refine (R1 _).mono ?_; rintro e w6 ⟨rfl, hb6⟩
  have c6 := Below.chain c5 hb6
  have LB0_6 := LB0_5.below hb6
  have LB1_6 := LB1_5.below hb6
  have Lx_6 := Lx_5.below hb6
  have Ly_6 := Ly_5.below hb6
  have ⟨_, _, _, _⟩ := LB0_6
  have ⟨_, _, _, _⟩ := LB1_6
  have ⟨_, _, _, _⟩ := Lx_6
  have ⟨_, _, _, _⟩ := Ly_6
  go_wp2_with fail
  refine (R2 _).mono ?_; rintro e w7 ⟨rfl, hb7⟩
  have c7 := Below.chain c6 hb7
  have LB0_7 := LB0_6.below hb7
  have LB1_7 := LB1_6.below hb7
  have Lx_7 := Lx_6.below hb7
  have Ly_7 := Ly_6.below hb7
  have ⟨_, _, _, _⟩ := LB0_7
  have ⟨_, _, _, _⟩ := LB1_7
  have ⟨_, _, _, _⟩ := Lx_7
  have ⟨_, _, _, _⟩ := Ly_7
  go_wp2_with fail
  refine (T1 _).mono ?_; rintro e w8 ⟨rfl, hb8⟩
  have c8 := Below.chain c7 hb8
  have LB0_8 := LB0_7.below hb8
  have LB1_8 := LB1_7.below hb8
  have Lx_8 := Lx_7.below hb8
  have Ly_8 := Ly_7.below hb8
  have c9 := Below.chain c8 (below_a1 w8 (.cells #[.int .i64 1, .int .i64 0, .float .f64 0, .string ⟨#[]⟩] 28))
  have LB0_9 := LB0_8.alloc (.cells #[.int .i64 1, .int .i64 0, .float .f64 0, .string ⟨#[]⟩] 28)
  have LB1_9 := LB1_8.alloc (.cells #[.int .i64 1, .int .i64 0, .float .f64 0, .string ⟨#[]⟩] 28)
  have Lx_9 := Lx_8.alloc (.cells #[.int .i64 1, .int .i64 0, .float .f64 0, .string ⟨#[]⟩] 28)
  have Ly_9 := Ly_8.alloc (.cells #[.int .i64 1, .int .i64 0, .float .f64 0, .string ⟨#[]⟩] 28)
  have Lp_9 := lies_new w8 (.int .i64 1) (.int .i64 0) (.float .f64 0) (.string ⟨#[]⟩) 28
  have ⟨_, _, _, _⟩ := LB0_9
  have ⟨_, _, _, _⟩ := LB1_9
  have ⟨_, _, _, _⟩ := Lx_9
  have ⟨_, _, _, _⟩ := Ly_9
  have ⟨_, _, _, _⟩ := Lp_9
  go_wp2_with fail
  refine (T2 _).mono ?_; rintro e w10 ⟨rfl, hb10⟩
  have c10 := Below.chain c9 hb10
  have LB0_10 := LB0_9.below hb10
  have LB1_10 := LB1_9.below hb10
  have Lx_10 := Lx_9.below hb10
  have Ly_10 := Ly_9.below hb10
  have Lp_10 := Lp_9.below hb10
  have c11 := Below.chain c10 (below_a1 w10 (.cells #[.int .i64 1, .int .i64 1, .float .f64 0, .string ⟨#[]⟩] 28))
  have LB0_11 := LB0_10.alloc (.cells #[.int .i64 1, .int .i64 1, .float .f64 0, .string ⟨#[]⟩] 28)
  have LB1_11 := LB1_10.alloc (.cells #[.int .i64 1, .int .i64 1, .float .f64 0, .string ⟨#[]⟩] 28)
  have Lx_11 := Lx_10.alloc (.cells #[.int .i64 1, .int .i64 1, .float .f64 0, .string ⟨#[]⟩] 28)
  have Ly_11 := Ly_10.alloc (.cells #[.int .i64 1, .int .i64 1, .float .f64 0, .string ⟨#[]⟩] 28)
  have Lp_11 := Lp_10.alloc (.cells #[.int .i64 1, .int .i64 1, .float .f64 0, .string ⟨#[]⟩] 28)
  have Lq_11 := lies_new w10 (.int .i64 1) (.int .i64 1) (.float .f64 0) (.string ⟨#[]⟩) 28
  have ⟨_, _, _, _⟩ := LB0_11
  have ⟨_, _, _, _⟩ := LB1_11
  have ⟨_, _, _, _⟩ := Lx_11
  have ⟨_, _, _, _⟩ := Ly_11
  have ⟨_, _, _, _⟩ := Lp_11
  have ⟨_, _, _, _⟩ := Lq_11
  go_wp2_with fail
  have lx := later_lies Lx_11
  have ly := later_lies Ly_11
  have lp := later_lies Lp_11
  have lq := later_lies Lq_11
  refine wp_region_later (by kernel_rfl) (by kernel_rfl) ?_
  repeat (go_big_quiet_step (first | with_reducible exact later_call (S1 _) | with_reducible exact later_call (L1 _) | with_reducible exact later_call (R3 _)))
  refine wpQuiet_nil ?_
  rintro w' ⟨x, rfl⟩
  go_wp2_with fail
  go_ret
  exact ⟨rfl, Below.chain c11 x.kept⟩
set_option maxRecDepth 100000 in
set_option maxHeartbeats 1000000 in
theorem mB10 (k n k' n' : Int) (f f' : Nat) (s s' : ByteArray) (R1 : ∀ w, Calls Tryz.prog 16 #[.agg #[.int .i64 k, .int .i64 n, .float .f64 f, .string (cut60 s)]] w fun e w' => e = .returned (.bool true) ∧ Below w.heap.size w w') (R2 : ∀ w, Calls Tryz.prog 16 #[.agg #[.int .i64 k', .int .i64 n', .float .f64 f', .string (cut60 s')]] w fun e w' => e = .returned (.bool true) ∧ Below w.heap.size w w') (hk : (k != k') = false) (h0 : (k == 0) = false) (hN : (FloatKind.f64.format.order f f != some Ordering.eq) = false) (hN' : (FloatKind.f64.format.order f' f' != some Ordering.eq) = false) (hc : (k == 3) = true) (hu : (FloatKind.f64.format.order f 0 == some Ordering.eq) = false) (T1 : ∀ w, Calls Tryz.prog 23 #[.string ⟨#[61]⟩, .agg #[.int .i64 k, .int .i64 n, .float .f64 f, .string (cut60 s)], .agg #[.int .i64 k', .int .i64 n', .float .f64 f', .string (cut60 s')]] w fun e w' => e = .returned (.tuple #[.agg #[.int .i64 1, .int .i64 1, .float .f64 0, .string ⟨#[]⟩], .int .i64 0]) ∧ Below w.heap.size w w') (T2 : ∀ w, Calls Tryz.prog 23 #[.string ⟨#[60]⟩, .agg #[.int .i64 k, .int .i64 n, .float .f64 f, .string (cut60 s)], .agg #[.int .i64 k', .int .i64 n', .float .f64 f', .string (cut60 s')]] w fun e w' => e = .returned (.tuple #[.agg #[.int .i64 1, .int .i64 0, .float .f64 0, .string ⟨#[]⟩], .int .i64 0]) ∧ Below w.heap.size w w') (S1 : ∀ w, Calls Tryz.prog 18 #[.agg #[.int .i64 k, .int .i64 n, .float .f64 f, .string (cut60 s)], .agg #[.int .i64 k', .int .i64 n', .float .f64 f', .string (cut60 s')]] w fun e w' => e = .returned (.bool true) ∧ Below w.heap.size w w') (L1 : ∀ w, Calls Tryz.prog 20 #[.agg #[.int .i64 k, .int .i64 n, .float .f64 f, .string (cut60 s)], .agg #[.int .i64 k', .int .i64 n', .float .f64 f', .string (cut60 s')]] w fun e w' => e = .returned (.bool false) ∧ Below w.heap.size w w') (R3 : ∀ w, Calls Tryz.prog 17 #[.agg #[.int .i64 1, .int .i64 1, .float .f64 0, .string ⟨#[]⟩]] w fun e w' => e = .returned (.bool true) ∧ Below w.heap.size w w') (w : World) (hT : Tabs w) :
    Calls Tryz.prog 12 #[.agg #[.int .i64 k, .int .i64 n, .int .u64 (f : Int), .string s], .agg #[.int .i64 k', .int .i64 n', .int .u64 (f' : Int), .string s']] w fun e w' => e = .returned (.bool true) ∧ Below w.heap.size w w' := by
  have hsf := run_store_float
  have c0 : Below w.heap.size w ((w.alloc (.cells #[.int .i64 k, .int .i64 n, .int .u64 (f : Int), .string s] 24)).alloc (.cells #[.int .i64 k', .int .i64 n', .int .u64 (f' : Int), .string s'] 24)) := ((Below.refl w.heap.size w).alloc (by simp) _).alloc (by simp <;> omega) _
  have LB0_0 : Lies ((w.alloc (.cells #[.int .i64 k, .int .i64 n, .int .u64 (f : Int), .string s] 24)).alloc (.cells #[.int .i64 k', .int .i64 n', .int .u64 (f' : Int), .string s'] 24)) (w.heap.size) (.int .i64 k) (.int .i64 n) (.int .u64 (f : Int)) (.string s) := (lies_at w (w.heap.size) (by simp) (.int .i64 k) (.int .i64 n) (.int .u64 (f : Int)) (.string s) 24).alloc _
  have LB1_0 : Lies ((w.alloc (.cells #[.int .i64 k, .int .i64 n, .int .u64 (f : Int), .string s] 24)).alloc (.cells #[.int .i64 k', .int .i64 n', .int .u64 (f' : Int), .string s'] 24)) (w.heap.size + 1) (.int .i64 k') (.int .i64 n') (.int .u64 (f' : Int)) (.string s') := lies_at (w.alloc (.cells #[.int .i64 k, .int .i64 n, .int .u64 (f : Int), .string s] 24)) (w.heap.size + 1) (by simp) (.int .i64 k') (.int .i64 n') (.int .u64 (f' : Int)) (.string s') 24
  go_enter Tryz.func12, Tryz.ntmps12
  go_wp2_with fail
  refine (shown_any _ (hT.below c0)).mono ?_; rintro e w1 ⟨rfl, hb1⟩
  have c1 := Below.chain c0 hb1
  have LB0_1 := LB0_0.below hb1
  have LB1_1 := LB1_0.below hb1
  have ⟨_, _, _, _⟩ := LB0_1
  have ⟨_, _, _, _⟩ := LB1_1
  go_wp2_with fail
  refine (of_any k n f s _).mono ?_; rintro e w2 ⟨rfl, hb2⟩
  have c2 := Below.chain c1 hb2
  have LB0_2 := LB0_1.below hb2
  have LB1_2 := LB1_1.below hb2
  have c3 := Below.chain c2 (below_a1 w2 (.cells #[.int .i64 k, .int .i64 n, .float .f64 f, .string (cut60 s)] 28))
  have LB0_3 := LB0_2.alloc (.cells #[.int .i64 k, .int .i64 n, .float .f64 f, .string (cut60 s)] 28)
  have LB1_3 := LB1_2.alloc (.cells #[.int .i64 k, .int .i64 n, .float .f64 f, .string (cut60 s)] 28)
  have Lx_3 := lies_new w2 (.int .i64 k) (.int .i64 n) (.float .f64 f) (.string (cut60 s)) 28
  have ⟨_, _, _, _⟩ := LB0_3
  have ⟨_, _, _, _⟩ := LB1_3
  have ⟨_, _, _, _⟩ := Lx_3
  go_wp2_with fail
  refine (of_any k' n' f' s' _).mono ?_; rintro e w4 ⟨rfl, hb4⟩
  have c4 := Below.chain c3 hb4
  have LB0_4 := LB0_3.below hb4
  have LB1_4 := LB1_3.below hb4
  have Lx_4 := Lx_3.below hb4
  have c5 := Below.chain c4 (below_a1 w4 (.cells #[.int .i64 k', .int .i64 n', .float .f64 f', .string (cut60 s')] 28))
  have LB0_5 := LB0_4.alloc (.cells #[.int .i64 k', .int .i64 n', .float .f64 f', .string (cut60 s')] 28)
  have LB1_5 := LB1_4.alloc (.cells #[.int .i64 k', .int .i64 n', .float .f64 f', .string (cut60 s')] 28)
  have Lx_5 := Lx_4.alloc (.cells #[.int .i64 k', .int .i64 n', .float .f64 f', .string (cut60 s')] 28)
  have Ly_5 := lies_new w4 (.int .i64 k') (.int .i64 n') (.float .f64 f') (.string (cut60 s')) 28
  have ⟨_, _, _, _⟩ := LB0_5
  have ⟨_, _, _, _⟩ := LB1_5
  have ⟨_, _, _, _⟩ := Lx_5
  have ⟨_, _, _, _⟩ := Ly_5
  go_wp2_with fail
  refine (R1 _).mono ?_; rintro e w6 ⟨rfl, hb6⟩
  have c6 := Below.chain c5 hb6
  have LB0_6 := LB0_5.below hb6
  have LB1_6 := LB1_5.below hb6
  have Lx_6 := Lx_5.below hb6
  have Ly_6 := Ly_5.below hb6
  have ⟨_, _, _, _⟩ := LB0_6
  have ⟨_, _, _, _⟩ := LB1_6
  have ⟨_, _, _, _⟩ := Lx_6
  have ⟨_, _, _, _⟩ := Ly_6
  go_wp2_with fail
  refine (R2 _).mono ?_; rintro e w7 ⟨rfl, hb7⟩
  have c7 := Below.chain c6 hb7
  have LB0_7 := LB0_6.below hb7
  have LB1_7 := LB1_6.below hb7
  have Lx_7 := Lx_6.below hb7
  have Ly_7 := Ly_6.below hb7
  have ⟨_, _, _, _⟩ := LB0_7
  have ⟨_, _, _, _⟩ := LB1_7
  have ⟨_, _, _, _⟩ := Lx_7
  have ⟨_, _, _, _⟩ := Ly_7
  go_wp2_with fail
  refine (T1 _).mono ?_; rintro e w8 ⟨rfl, hb8⟩
  have c8 := Below.chain c7 hb8
  have LB0_8 := LB0_7.below hb8
  have LB1_8 := LB1_7.below hb8
  have Lx_8 := Lx_7.below hb8
  have Ly_8 := Ly_7.below hb8
  have c9 := Below.chain c8 (below_a1 w8 (.cells #[.int .i64 1, .int .i64 1, .float .f64 0, .string ⟨#[]⟩] 28))
  have LB0_9 := LB0_8.alloc (.cells #[.int .i64 1, .int .i64 1, .float .f64 0, .string ⟨#[]⟩] 28)
  have LB1_9 := LB1_8.alloc (.cells #[.int .i64 1, .int .i64 1, .float .f64 0, .string ⟨#[]⟩] 28)
  have Lx_9 := Lx_8.alloc (.cells #[.int .i64 1, .int .i64 1, .float .f64 0, .string ⟨#[]⟩] 28)
  have Ly_9 := Ly_8.alloc (.cells #[.int .i64 1, .int .i64 1, .float .f64 0, .string ⟨#[]⟩] 28)
  have Lp_9 := lies_new w8 (.int .i64 1) (.int .i64 1) (.float .f64 0) (.string ⟨#[]⟩) 28
  have ⟨_, _, _, _⟩ := LB0_9
  have ⟨_, _, _, _⟩ := LB1_9
  have ⟨_, _, _, _⟩ := Lx_9
  have ⟨_, _, _, _⟩ := Ly_9
  have ⟨_, _, _, _⟩ := Lp_9
  go_wp2_with fail
  refine (T2 _).mono ?_; rintro e w10 ⟨rfl, hb10⟩
  have c10 := Below.chain c9 hb10
  have LB0_10 := LB0_9.below hb10
  have LB1_10 := LB1_9.below hb10
  have Lx_10 := Lx_9.below hb10
  have Ly_10 := Ly_9.below hb10
  have Lp_10 := Lp_9.below hb10
  have c11 := Below.chain c10 (below_a1 w10 (.cells #[.int .i64 1, .int .i64 0, .float .f64 0, .string ⟨#[]⟩] 28))
  have LB0_11 := LB0_10.alloc (.cells #[.int .i64 1, .int .i64 0, .float .f64 0, .string ⟨#[]⟩] 28)
  have LB1_11 := LB1_10.alloc (.cells #[.int .i64 1, .int .i64 0, .float .f64 0, .string ⟨#[]⟩] 28)
  have Lx_11 := Lx_10.alloc (.cells #[.int .i64 1, .int .i64 0, .float .f64 0, .string ⟨#[]⟩] 28)
  have Ly_11 := Ly_10.alloc (.cells #[.int .i64 1, .int .i64 0, .float .f64 0, .string ⟨#[]⟩] 28)
  have Lp_11 := Lp_10.alloc (.cells #[.int .i64 1, .int .i64 0, .float .f64 0, .string ⟨#[]⟩] 28)
  have Lq_11 := lies_new w10 (.int .i64 1) (.int .i64 0) (.float .f64 0) (.string ⟨#[]⟩) 28
  have ⟨_, _, _, _⟩ := LB0_11
  have ⟨_, _, _, _⟩ := LB1_11
  have ⟨_, _, _, _⟩ := Lx_11
  have ⟨_, _, _, _⟩ := Ly_11
  have ⟨_, _, _, _⟩ := Lp_11
  have ⟨_, _, _, _⟩ := Lq_11
  go_wp2_with fail
  have lx := later_lies Lx_11
  have ly := later_lies Ly_11
  have lp := later_lies Lp_11
  have lq := later_lies Lq_11
  refine wp_region_later (by kernel_rfl) (by kernel_rfl) ?_
  repeat (go_big_quiet_step (first | with_reducible exact later_call (S1 _) | with_reducible exact later_call (L1 _) | with_reducible exact later_call (R3 _)))
  refine wpQuiet_nil ?_
  rintro w' ⟨x, rfl⟩
  go_wp2_with fail
  go_ret
  exact ⟨rfl, Below.chain c11 x.kept⟩
set_option maxRecDepth 100000 in
set_option maxHeartbeats 1000000 in
theorem mC00 (k n k' n' : Int) (f f' : Nat) (s s' : ByteArray) (R1 : ∀ w, Calls Tryz.prog 16 #[.agg #[.int .i64 k, .int .i64 n, .float .f64 f, .string (cut60 s)]] w fun e w' => e = .returned (.bool true) ∧ Below w.heap.size w w') (R2 : ∀ w, Calls Tryz.prog 16 #[.agg #[.int .i64 k', .int .i64 n', .float .f64 f', .string (cut60 s')]] w fun e w' => e = .returned (.bool true) ∧ Below w.heap.size w w') (hk : (k != k') = false) (h0 : (k == 0) = false) (hN : (FloatKind.f64.format.order f f != some Ordering.eq) = false) (hN' : (FloatKind.f64.format.order f' f' != some Ordering.eq) = false) (hc : (k == 3) = true) (hu : (FloatKind.f64.format.order f 0 == some Ordering.eq) = true) (hv : (FloatKind.f64.format.order f' 0 == some Ordering.eq) = false) (T1 : ∀ w, Calls Tryz.prog 23 #[.string ⟨#[61]⟩, .agg #[.int .i64 k, .int .i64 n, .float .f64 f, .string (cut60 s)], .agg #[.int .i64 k', .int .i64 n', .float .f64 f', .string (cut60 s')]] w fun e w' => e = .returned (.tuple #[.agg #[.int .i64 1, .int .i64 0, .float .f64 0, .string ⟨#[]⟩], .int .i64 0]) ∧ Below w.heap.size w w') (T2 : ∀ w, Calls Tryz.prog 23 #[.string ⟨#[60]⟩, .agg #[.int .i64 k, .int .i64 n, .float .f64 f, .string (cut60 s)], .agg #[.int .i64 k', .int .i64 n', .float .f64 f', .string (cut60 s')]] w fun e w' => e = .returned (.tuple #[.agg #[.int .i64 1, .int .i64 0, .float .f64 0, .string ⟨#[]⟩], .int .i64 0]) ∧ Below w.heap.size w w') (S1 : ∀ w, Calls Tryz.prog 18 #[.agg #[.int .i64 k, .int .i64 n, .float .f64 f, .string (cut60 s)], .agg #[.int .i64 k', .int .i64 n', .float .f64 f', .string (cut60 s')]] w fun e w' => e = .returned (.bool false) ∧ Below w.heap.size w w') (L1 : ∀ w, Calls Tryz.prog 20 #[.agg #[.int .i64 k, .int .i64 n, .float .f64 f, .string (cut60 s)], .agg #[.int .i64 k', .int .i64 n', .float .f64 f', .string (cut60 s')]] w fun e w' => e = .returned (.bool false) ∧ Below w.heap.size w w') (R3 : ∀ w, Calls Tryz.prog 17 #[.agg #[.int .i64 1, .int .i64 0, .float .f64 0, .string ⟨#[]⟩]] w fun e w' => e = .returned (.bool true) ∧ Below w.heap.size w w') (w : World) (hT : Tabs w) :
    Calls Tryz.prog 12 #[.agg #[.int .i64 k, .int .i64 n, .int .u64 (f : Int), .string s], .agg #[.int .i64 k', .int .i64 n', .int .u64 (f' : Int), .string s']] w fun e w' => e = .returned (.bool true) ∧ Below w.heap.size w w' := by
  have hsf := run_store_float
  have c0 : Below w.heap.size w ((w.alloc (.cells #[.int .i64 k, .int .i64 n, .int .u64 (f : Int), .string s] 24)).alloc (.cells #[.int .i64 k', .int .i64 n', .int .u64 (f' : Int), .string s'] 24)) := ((Below.refl w.heap.size w).alloc (by simp) _).alloc (by simp <;> omega) _
  have LB0_0 : Lies ((w.alloc (.cells #[.int .i64 k, .int .i64 n, .int .u64 (f : Int), .string s] 24)).alloc (.cells #[.int .i64 k', .int .i64 n', .int .u64 (f' : Int), .string s'] 24)) (w.heap.size) (.int .i64 k) (.int .i64 n) (.int .u64 (f : Int)) (.string s) := (lies_at w (w.heap.size) (by simp) (.int .i64 k) (.int .i64 n) (.int .u64 (f : Int)) (.string s) 24).alloc _
  have LB1_0 : Lies ((w.alloc (.cells #[.int .i64 k, .int .i64 n, .int .u64 (f : Int), .string s] 24)).alloc (.cells #[.int .i64 k', .int .i64 n', .int .u64 (f' : Int), .string s'] 24)) (w.heap.size + 1) (.int .i64 k') (.int .i64 n') (.int .u64 (f' : Int)) (.string s') := lies_at (w.alloc (.cells #[.int .i64 k, .int .i64 n, .int .u64 (f : Int), .string s] 24)) (w.heap.size + 1) (by simp) (.int .i64 k') (.int .i64 n') (.int .u64 (f' : Int)) (.string s') 24
  go_enter Tryz.func12, Tryz.ntmps12
  go_wp2_with fail
  refine (shown_any _ (hT.below c0)).mono ?_; rintro e w1 ⟨rfl, hb1⟩
  have c1 := Below.chain c0 hb1
  have LB0_1 := LB0_0.below hb1
  have LB1_1 := LB1_0.below hb1
  have ⟨_, _, _, _⟩ := LB0_1
  have ⟨_, _, _, _⟩ := LB1_1
  go_wp2_with fail
  refine (of_any k n f s _).mono ?_; rintro e w2 ⟨rfl, hb2⟩
  have c2 := Below.chain c1 hb2
  have LB0_2 := LB0_1.below hb2
  have LB1_2 := LB1_1.below hb2
  have c3 := Below.chain c2 (below_a1 w2 (.cells #[.int .i64 k, .int .i64 n, .float .f64 f, .string (cut60 s)] 28))
  have LB0_3 := LB0_2.alloc (.cells #[.int .i64 k, .int .i64 n, .float .f64 f, .string (cut60 s)] 28)
  have LB1_3 := LB1_2.alloc (.cells #[.int .i64 k, .int .i64 n, .float .f64 f, .string (cut60 s)] 28)
  have Lx_3 := lies_new w2 (.int .i64 k) (.int .i64 n) (.float .f64 f) (.string (cut60 s)) 28
  have ⟨_, _, _, _⟩ := LB0_3
  have ⟨_, _, _, _⟩ := LB1_3
  have ⟨_, _, _, _⟩ := Lx_3
  go_wp2_with fail
  refine (of_any k' n' f' s' _).mono ?_; rintro e w4 ⟨rfl, hb4⟩
  have c4 := Below.chain c3 hb4
  have LB0_4 := LB0_3.below hb4
  have LB1_4 := LB1_3.below hb4
  have Lx_4 := Lx_3.below hb4
  have c5 := Below.chain c4 (below_a1 w4 (.cells #[.int .i64 k', .int .i64 n', .float .f64 f', .string (cut60 s')] 28))
  have LB0_5 := LB0_4.alloc (.cells #[.int .i64 k', .int .i64 n', .float .f64 f', .string (cut60 s')] 28)
  have LB1_5 := LB1_4.alloc (.cells #[.int .i64 k', .int .i64 n', .float .f64 f', .string (cut60 s')] 28)
  have Lx_5 := Lx_4.alloc (.cells #[.int .i64 k', .int .i64 n', .float .f64 f', .string (cut60 s')] 28)
  have Ly_5 := lies_new w4 (.int .i64 k') (.int .i64 n') (.float .f64 f') (.string (cut60 s')) 28
  have ⟨_, _, _, _⟩ := LB0_5
  have ⟨_, _, _, _⟩ := LB1_5
  have ⟨_, _, _, _⟩ := Lx_5
  have ⟨_, _, _, _⟩ := Ly_5
  go_wp2_with fail
  refine (R1 _).mono ?_; rintro e w6 ⟨rfl, hb6⟩
  have c6 := Below.chain c5 hb6
  have LB0_6 := LB0_5.below hb6
  have LB1_6 := LB1_5.below hb6
  have Lx_6 := Lx_5.below hb6
  have Ly_6 := Ly_5.below hb6
  have ⟨_, _, _, _⟩ := LB0_6
  have ⟨_, _, _, _⟩ := LB1_6
  have ⟨_, _, _, _⟩ := Lx_6
  have ⟨_, _, _, _⟩ := Ly_6
  go_wp2_with fail
  refine (R2 _).mono ?_; rintro e w7 ⟨rfl, hb7⟩
  have c7 := Below.chain c6 hb7
  have LB0_7 := LB0_6.below hb7
  have LB1_7 := LB1_6.below hb7
  have Lx_7 := Lx_6.below hb7
  have Ly_7 := Ly_6.below hb7
  have ⟨_, _, _, _⟩ := LB0_7
  have ⟨_, _, _, _⟩ := LB1_7
  have ⟨_, _, _, _⟩ := Lx_7
  have ⟨_, _, _, _⟩ := Ly_7
  go_wp2_with fail
  refine (T1 _).mono ?_; rintro e w8 ⟨rfl, hb8⟩
  have c8 := Below.chain c7 hb8
  have LB0_8 := LB0_7.below hb8
  have LB1_8 := LB1_7.below hb8
  have Lx_8 := Lx_7.below hb8
  have Ly_8 := Ly_7.below hb8
  have c9 := Below.chain c8 (below_a1 w8 (.cells #[.int .i64 1, .int .i64 0, .float .f64 0, .string ⟨#[]⟩] 28))
  have LB0_9 := LB0_8.alloc (.cells #[.int .i64 1, .int .i64 0, .float .f64 0, .string ⟨#[]⟩] 28)
  have LB1_9 := LB1_8.alloc (.cells #[.int .i64 1, .int .i64 0, .float .f64 0, .string ⟨#[]⟩] 28)
  have Lx_9 := Lx_8.alloc (.cells #[.int .i64 1, .int .i64 0, .float .f64 0, .string ⟨#[]⟩] 28)
  have Ly_9 := Ly_8.alloc (.cells #[.int .i64 1, .int .i64 0, .float .f64 0, .string ⟨#[]⟩] 28)
  have Lp_9 := lies_new w8 (.int .i64 1) (.int .i64 0) (.float .f64 0) (.string ⟨#[]⟩) 28
  have ⟨_, _, _, _⟩ := LB0_9
  have ⟨_, _, _, _⟩ := LB1_9
  have ⟨_, _, _, _⟩ := Lx_9
  have ⟨_, _, _, _⟩ := Ly_9
  have ⟨_, _, _, _⟩ := Lp_9
  go_wp2_with fail
  refine (T2 _).mono ?_; rintro e w10 ⟨rfl, hb10⟩
  have c10 := Below.chain c9 hb10
  have LB0_10 := LB0_9.below hb10
  have LB1_10 := LB1_9.below hb10
  have Lx_10 := Lx_9.below hb10
  have Ly_10 := Ly_9.below hb10
  have Lp_10 := Lp_9.below hb10
  have c11 := Below.chain c10 (below_a1 w10 (.cells #[.int .i64 1, .int .i64 0, .float .f64 0, .string ⟨#[]⟩] 28))
  have LB0_11 := LB0_10.alloc (.cells #[.int .i64 1, .int .i64 0, .float .f64 0, .string ⟨#[]⟩] 28)
  have LB1_11 := LB1_10.alloc (.cells #[.int .i64 1, .int .i64 0, .float .f64 0, .string ⟨#[]⟩] 28)
  have Lx_11 := Lx_10.alloc (.cells #[.int .i64 1, .int .i64 0, .float .f64 0, .string ⟨#[]⟩] 28)
  have Ly_11 := Ly_10.alloc (.cells #[.int .i64 1, .int .i64 0, .float .f64 0, .string ⟨#[]⟩] 28)
  have Lp_11 := Lp_10.alloc (.cells #[.int .i64 1, .int .i64 0, .float .f64 0, .string ⟨#[]⟩] 28)
  have Lq_11 := lies_new w10 (.int .i64 1) (.int .i64 0) (.float .f64 0) (.string ⟨#[]⟩) 28
  have ⟨_, _, _, _⟩ := LB0_11
  have ⟨_, _, _, _⟩ := LB1_11
  have ⟨_, _, _, _⟩ := Lx_11
  have ⟨_, _, _, _⟩ := Ly_11
  have ⟨_, _, _, _⟩ := Lp_11
  have ⟨_, _, _, _⟩ := Lq_11
  go_wp2_with fail
  have lx := later_lies Lx_11
  have ly := later_lies Ly_11
  have lp := later_lies Lp_11
  have lq := later_lies Lq_11
  refine wp_region_later (by kernel_rfl) (by kernel_rfl) ?_
  repeat (go_big_quiet_step (first | with_reducible exact later_call (S1 _) | with_reducible exact later_call (L1 _) | with_reducible exact later_call (R3 _)))
  refine wpQuiet_nil ?_
  rintro w' ⟨x, rfl⟩
  go_wp2_with fail
  go_ret
  exact ⟨rfl, Below.chain c11 x.kept⟩
set_option maxRecDepth 100000 in
set_option maxHeartbeats 1000000 in
theorem mC01 (k n k' n' : Int) (f f' : Nat) (s s' : ByteArray) (R1 : ∀ w, Calls Tryz.prog 16 #[.agg #[.int .i64 k, .int .i64 n, .float .f64 f, .string (cut60 s)]] w fun e w' => e = .returned (.bool true) ∧ Below w.heap.size w w') (R2 : ∀ w, Calls Tryz.prog 16 #[.agg #[.int .i64 k', .int .i64 n', .float .f64 f', .string (cut60 s')]] w fun e w' => e = .returned (.bool true) ∧ Below w.heap.size w w') (hk : (k != k') = false) (h0 : (k == 0) = false) (hN : (FloatKind.f64.format.order f f != some Ordering.eq) = false) (hN' : (FloatKind.f64.format.order f' f' != some Ordering.eq) = false) (hc : (k == 3) = true) (hu : (FloatKind.f64.format.order f 0 == some Ordering.eq) = true) (hv : (FloatKind.f64.format.order f' 0 == some Ordering.eq) = false) (T1 : ∀ w, Calls Tryz.prog 23 #[.string ⟨#[61]⟩, .agg #[.int .i64 k, .int .i64 n, .float .f64 f, .string (cut60 s)], .agg #[.int .i64 k', .int .i64 n', .float .f64 f', .string (cut60 s')]] w fun e w' => e = .returned (.tuple #[.agg #[.int .i64 1, .int .i64 0, .float .f64 0, .string ⟨#[]⟩], .int .i64 0]) ∧ Below w.heap.size w w') (T2 : ∀ w, Calls Tryz.prog 23 #[.string ⟨#[60]⟩, .agg #[.int .i64 k, .int .i64 n, .float .f64 f, .string (cut60 s)], .agg #[.int .i64 k', .int .i64 n', .float .f64 f', .string (cut60 s')]] w fun e w' => e = .returned (.tuple #[.agg #[.int .i64 1, .int .i64 1, .float .f64 0, .string ⟨#[]⟩], .int .i64 0]) ∧ Below w.heap.size w w') (S1 : ∀ w, Calls Tryz.prog 18 #[.agg #[.int .i64 k, .int .i64 n, .float .f64 f, .string (cut60 s)], .agg #[.int .i64 k', .int .i64 n', .float .f64 f', .string (cut60 s')]] w fun e w' => e = .returned (.bool false) ∧ Below w.heap.size w w') (L1 : ∀ w, Calls Tryz.prog 20 #[.agg #[.int .i64 k, .int .i64 n, .float .f64 f, .string (cut60 s)], .agg #[.int .i64 k', .int .i64 n', .float .f64 f', .string (cut60 s')]] w fun e w' => e = .returned (.bool true) ∧ Below w.heap.size w w') (R3 : ∀ w, Calls Tryz.prog 17 #[.agg #[.int .i64 1, .int .i64 0, .float .f64 0, .string ⟨#[]⟩]] w fun e w' => e = .returned (.bool true) ∧ Below w.heap.size w w') (w : World) (hT : Tabs w) :
    Calls Tryz.prog 12 #[.agg #[.int .i64 k, .int .i64 n, .int .u64 (f : Int), .string s], .agg #[.int .i64 k', .int .i64 n', .int .u64 (f' : Int), .string s']] w fun e w' => e = .returned (.bool true) ∧ Below w.heap.size w w' := by
  have hsf := run_store_float
  have c0 : Below w.heap.size w ((w.alloc (.cells #[.int .i64 k, .int .i64 n, .int .u64 (f : Int), .string s] 24)).alloc (.cells #[.int .i64 k', .int .i64 n', .int .u64 (f' : Int), .string s'] 24)) := ((Below.refl w.heap.size w).alloc (by simp) _).alloc (by simp <;> omega) _
  have LB0_0 : Lies ((w.alloc (.cells #[.int .i64 k, .int .i64 n, .int .u64 (f : Int), .string s] 24)).alloc (.cells #[.int .i64 k', .int .i64 n', .int .u64 (f' : Int), .string s'] 24)) (w.heap.size) (.int .i64 k) (.int .i64 n) (.int .u64 (f : Int)) (.string s) := (lies_at w (w.heap.size) (by simp) (.int .i64 k) (.int .i64 n) (.int .u64 (f : Int)) (.string s) 24).alloc _
  have LB1_0 : Lies ((w.alloc (.cells #[.int .i64 k, .int .i64 n, .int .u64 (f : Int), .string s] 24)).alloc (.cells #[.int .i64 k', .int .i64 n', .int .u64 (f' : Int), .string s'] 24)) (w.heap.size + 1) (.int .i64 k') (.int .i64 n') (.int .u64 (f' : Int)) (.string s') := lies_at (w.alloc (.cells #[.int .i64 k, .int .i64 n, .int .u64 (f : Int), .string s] 24)) (w.heap.size + 1) (by simp) (.int .i64 k') (.int .i64 n') (.int .u64 (f' : Int)) (.string s') 24
  go_enter Tryz.func12, Tryz.ntmps12
  go_wp2_with fail
  refine (shown_any _ (hT.below c0)).mono ?_; rintro e w1 ⟨rfl, hb1⟩
  have c1 := Below.chain c0 hb1
  have LB0_1 := LB0_0.below hb1
  have LB1_1 := LB1_0.below hb1
  have ⟨_, _, _, _⟩ := LB0_1
  have ⟨_, _, _, _⟩ := LB1_1
  go_wp2_with fail
  refine (of_any k n f s _).mono ?_; rintro e w2 ⟨rfl, hb2⟩
  have c2 := Below.chain c1 hb2
  have LB0_2 := LB0_1.below hb2
  have LB1_2 := LB1_1.below hb2
  have c3 := Below.chain c2 (below_a1 w2 (.cells #[.int .i64 k, .int .i64 n, .float .f64 f, .string (cut60 s)] 28))
  have LB0_3 := LB0_2.alloc (.cells #[.int .i64 k, .int .i64 n, .float .f64 f, .string (cut60 s)] 28)
  have LB1_3 := LB1_2.alloc (.cells #[.int .i64 k, .int .i64 n, .float .f64 f, .string (cut60 s)] 28)
  have Lx_3 := lies_new w2 (.int .i64 k) (.int .i64 n) (.float .f64 f) (.string (cut60 s)) 28
  have ⟨_, _, _, _⟩ := LB0_3
  have ⟨_, _, _, _⟩ := LB1_3
  have ⟨_, _, _, _⟩ := Lx_3
  go_wp2_with fail
  refine (of_any k' n' f' s' _).mono ?_; rintro e w4 ⟨rfl, hb4⟩
  have c4 := Below.chain c3 hb4
  have LB0_4 := LB0_3.below hb4
  have LB1_4 := LB1_3.below hb4
  have Lx_4 := Lx_3.below hb4
  have c5 := Below.chain c4 (below_a1 w4 (.cells #[.int .i64 k', .int .i64 n', .float .f64 f', .string (cut60 s')] 28))
  have LB0_5 := LB0_4.alloc (.cells #[.int .i64 k', .int .i64 n', .float .f64 f', .string (cut60 s')] 28)
  have LB1_5 := LB1_4.alloc (.cells #[.int .i64 k', .int .i64 n', .float .f64 f', .string (cut60 s')] 28)
  have Lx_5 := Lx_4.alloc (.cells #[.int .i64 k', .int .i64 n', .float .f64 f', .string (cut60 s')] 28)
  have Ly_5 := lies_new w4 (.int .i64 k') (.int .i64 n') (.float .f64 f') (.string (cut60 s')) 28
  have ⟨_, _, _, _⟩ := LB0_5
  have ⟨_, _, _, _⟩ := LB1_5
  have ⟨_, _, _, _⟩ := Lx_5
  have ⟨_, _, _, _⟩ := Ly_5
  go_wp2_with fail
  refine (R1 _).mono ?_; rintro e w6 ⟨rfl, hb6⟩
  have c6 := Below.chain c5 hb6
  have LB0_6 := LB0_5.below hb6
  have LB1_6 := LB1_5.below hb6
  have Lx_6 := Lx_5.below hb6
  have Ly_6 := Ly_5.below hb6
  have ⟨_, _, _, _⟩ := LB0_6
  have ⟨_, _, _, _⟩ := LB1_6
  have ⟨_, _, _, _⟩ := Lx_6
  have ⟨_, _, _, _⟩ := Ly_6
  go_wp2_with fail
  refine (R2 _).mono ?_; rintro e w7 ⟨rfl, hb7⟩
  have c7 := Below.chain c6 hb7
  have LB0_7 := LB0_6.below hb7
  have LB1_7 := LB1_6.below hb7
  have Lx_7 := Lx_6.below hb7
  have Ly_7 := Ly_6.below hb7
  have ⟨_, _, _, _⟩ := LB0_7
  have ⟨_, _, _, _⟩ := LB1_7
  have ⟨_, _, _, _⟩ := Lx_7
  have ⟨_, _, _, _⟩ := Ly_7
  go_wp2_with fail
  refine (T1 _).mono ?_; rintro e w8 ⟨rfl, hb8⟩
  have c8 := Below.chain c7 hb8
  have LB0_8 := LB0_7.below hb8
  have LB1_8 := LB1_7.below hb8
  have Lx_8 := Lx_7.below hb8
  have Ly_8 := Ly_7.below hb8
  have c9 := Below.chain c8 (below_a1 w8 (.cells #[.int .i64 1, .int .i64 0, .float .f64 0, .string ⟨#[]⟩] 28))
  have LB0_9 := LB0_8.alloc (.cells #[.int .i64 1, .int .i64 0, .float .f64 0, .string ⟨#[]⟩] 28)
  have LB1_9 := LB1_8.alloc (.cells #[.int .i64 1, .int .i64 0, .float .f64 0, .string ⟨#[]⟩] 28)
  have Lx_9 := Lx_8.alloc (.cells #[.int .i64 1, .int .i64 0, .float .f64 0, .string ⟨#[]⟩] 28)
  have Ly_9 := Ly_8.alloc (.cells #[.int .i64 1, .int .i64 0, .float .f64 0, .string ⟨#[]⟩] 28)
  have Lp_9 := lies_new w8 (.int .i64 1) (.int .i64 0) (.float .f64 0) (.string ⟨#[]⟩) 28
  have ⟨_, _, _, _⟩ := LB0_9
  have ⟨_, _, _, _⟩ := LB1_9
  have ⟨_, _, _, _⟩ := Lx_9
  have ⟨_, _, _, _⟩ := Ly_9
  have ⟨_, _, _, _⟩ := Lp_9
  go_wp2_with fail
  refine (T2 _).mono ?_; rintro e w10 ⟨rfl, hb10⟩
  have c10 := Below.chain c9 hb10
  have LB0_10 := LB0_9.below hb10
  have LB1_10 := LB1_9.below hb10
  have Lx_10 := Lx_9.below hb10
  have Ly_10 := Ly_9.below hb10
  have Lp_10 := Lp_9.below hb10
  have c11 := Below.chain c10 (below_a1 w10 (.cells #[.int .i64 1, .int .i64 1, .float .f64 0, .string ⟨#[]⟩] 28))
  have LB0_11 := LB0_10.alloc (.cells #[.int .i64 1, .int .i64 1, .float .f64 0, .string ⟨#[]⟩] 28)
  have LB1_11 := LB1_10.alloc (.cells #[.int .i64 1, .int .i64 1, .float .f64 0, .string ⟨#[]⟩] 28)
  have Lx_11 := Lx_10.alloc (.cells #[.int .i64 1, .int .i64 1, .float .f64 0, .string ⟨#[]⟩] 28)
  have Ly_11 := Ly_10.alloc (.cells #[.int .i64 1, .int .i64 1, .float .f64 0, .string ⟨#[]⟩] 28)
  have Lp_11 := Lp_10.alloc (.cells #[.int .i64 1, .int .i64 1, .float .f64 0, .string ⟨#[]⟩] 28)
  have Lq_11 := lies_new w10 (.int .i64 1) (.int .i64 1) (.float .f64 0) (.string ⟨#[]⟩) 28
  have ⟨_, _, _, _⟩ := LB0_11
  have ⟨_, _, _, _⟩ := LB1_11
  have ⟨_, _, _, _⟩ := Lx_11
  have ⟨_, _, _, _⟩ := Ly_11
  have ⟨_, _, _, _⟩ := Lp_11
  have ⟨_, _, _, _⟩ := Lq_11
  go_wp2_with fail
  have lx := later_lies Lx_11
  have ly := later_lies Ly_11
  have lp := later_lies Lp_11
  have lq := later_lies Lq_11
  refine wp_region_later (by kernel_rfl) (by kernel_rfl) ?_
  repeat (go_big_quiet_step (first | with_reducible exact later_call (S1 _) | with_reducible exact later_call (L1 _) | with_reducible exact later_call (R3 _)))
  refine wpQuiet_nil ?_
  rintro w' ⟨x, rfl⟩
  go_wp2_with fail
  go_ret
  exact ⟨rfl, Below.chain c11 x.kept⟩
set_option maxRecDepth 100000 in
set_option maxHeartbeats 1000000 in
theorem mC10 (k n k' n' : Int) (f f' : Nat) (s s' : ByteArray) (R1 : ∀ w, Calls Tryz.prog 16 #[.agg #[.int .i64 k, .int .i64 n, .float .f64 f, .string (cut60 s)]] w fun e w' => e = .returned (.bool true) ∧ Below w.heap.size w w') (R2 : ∀ w, Calls Tryz.prog 16 #[.agg #[.int .i64 k', .int .i64 n', .float .f64 f', .string (cut60 s')]] w fun e w' => e = .returned (.bool true) ∧ Below w.heap.size w w') (hk : (k != k') = false) (h0 : (k == 0) = false) (hN : (FloatKind.f64.format.order f f != some Ordering.eq) = false) (hN' : (FloatKind.f64.format.order f' f' != some Ordering.eq) = false) (hc : (k == 3) = true) (hu : (FloatKind.f64.format.order f 0 == some Ordering.eq) = true) (hv : (FloatKind.f64.format.order f' 0 == some Ordering.eq) = false) (T1 : ∀ w, Calls Tryz.prog 23 #[.string ⟨#[61]⟩, .agg #[.int .i64 k, .int .i64 n, .float .f64 f, .string (cut60 s)], .agg #[.int .i64 k', .int .i64 n', .float .f64 f', .string (cut60 s')]] w fun e w' => e = .returned (.tuple #[.agg #[.int .i64 1, .int .i64 1, .float .f64 0, .string ⟨#[]⟩], .int .i64 0]) ∧ Below w.heap.size w w') (T2 : ∀ w, Calls Tryz.prog 23 #[.string ⟨#[60]⟩, .agg #[.int .i64 k, .int .i64 n, .float .f64 f, .string (cut60 s)], .agg #[.int .i64 k', .int .i64 n', .float .f64 f', .string (cut60 s')]] w fun e w' => e = .returned (.tuple #[.agg #[.int .i64 1, .int .i64 0, .float .f64 0, .string ⟨#[]⟩], .int .i64 0]) ∧ Below w.heap.size w w') (S1 : ∀ w, Calls Tryz.prog 18 #[.agg #[.int .i64 k, .int .i64 n, .float .f64 f, .string (cut60 s)], .agg #[.int .i64 k', .int .i64 n', .float .f64 f', .string (cut60 s')]] w fun e w' => e = .returned (.bool true) ∧ Below w.heap.size w w') (L1 : ∀ w, Calls Tryz.prog 20 #[.agg #[.int .i64 k, .int .i64 n, .float .f64 f, .string (cut60 s)], .agg #[.int .i64 k', .int .i64 n', .float .f64 f', .string (cut60 s')]] w fun e w' => e = .returned (.bool false) ∧ Below w.heap.size w w') (R3 : ∀ w, Calls Tryz.prog 17 #[.agg #[.int .i64 1, .int .i64 1, .float .f64 0, .string ⟨#[]⟩]] w fun e w' => e = .returned (.bool true) ∧ Below w.heap.size w w') (w : World) (hT : Tabs w) :
    Calls Tryz.prog 12 #[.agg #[.int .i64 k, .int .i64 n, .int .u64 (f : Int), .string s], .agg #[.int .i64 k', .int .i64 n', .int .u64 (f' : Int), .string s']] w fun e w' => e = .returned (.bool true) ∧ Below w.heap.size w w' := by
  have hsf := run_store_float
  have c0 : Below w.heap.size w ((w.alloc (.cells #[.int .i64 k, .int .i64 n, .int .u64 (f : Int), .string s] 24)).alloc (.cells #[.int .i64 k', .int .i64 n', .int .u64 (f' : Int), .string s'] 24)) := ((Below.refl w.heap.size w).alloc (by simp) _).alloc (by simp <;> omega) _
  have LB0_0 : Lies ((w.alloc (.cells #[.int .i64 k, .int .i64 n, .int .u64 (f : Int), .string s] 24)).alloc (.cells #[.int .i64 k', .int .i64 n', .int .u64 (f' : Int), .string s'] 24)) (w.heap.size) (.int .i64 k) (.int .i64 n) (.int .u64 (f : Int)) (.string s) := (lies_at w (w.heap.size) (by simp) (.int .i64 k) (.int .i64 n) (.int .u64 (f : Int)) (.string s) 24).alloc _
  have LB1_0 : Lies ((w.alloc (.cells #[.int .i64 k, .int .i64 n, .int .u64 (f : Int), .string s] 24)).alloc (.cells #[.int .i64 k', .int .i64 n', .int .u64 (f' : Int), .string s'] 24)) (w.heap.size + 1) (.int .i64 k') (.int .i64 n') (.int .u64 (f' : Int)) (.string s') := lies_at (w.alloc (.cells #[.int .i64 k, .int .i64 n, .int .u64 (f : Int), .string s] 24)) (w.heap.size + 1) (by simp) (.int .i64 k') (.int .i64 n') (.int .u64 (f' : Int)) (.string s') 24
  go_enter Tryz.func12, Tryz.ntmps12
  go_wp2_with fail
  refine (shown_any _ (hT.below c0)).mono ?_; rintro e w1 ⟨rfl, hb1⟩
  have c1 := Below.chain c0 hb1
  have LB0_1 := LB0_0.below hb1
  have LB1_1 := LB1_0.below hb1
  have ⟨_, _, _, _⟩ := LB0_1
  have ⟨_, _, _, _⟩ := LB1_1
  go_wp2_with fail
  refine (of_any k n f s _).mono ?_; rintro e w2 ⟨rfl, hb2⟩
  have c2 := Below.chain c1 hb2
  have LB0_2 := LB0_1.below hb2
  have LB1_2 := LB1_1.below hb2
  have c3 := Below.chain c2 (below_a1 w2 (.cells #[.int .i64 k, .int .i64 n, .float .f64 f, .string (cut60 s)] 28))
  have LB0_3 := LB0_2.alloc (.cells #[.int .i64 k, .int .i64 n, .float .f64 f, .string (cut60 s)] 28)
  have LB1_3 := LB1_2.alloc (.cells #[.int .i64 k, .int .i64 n, .float .f64 f, .string (cut60 s)] 28)
  have Lx_3 := lies_new w2 (.int .i64 k) (.int .i64 n) (.float .f64 f) (.string (cut60 s)) 28
  have ⟨_, _, _, _⟩ := LB0_3
  have ⟨_, _, _, _⟩ := LB1_3
  have ⟨_, _, _, _⟩ := Lx_3
  go_wp2_with fail
  refine (of_any k' n' f' s' _).mono ?_; rintro e w4 ⟨rfl, hb4⟩
  have c4 := Below.chain c3 hb4
  have LB0_4 := LB0_3.below hb4
  have LB1_4 := LB1_3.below hb4
  have Lx_4 := Lx_3.below hb4
  have c5 := Below.chain c4 (below_a1 w4 (.cells #[.int .i64 k', .int .i64 n', .float .f64 f', .string (cut60 s')] 28))
  have LB0_5 := LB0_4.alloc (.cells #[.int .i64 k', .int .i64 n', .float .f64 f', .string (cut60 s')] 28)
  have LB1_5 := LB1_4.alloc (.cells #[.int .i64 k', .int .i64 n', .float .f64 f', .string (cut60 s')] 28)
  have Lx_5 := Lx_4.alloc (.cells #[.int .i64 k', .int .i64 n', .float .f64 f', .string (cut60 s')] 28)
  have Ly_5 := lies_new w4 (.int .i64 k') (.int .i64 n') (.float .f64 f') (.string (cut60 s')) 28
  have ⟨_, _, _, _⟩ := LB0_5
  have ⟨_, _, _, _⟩ := LB1_5
  have ⟨_, _, _, _⟩ := Lx_5
  have ⟨_, _, _, _⟩ := Ly_5
  go_wp2_with fail
  refine (R1 _).mono ?_; rintro e w6 ⟨rfl, hb6⟩
  have c6 := Below.chain c5 hb6
  have LB0_6 := LB0_5.below hb6
  have LB1_6 := LB1_5.below hb6
  have Lx_6 := Lx_5.below hb6
  have Ly_6 := Ly_5.below hb6
  have ⟨_, _, _, _⟩ := LB0_6
  have ⟨_, _, _, _⟩ := LB1_6
  have ⟨_, _, _, _⟩ := Lx_6
  have ⟨_, _, _, _⟩ := Ly_6
  go_wp2_with fail
  refine (R2 _).mono ?_; rintro e w7 ⟨rfl, hb7⟩
  have c7 := Below.chain c6 hb7
  have LB0_7 := LB0_6.below hb7
  have LB1_7 := LB1_6.below hb7
  have Lx_7 := Lx_6.below hb7
  have Ly_7 := Ly_6.below hb7
  have ⟨_, _, _, _⟩ := LB0_7
  have ⟨_, _, _, _⟩ := LB1_7
  have ⟨_, _, _, _⟩ := Lx_7
  have ⟨_, _, _, _⟩ := Ly_7
  go_wp2_with fail
  refine (T1 _).mono ?_; rintro e w8 ⟨rfl, hb8⟩
  have c8 := Below.chain c7 hb8
  have LB0_8 := LB0_7.below hb8
  have LB1_8 := LB1_7.below hb8
  have Lx_8 := Lx_7.below hb8
  have Ly_8 := Ly_7.below hb8
  have c9 := Below.chain c8 (below_a1 w8 (.cells #[.int .i64 1, .int .i64 1, .float .f64 0, .string ⟨#[]⟩] 28))
  have LB0_9 := LB0_8.alloc (.cells #[.int .i64 1, .int .i64 1, .float .f64 0, .string ⟨#[]⟩] 28)
  have LB1_9 := LB1_8.alloc (.cells #[.int .i64 1, .int .i64 1, .float .f64 0, .string ⟨#[]⟩] 28)
  have Lx_9 := Lx_8.alloc (.cells #[.int .i64 1, .int .i64 1, .float .f64 0, .string ⟨#[]⟩] 28)
  have Ly_9 := Ly_8.alloc (.cells #[.int .i64 1, .int .i64 1, .float .f64 0, .string ⟨#[]⟩] 28)
  have Lp_9 := lies_new w8 (.int .i64 1) (.int .i64 1) (.float .f64 0) (.string ⟨#[]⟩) 28
  have ⟨_, _, _, _⟩ := LB0_9
  have ⟨_, _, _, _⟩ := LB1_9
  have ⟨_, _, _, _⟩ := Lx_9
  have ⟨_, _, _, _⟩ := Ly_9
  have ⟨_, _, _, _⟩ := Lp_9
  go_wp2_with fail
  refine (T2 _).mono ?_; rintro e w10 ⟨rfl, hb10⟩
  have c10 := Below.chain c9 hb10
  have LB0_10 := LB0_9.below hb10
  have LB1_10 := LB1_9.below hb10
  have Lx_10 := Lx_9.below hb10
  have Ly_10 := Ly_9.below hb10
  have Lp_10 := Lp_9.below hb10
  have c11 := Below.chain c10 (below_a1 w10 (.cells #[.int .i64 1, .int .i64 0, .float .f64 0, .string ⟨#[]⟩] 28))
  have LB0_11 := LB0_10.alloc (.cells #[.int .i64 1, .int .i64 0, .float .f64 0, .string ⟨#[]⟩] 28)
  have LB1_11 := LB1_10.alloc (.cells #[.int .i64 1, .int .i64 0, .float .f64 0, .string ⟨#[]⟩] 28)
  have Lx_11 := Lx_10.alloc (.cells #[.int .i64 1, .int .i64 0, .float .f64 0, .string ⟨#[]⟩] 28)
  have Ly_11 := Ly_10.alloc (.cells #[.int .i64 1, .int .i64 0, .float .f64 0, .string ⟨#[]⟩] 28)
  have Lp_11 := Lp_10.alloc (.cells #[.int .i64 1, .int .i64 0, .float .f64 0, .string ⟨#[]⟩] 28)
  have Lq_11 := lies_new w10 (.int .i64 1) (.int .i64 0) (.float .f64 0) (.string ⟨#[]⟩) 28
  have ⟨_, _, _, _⟩ := LB0_11
  have ⟨_, _, _, _⟩ := LB1_11
  have ⟨_, _, _, _⟩ := Lx_11
  have ⟨_, _, _, _⟩ := Ly_11
  have ⟨_, _, _, _⟩ := Lp_11
  have ⟨_, _, _, _⟩ := Lq_11
  go_wp2_with fail
  have lx := later_lies Lx_11
  have ly := later_lies Ly_11
  have lp := later_lies Lp_11
  have lq := later_lies Lq_11
  refine wp_region_later (by kernel_rfl) (by kernel_rfl) ?_
  repeat (go_big_quiet_step (first | with_reducible exact later_call (S1 _) | with_reducible exact later_call (L1 _) | with_reducible exact later_call (R3 _)))
  refine wpQuiet_nil ?_
  rintro w' ⟨x, rfl⟩
  go_wp2_with fail
  go_ret
  exact ⟨rfl, Below.chain c11 x.kept⟩
set_option maxRecDepth 100000 in
set_option maxHeartbeats 1000000 in
theorem mD00 (k n k' n' : Int) (f f' : Nat) (s s' : ByteArray) (R1 : ∀ w, Calls Tryz.prog 16 #[.agg #[.int .i64 k, .int .i64 n, .float .f64 f, .string (cut60 s)]] w fun e w' => e = .returned (.bool true) ∧ Below w.heap.size w w') (R2 : ∀ w, Calls Tryz.prog 16 #[.agg #[.int .i64 k', .int .i64 n', .float .f64 f', .string (cut60 s')]] w fun e w' => e = .returned (.bool true) ∧ Below w.heap.size w w') (hk : (k != k') = false) (h0 : (k == 0) = false) (hN : (FloatKind.f64.format.order f f != some Ordering.eq) = false) (hN' : (FloatKind.f64.format.order f' f' != some Ordering.eq) = false) (hc : (k == 3) = true) (hu : (FloatKind.f64.format.order f 0 == some Ordering.eq) = true) (hv : (FloatKind.f64.format.order f' 0 == some Ordering.eq) = true) (T1 : ∀ w, Calls Tryz.prog 23 #[.string ⟨#[61]⟩, .agg #[.int .i64 k, .int .i64 n, .float .f64 f, .string (cut60 s)], .agg #[.int .i64 k', .int .i64 n', .float .f64 f', .string (cut60 s')]] w fun e w' => e = .returned (.tuple #[.agg #[.int .i64 1, .int .i64 1, .float .f64 0, .string ⟨#[]⟩], .int .i64 0]) ∧ Below w.heap.size w w') (T2 : ∀ w, Calls Tryz.prog 23 #[.string ⟨#[60]⟩, .agg #[.int .i64 k, .int .i64 n, .float .f64 f, .string (cut60 s)], .agg #[.int .i64 k', .int .i64 n', .float .f64 f', .string (cut60 s')]] w fun e w' => e = .returned (.tuple #[.agg #[.int .i64 1, .int .i64 0, .float .f64 0, .string ⟨#[]⟩], .int .i64 0]) ∧ Below w.heap.size w w') (S1 : ∀ w, Calls Tryz.prog 18 #[.agg #[.int .i64 k, .int .i64 n, .float .f64 f, .string (cut60 s)], .agg #[.int .i64 k', .int .i64 n', .float .f64 f', .string (cut60 s')]] w fun e w' => e = .returned (.bool false) ∧ Below w.heap.size w w') (L1 : ∀ w, Calls Tryz.prog 20 #[.agg #[.int .i64 k, .int .i64 n, .float .f64 f, .string (cut60 s)], .agg #[.int .i64 k', .int .i64 n', .float .f64 f', .string (cut60 s')]] w fun e w' => e = .returned (.bool false) ∧ Below w.heap.size w w') (R3 : ∀ w, Calls Tryz.prog 17 #[.agg #[.int .i64 1, .int .i64 1, .float .f64 0, .string ⟨#[]⟩]] w fun e w' => e = .returned (.bool true) ∧ Below w.heap.size w w') (w : World) (hT : Tabs w) :
    Calls Tryz.prog 12 #[.agg #[.int .i64 k, .int .i64 n, .int .u64 (f : Int), .string s], .agg #[.int .i64 k', .int .i64 n', .int .u64 (f' : Int), .string s']] w fun e w' => e = .returned (.bool true) ∧ Below w.heap.size w w' := by
  have hsf := run_store_float
  have c0 : Below w.heap.size w ((w.alloc (.cells #[.int .i64 k, .int .i64 n, .int .u64 (f : Int), .string s] 24)).alloc (.cells #[.int .i64 k', .int .i64 n', .int .u64 (f' : Int), .string s'] 24)) := ((Below.refl w.heap.size w).alloc (by simp) _).alloc (by simp <;> omega) _
  have LB0_0 : Lies ((w.alloc (.cells #[.int .i64 k, .int .i64 n, .int .u64 (f : Int), .string s] 24)).alloc (.cells #[.int .i64 k', .int .i64 n', .int .u64 (f' : Int), .string s'] 24)) (w.heap.size) (.int .i64 k) (.int .i64 n) (.int .u64 (f : Int)) (.string s) := (lies_at w (w.heap.size) (by simp) (.int .i64 k) (.int .i64 n) (.int .u64 (f : Int)) (.string s) 24).alloc _
  have LB1_0 : Lies ((w.alloc (.cells #[.int .i64 k, .int .i64 n, .int .u64 (f : Int), .string s] 24)).alloc (.cells #[.int .i64 k', .int .i64 n', .int .u64 (f' : Int), .string s'] 24)) (w.heap.size + 1) (.int .i64 k') (.int .i64 n') (.int .u64 (f' : Int)) (.string s') := lies_at (w.alloc (.cells #[.int .i64 k, .int .i64 n, .int .u64 (f : Int), .string s] 24)) (w.heap.size + 1) (by simp) (.int .i64 k') (.int .i64 n') (.int .u64 (f' : Int)) (.string s') 24
  go_enter Tryz.func12, Tryz.ntmps12
  go_wp2_with fail
  refine (shown_any _ (hT.below c0)).mono ?_; rintro e w1 ⟨rfl, hb1⟩
  have c1 := Below.chain c0 hb1
  have LB0_1 := LB0_0.below hb1
  have LB1_1 := LB1_0.below hb1
  have ⟨_, _, _, _⟩ := LB0_1
  have ⟨_, _, _, _⟩ := LB1_1
  go_wp2_with fail
  refine (of_any k n f s _).mono ?_; rintro e w2 ⟨rfl, hb2⟩
  have c2 := Below.chain c1 hb2
  have LB0_2 := LB0_1.below hb2
  have LB1_2 := LB1_1.below hb2
  have c3 := Below.chain c2 (below_a1 w2 (.cells #[.int .i64 k, .int .i64 n, .float .f64 f, .string (cut60 s)] 28))
  have LB0_3 := LB0_2.alloc (.cells #[.int .i64 k, .int .i64 n, .float .f64 f, .string (cut60 s)] 28)
  have LB1_3 := LB1_2.alloc (.cells #[.int .i64 k, .int .i64 n, .float .f64 f, .string (cut60 s)] 28)
  have Lx_3 := lies_new w2 (.int .i64 k) (.int .i64 n) (.float .f64 f) (.string (cut60 s)) 28
  have ⟨_, _, _, _⟩ := LB0_3
  have ⟨_, _, _, _⟩ := LB1_3
  have ⟨_, _, _, _⟩ := Lx_3
  go_wp2_with fail
  refine (of_any k' n' f' s' _).mono ?_; rintro e w4 ⟨rfl, hb4⟩
  have c4 := Below.chain c3 hb4
  have LB0_4 := LB0_3.below hb4
  have LB1_4 := LB1_3.below hb4
  have Lx_4 := Lx_3.below hb4
  have c5 := Below.chain c4 (below_a1 w4 (.cells #[.int .i64 k', .int .i64 n', .float .f64 f', .string (cut60 s')] 28))
  have LB0_5 := LB0_4.alloc (.cells #[.int .i64 k', .int .i64 n', .float .f64 f', .string (cut60 s')] 28)
  have LB1_5 := LB1_4.alloc (.cells #[.int .i64 k', .int .i64 n', .float .f64 f', .string (cut60 s')] 28)
  have Lx_5 := Lx_4.alloc (.cells #[.int .i64 k', .int .i64 n', .float .f64 f', .string (cut60 s')] 28)
  have Ly_5 := lies_new w4 (.int .i64 k') (.int .i64 n') (.float .f64 f') (.string (cut60 s')) 28
  have ⟨_, _, _, _⟩ := LB0_5
  have ⟨_, _, _, _⟩ := LB1_5
  have ⟨_, _, _, _⟩ := Lx_5
  have ⟨_, _, _, _⟩ := Ly_5
  go_wp2_with fail
  refine (R1 _).mono ?_; rintro e w6 ⟨rfl, hb6⟩
  have c6 := Below.chain c5 hb6
  have LB0_6 := LB0_5.below hb6
  have LB1_6 := LB1_5.below hb6
  have Lx_6 := Lx_5.below hb6
  have Ly_6 := Ly_5.below hb6
  have ⟨_, _, _, _⟩ := LB0_6
  have ⟨_, _, _, _⟩ := LB1_6
  have ⟨_, _, _, _⟩ := Lx_6
  have ⟨_, _, _, _⟩ := Ly_6
  go_wp2_with fail
  refine (R2 _).mono ?_; rintro e w7 ⟨rfl, hb7⟩
  have c7 := Below.chain c6 hb7
  have LB0_7 := LB0_6.below hb7
  have LB1_7 := LB1_6.below hb7
  have Lx_7 := Lx_6.below hb7
  have Ly_7 := Ly_6.below hb7
  have ⟨_, _, _, _⟩ := LB0_7
  have ⟨_, _, _, _⟩ := LB1_7
  have ⟨_, _, _, _⟩ := Lx_7
  have ⟨_, _, _, _⟩ := Ly_7
  go_wp2_with fail
  refine (T1 _).mono ?_; rintro e w8 ⟨rfl, hb8⟩
  have c8 := Below.chain c7 hb8
  have LB0_8 := LB0_7.below hb8
  have LB1_8 := LB1_7.below hb8
  have Lx_8 := Lx_7.below hb8
  have Ly_8 := Ly_7.below hb8
  have c9 := Below.chain c8 (below_a1 w8 (.cells #[.int .i64 1, .int .i64 1, .float .f64 0, .string ⟨#[]⟩] 28))
  have LB0_9 := LB0_8.alloc (.cells #[.int .i64 1, .int .i64 1, .float .f64 0, .string ⟨#[]⟩] 28)
  have LB1_9 := LB1_8.alloc (.cells #[.int .i64 1, .int .i64 1, .float .f64 0, .string ⟨#[]⟩] 28)
  have Lx_9 := Lx_8.alloc (.cells #[.int .i64 1, .int .i64 1, .float .f64 0, .string ⟨#[]⟩] 28)
  have Ly_9 := Ly_8.alloc (.cells #[.int .i64 1, .int .i64 1, .float .f64 0, .string ⟨#[]⟩] 28)
  have Lp_9 := lies_new w8 (.int .i64 1) (.int .i64 1) (.float .f64 0) (.string ⟨#[]⟩) 28
  have ⟨_, _, _, _⟩ := LB0_9
  have ⟨_, _, _, _⟩ := LB1_9
  have ⟨_, _, _, _⟩ := Lx_9
  have ⟨_, _, _, _⟩ := Ly_9
  have ⟨_, _, _, _⟩ := Lp_9
  go_wp2_with fail
  refine (T2 _).mono ?_; rintro e w10 ⟨rfl, hb10⟩
  have c10 := Below.chain c9 hb10
  have LB0_10 := LB0_9.below hb10
  have LB1_10 := LB1_9.below hb10
  have Lx_10 := Lx_9.below hb10
  have Ly_10 := Ly_9.below hb10
  have Lp_10 := Lp_9.below hb10
  have c11 := Below.chain c10 (below_a1 w10 (.cells #[.int .i64 1, .int .i64 0, .float .f64 0, .string ⟨#[]⟩] 28))
  have LB0_11 := LB0_10.alloc (.cells #[.int .i64 1, .int .i64 0, .float .f64 0, .string ⟨#[]⟩] 28)
  have LB1_11 := LB1_10.alloc (.cells #[.int .i64 1, .int .i64 0, .float .f64 0, .string ⟨#[]⟩] 28)
  have Lx_11 := Lx_10.alloc (.cells #[.int .i64 1, .int .i64 0, .float .f64 0, .string ⟨#[]⟩] 28)
  have Ly_11 := Ly_10.alloc (.cells #[.int .i64 1, .int .i64 0, .float .f64 0, .string ⟨#[]⟩] 28)
  have Lp_11 := Lp_10.alloc (.cells #[.int .i64 1, .int .i64 0, .float .f64 0, .string ⟨#[]⟩] 28)
  have Lq_11 := lies_new w10 (.int .i64 1) (.int .i64 0) (.float .f64 0) (.string ⟨#[]⟩) 28
  have ⟨_, _, _, _⟩ := LB0_11
  have ⟨_, _, _, _⟩ := LB1_11
  have ⟨_, _, _, _⟩ := Lx_11
  have ⟨_, _, _, _⟩ := Ly_11
  have ⟨_, _, _, _⟩ := Lp_11
  have ⟨_, _, _, _⟩ := Lq_11
  go_wp2_with fail
  have lx := later_lies Lx_11
  have ly := later_lies Ly_11
  have lp := later_lies Lp_11
  have lq := later_lies Lq_11
  refine wp_region_later (by kernel_rfl) (by kernel_rfl) ?_
  repeat (go_big_quiet_step (first | with_reducible exact later_call (S1 _) | with_reducible exact later_call (L1 _) | with_reducible exact later_call (R3 _)))
  refine wpQuiet_nil ?_
  rintro w' ⟨x, rfl⟩
  go_wp2_with fail
  go_ret
  exact ⟨rfl, Below.chain c11 x.kept⟩
set_option maxRecDepth 100000 in
set_option maxHeartbeats 1000000 in
theorem mD01 (k n k' n' : Int) (f f' : Nat) (s s' : ByteArray) (R1 : ∀ w, Calls Tryz.prog 16 #[.agg #[.int .i64 k, .int .i64 n, .float .f64 f, .string (cut60 s)]] w fun e w' => e = .returned (.bool true) ∧ Below w.heap.size w w') (R2 : ∀ w, Calls Tryz.prog 16 #[.agg #[.int .i64 k', .int .i64 n', .float .f64 f', .string (cut60 s')]] w fun e w' => e = .returned (.bool true) ∧ Below w.heap.size w w') (hk : (k != k') = false) (h0 : (k == 0) = false) (hN : (FloatKind.f64.format.order f f != some Ordering.eq) = false) (hN' : (FloatKind.f64.format.order f' f' != some Ordering.eq) = false) (hc : (k == 3) = true) (hu : (FloatKind.f64.format.order f 0 == some Ordering.eq) = true) (hv : (FloatKind.f64.format.order f' 0 == some Ordering.eq) = true) (T1 : ∀ w, Calls Tryz.prog 23 #[.string ⟨#[61]⟩, .agg #[.int .i64 k, .int .i64 n, .float .f64 f, .string (cut60 s)], .agg #[.int .i64 k', .int .i64 n', .float .f64 f', .string (cut60 s')]] w fun e w' => e = .returned (.tuple #[.agg #[.int .i64 1, .int .i64 1, .float .f64 0, .string ⟨#[]⟩], .int .i64 0]) ∧ Below w.heap.size w w') (T2 : ∀ w, Calls Tryz.prog 23 #[.string ⟨#[60]⟩, .agg #[.int .i64 k, .int .i64 n, .float .f64 f, .string (cut60 s)], .agg #[.int .i64 k', .int .i64 n', .float .f64 f', .string (cut60 s')]] w fun e w' => e = .returned (.tuple #[.agg #[.int .i64 1, .int .i64 0, .float .f64 0, .string ⟨#[]⟩], .int .i64 0]) ∧ Below w.heap.size w w') (S1 : ∀ w, Calls Tryz.prog 18 #[.agg #[.int .i64 k, .int .i64 n, .float .f64 f, .string (cut60 s)], .agg #[.int .i64 k', .int .i64 n', .float .f64 f', .string (cut60 s')]] w fun e w' => e = .returned (.bool false) ∧ Below w.heap.size w w') (L1 : ∀ w, Calls Tryz.prog 20 #[.agg #[.int .i64 k, .int .i64 n, .float .f64 f, .string (cut60 s)], .agg #[.int .i64 k', .int .i64 n', .float .f64 f', .string (cut60 s')]] w fun e w' => e = .returned (.bool true) ∧ Below w.heap.size w w') (R3 : ∀ w, Calls Tryz.prog 17 #[.agg #[.int .i64 1, .int .i64 1, .float .f64 0, .string ⟨#[]⟩]] w fun e w' => e = .returned (.bool true) ∧ Below w.heap.size w w') (w : World) (hT : Tabs w) :
    Calls Tryz.prog 12 #[.agg #[.int .i64 k, .int .i64 n, .int .u64 (f : Int), .string s], .agg #[.int .i64 k', .int .i64 n', .int .u64 (f' : Int), .string s']] w fun e w' => e = .returned (.bool true) ∧ Below w.heap.size w w' := by
  have hsf := run_store_float
  have c0 : Below w.heap.size w ((w.alloc (.cells #[.int .i64 k, .int .i64 n, .int .u64 (f : Int), .string s] 24)).alloc (.cells #[.int .i64 k', .int .i64 n', .int .u64 (f' : Int), .string s'] 24)) := ((Below.refl w.heap.size w).alloc (by simp) _).alloc (by simp <;> omega) _
  have LB0_0 : Lies ((w.alloc (.cells #[.int .i64 k, .int .i64 n, .int .u64 (f : Int), .string s] 24)).alloc (.cells #[.int .i64 k', .int .i64 n', .int .u64 (f' : Int), .string s'] 24)) (w.heap.size) (.int .i64 k) (.int .i64 n) (.int .u64 (f : Int)) (.string s) := (lies_at w (w.heap.size) (by simp) (.int .i64 k) (.int .i64 n) (.int .u64 (f : Int)) (.string s) 24).alloc _
  have LB1_0 : Lies ((w.alloc (.cells #[.int .i64 k, .int .i64 n, .int .u64 (f : Int), .string s] 24)).alloc (.cells #[.int .i64 k', .int .i64 n', .int .u64 (f' : Int), .string s'] 24)) (w.heap.size + 1) (.int .i64 k') (.int .i64 n') (.int .u64 (f' : Int)) (.string s') := lies_at (w.alloc (.cells #[.int .i64 k, .int .i64 n, .int .u64 (f : Int), .string s] 24)) (w.heap.size + 1) (by simp) (.int .i64 k') (.int .i64 n') (.int .u64 (f' : Int)) (.string s') 24
  go_enter Tryz.func12, Tryz.ntmps12
  go_wp2_with fail
  refine (shown_any _ (hT.below c0)).mono ?_; rintro e w1 ⟨rfl, hb1⟩
  have c1 := Below.chain c0 hb1
  have LB0_1 := LB0_0.below hb1
  have LB1_1 := LB1_0.below hb1
  have ⟨_, _, _, _⟩ := LB0_1
  have ⟨_, _, _, _⟩ := LB1_1
  go_wp2_with fail
  refine (of_any k n f s _).mono ?_; rintro e w2 ⟨rfl, hb2⟩
  have c2 := Below.chain c1 hb2
  have LB0_2 := LB0_1.below hb2
  have LB1_2 := LB1_1.below hb2
  have c3 := Below.chain c2 (below_a1 w2 (.cells #[.int .i64 k, .int .i64 n, .float .f64 f, .string (cut60 s)] 28))
  have LB0_3 := LB0_2.alloc (.cells #[.int .i64 k, .int .i64 n, .float .f64 f, .string (cut60 s)] 28)
  have LB1_3 := LB1_2.alloc (.cells #[.int .i64 k, .int .i64 n, .float .f64 f, .string (cut60 s)] 28)
  have Lx_3 := lies_new w2 (.int .i64 k) (.int .i64 n) (.float .f64 f) (.string (cut60 s)) 28
  have ⟨_, _, _, _⟩ := LB0_3
  have ⟨_, _, _, _⟩ := LB1_3
  have ⟨_, _, _, _⟩ := Lx_3
  go_wp2_with fail
  refine (of_any k' n' f' s' _).mono ?_; rintro e w4 ⟨rfl, hb4⟩
  have c4 := Below.chain c3 hb4
  have LB0_4 := LB0_3.below hb4
  have LB1_4 := LB1_3.below hb4
  have Lx_4 := Lx_3.below hb4
  have c5 := Below.chain c4 (below_a1 w4 (.cells #[.int .i64 k', .int .i64 n', .float .f64 f', .string (cut60 s')] 28))
  have LB0_5 := LB0_4.alloc (.cells #[.int .i64 k', .int .i64 n', .float .f64 f', .string (cut60 s')] 28)
  have LB1_5 := LB1_4.alloc (.cells #[.int .i64 k', .int .i64 n', .float .f64 f', .string (cut60 s')] 28)
  have Lx_5 := Lx_4.alloc (.cells #[.int .i64 k', .int .i64 n', .float .f64 f', .string (cut60 s')] 28)
  have Ly_5 := lies_new w4 (.int .i64 k') (.int .i64 n') (.float .f64 f') (.string (cut60 s')) 28
  have ⟨_, _, _, _⟩ := LB0_5
  have ⟨_, _, _, _⟩ := LB1_5
  have ⟨_, _, _, _⟩ := Lx_5
  have ⟨_, _, _, _⟩ := Ly_5
  go_wp2_with fail
  refine (R1 _).mono ?_; rintro e w6 ⟨rfl, hb6⟩
  have c6 := Below.chain c5 hb6
  have LB0_6 := LB0_5.below hb6
  have LB1_6 := LB1_5.below hb6
  have Lx_6 := Lx_5.below hb6
  have Ly_6 := Ly_5.below hb6
  have ⟨_, _, _, _⟩ := LB0_6
  have ⟨_, _, _, _⟩ := LB1_6
  have ⟨_, _, _, _⟩ := Lx_6
  have ⟨_, _, _, _⟩ := Ly_6
  go_wp2_with fail
  refine (R2 _).mono ?_; rintro e w7 ⟨rfl, hb7⟩
  have c7 := Below.chain c6 hb7
  have LB0_7 := LB0_6.below hb7
  have LB1_7 := LB1_6.below hb7
  have Lx_7 := Lx_6.below hb7
  have Ly_7 := Ly_6.below hb7
  have ⟨_, _, _, _⟩ := LB0_7
  have ⟨_, _, _, _⟩ := LB1_7
  have ⟨_, _, _, _⟩ := Lx_7
  have ⟨_, _, _, _⟩ := Ly_7
  go_wp2_with fail
  refine (T1 _).mono ?_; rintro e w8 ⟨rfl, hb8⟩
  have c8 := Below.chain c7 hb8
  have LB0_8 := LB0_7.below hb8
  have LB1_8 := LB1_7.below hb8
  have Lx_8 := Lx_7.below hb8
  have Ly_8 := Ly_7.below hb8
  have c9 := Below.chain c8 (below_a1 w8 (.cells #[.int .i64 1, .int .i64 1, .float .f64 0, .string ⟨#[]⟩] 28))
  have LB0_9 := LB0_8.alloc (.cells #[.int .i64 1, .int .i64 1, .float .f64 0, .string ⟨#[]⟩] 28)
  have LB1_9 := LB1_8.alloc (.cells #[.int .i64 1, .int .i64 1, .float .f64 0, .string ⟨#[]⟩] 28)
  have Lx_9 := Lx_8.alloc (.cells #[.int .i64 1, .int .i64 1, .float .f64 0, .string ⟨#[]⟩] 28)
  have Ly_9 := Ly_8.alloc (.cells #[.int .i64 1, .int .i64 1, .float .f64 0, .string ⟨#[]⟩] 28)
  have Lp_9 := lies_new w8 (.int .i64 1) (.int .i64 1) (.float .f64 0) (.string ⟨#[]⟩) 28
  have ⟨_, _, _, _⟩ := LB0_9
  have ⟨_, _, _, _⟩ := LB1_9
  have ⟨_, _, _, _⟩ := Lx_9
  have ⟨_, _, _, _⟩ := Ly_9
  have ⟨_, _, _, _⟩ := Lp_9
  go_wp2_with fail
  refine (T2 _).mono ?_; rintro e w10 ⟨rfl, hb10⟩
  have c10 := Below.chain c9 hb10
  have LB0_10 := LB0_9.below hb10
  have LB1_10 := LB1_9.below hb10
  have Lx_10 := Lx_9.below hb10
  have Ly_10 := Ly_9.below hb10
  have Lp_10 := Lp_9.below hb10
  have c11 := Below.chain c10 (below_a1 w10 (.cells #[.int .i64 1, .int .i64 0, .float .f64 0, .string ⟨#[]⟩] 28))
  have LB0_11 := LB0_10.alloc (.cells #[.int .i64 1, .int .i64 0, .float .f64 0, .string ⟨#[]⟩] 28)
  have LB1_11 := LB1_10.alloc (.cells #[.int .i64 1, .int .i64 0, .float .f64 0, .string ⟨#[]⟩] 28)
  have Lx_11 := Lx_10.alloc (.cells #[.int .i64 1, .int .i64 0, .float .f64 0, .string ⟨#[]⟩] 28)
  have Ly_11 := Ly_10.alloc (.cells #[.int .i64 1, .int .i64 0, .float .f64 0, .string ⟨#[]⟩] 28)
  have Lp_11 := Lp_10.alloc (.cells #[.int .i64 1, .int .i64 0, .float .f64 0, .string ⟨#[]⟩] 28)
  have Lq_11 := lies_new w10 (.int .i64 1) (.int .i64 0) (.float .f64 0) (.string ⟨#[]⟩) 28
  have ⟨_, _, _, _⟩ := LB0_11
  have ⟨_, _, _, _⟩ := LB1_11
  have ⟨_, _, _, _⟩ := Lx_11
  have ⟨_, _, _, _⟩ := Ly_11
  have ⟨_, _, _, _⟩ := Lp_11
  have ⟨_, _, _, _⟩ := Lq_11
  go_wp2_with fail
  have lx := later_lies Lx_11
  have ly := later_lies Ly_11
  have lp := later_lies Lp_11
  have lq := later_lies Lq_11
  refine wp_region_later (by kernel_rfl) (by kernel_rfl) ?_
  repeat (go_big_quiet_step (first | with_reducible exact later_call (S1 _) | with_reducible exact later_call (L1 _) | with_reducible exact later_call (R3 _)))
  refine wpQuiet_nil ?_
  rintro w' ⟨x, rfl⟩
  go_wp2_with fail
  go_ret
  exact ⟨rfl, Below.chain c11 x.kept⟩
set_option maxRecDepth 100000 in
set_option maxHeartbeats 1000000 in
theorem mD10 (k n k' n' : Int) (f f' : Nat) (s s' : ByteArray) (R1 : ∀ w, Calls Tryz.prog 16 #[.agg #[.int .i64 k, .int .i64 n, .float .f64 f, .string (cut60 s)]] w fun e w' => e = .returned (.bool true) ∧ Below w.heap.size w w') (R2 : ∀ w, Calls Tryz.prog 16 #[.agg #[.int .i64 k', .int .i64 n', .float .f64 f', .string (cut60 s')]] w fun e w' => e = .returned (.bool true) ∧ Below w.heap.size w w') (hk : (k != k') = false) (h0 : (k == 0) = false) (hN : (FloatKind.f64.format.order f f != some Ordering.eq) = false) (hN' : (FloatKind.f64.format.order f' f' != some Ordering.eq) = false) (hc : (k == 3) = true) (hu : (FloatKind.f64.format.order f 0 == some Ordering.eq) = true) (hv : (FloatKind.f64.format.order f' 0 == some Ordering.eq) = true) (T1 : ∀ w, Calls Tryz.prog 23 #[.string ⟨#[61]⟩, .agg #[.int .i64 k, .int .i64 n, .float .f64 f, .string (cut60 s)], .agg #[.int .i64 k', .int .i64 n', .float .f64 f', .string (cut60 s')]] w fun e w' => e = .returned (.tuple #[.agg #[.int .i64 1, .int .i64 1, .float .f64 0, .string ⟨#[]⟩], .int .i64 0]) ∧ Below w.heap.size w w') (T2 : ∀ w, Calls Tryz.prog 23 #[.string ⟨#[60]⟩, .agg #[.int .i64 k, .int .i64 n, .float .f64 f, .string (cut60 s)], .agg #[.int .i64 k', .int .i64 n', .float .f64 f', .string (cut60 s')]] w fun e w' => e = .returned (.tuple #[.agg #[.int .i64 1, .int .i64 0, .float .f64 0, .string ⟨#[]⟩], .int .i64 0]) ∧ Below w.heap.size w w') (S1 : ∀ w, Calls Tryz.prog 18 #[.agg #[.int .i64 k, .int .i64 n, .float .f64 f, .string (cut60 s)], .agg #[.int .i64 k', .int .i64 n', .float .f64 f', .string (cut60 s')]] w fun e w' => e = .returned (.bool true) ∧ Below w.heap.size w w') (L1 : ∀ w, Calls Tryz.prog 20 #[.agg #[.int .i64 k, .int .i64 n, .float .f64 f, .string (cut60 s)], .agg #[.int .i64 k', .int .i64 n', .float .f64 f', .string (cut60 s')]] w fun e w' => e = .returned (.bool false) ∧ Below w.heap.size w w') (R3 : ∀ w, Calls Tryz.prog 17 #[.agg #[.int .i64 1, .int .i64 1, .float .f64 0, .string ⟨#[]⟩]] w fun e w' => e = .returned (.bool true) ∧ Below w.heap.size w w') (w : World) (hT : Tabs w) :
    Calls Tryz.prog 12 #[.agg #[.int .i64 k, .int .i64 n, .int .u64 (f : Int), .string s], .agg #[.int .i64 k', .int .i64 n', .int .u64 (f' : Int), .string s']] w fun e w' => e = .returned (.bool true) ∧ Below w.heap.size w w' := by
  have hsf := run_store_float
  have c0 : Below w.heap.size w ((w.alloc (.cells #[.int .i64 k, .int .i64 n, .int .u64 (f : Int), .string s] 24)).alloc (.cells #[.int .i64 k', .int .i64 n', .int .u64 (f' : Int), .string s'] 24)) := ((Below.refl w.heap.size w).alloc (by simp) _).alloc (by simp <;> omega) _
  have LB0_0 : Lies ((w.alloc (.cells #[.int .i64 k, .int .i64 n, .int .u64 (f : Int), .string s] 24)).alloc (.cells #[.int .i64 k', .int .i64 n', .int .u64 (f' : Int), .string s'] 24)) (w.heap.size) (.int .i64 k) (.int .i64 n) (.int .u64 (f : Int)) (.string s) := (lies_at w (w.heap.size) (by simp) (.int .i64 k) (.int .i64 n) (.int .u64 (f : Int)) (.string s) 24).alloc _
  have LB1_0 : Lies ((w.alloc (.cells #[.int .i64 k, .int .i64 n, .int .u64 (f : Int), .string s] 24)).alloc (.cells #[.int .i64 k', .int .i64 n', .int .u64 (f' : Int), .string s'] 24)) (w.heap.size + 1) (.int .i64 k') (.int .i64 n') (.int .u64 (f' : Int)) (.string s') := lies_at (w.alloc (.cells #[.int .i64 k, .int .i64 n, .int .u64 (f : Int), .string s] 24)) (w.heap.size + 1) (by simp) (.int .i64 k') (.int .i64 n') (.int .u64 (f' : Int)) (.string s') 24
  go_enter Tryz.func12, Tryz.ntmps12
  go_wp2_with fail
  refine (shown_any _ (hT.below c0)).mono ?_; rintro e w1 ⟨rfl, hb1⟩
  have c1 := Below.chain c0 hb1
  have LB0_1 := LB0_0.below hb1
  have LB1_1 := LB1_0.below hb1
  have ⟨_, _, _, _⟩ := LB0_1
  have ⟨_, _, _, _⟩ := LB1_1
  go_wp2_with fail
  refine (of_any k n f s _).mono ?_; rintro e w2 ⟨rfl, hb2⟩
  have c2 := Below.chain c1 hb2
  have LB0_2 := LB0_1.below hb2
  have LB1_2 := LB1_1.below hb2
  have c3 := Below.chain c2 (below_a1 w2 (.cells #[.int .i64 k, .int .i64 n, .float .f64 f, .string (cut60 s)] 28))
  have LB0_3 := LB0_2.alloc (.cells #[.int .i64 k, .int .i64 n, .float .f64 f, .string (cut60 s)] 28)
  have LB1_3 := LB1_2.alloc (.cells #[.int .i64 k, .int .i64 n, .float .f64 f, .string (cut60 s)] 28)
  have Lx_3 := lies_new w2 (.int .i64 k) (.int .i64 n) (.float .f64 f) (.string (cut60 s)) 28
  have ⟨_, _, _, _⟩ := LB0_3
  have ⟨_, _, _, _⟩ := LB1_3
  have ⟨_, _, _, _⟩ := Lx_3
  go_wp2_with fail
  refine (of_any k' n' f' s' _).mono ?_; rintro e w4 ⟨rfl, hb4⟩
  have c4 := Below.chain c3 hb4
  have LB0_4 := LB0_3.below hb4
  have LB1_4 := LB1_3.below hb4
  have Lx_4 := Lx_3.below hb4
  have c5 := Below.chain c4 (below_a1 w4 (.cells #[.int .i64 k', .int .i64 n', .float .f64 f', .string (cut60 s')] 28))
  have LB0_5 := LB0_4.alloc (.cells #[.int .i64 k', .int .i64 n', .float .f64 f', .string (cut60 s')] 28)
  have LB1_5 := LB1_4.alloc (.cells #[.int .i64 k', .int .i64 n', .float .f64 f', .string (cut60 s')] 28)
  have Lx_5 := Lx_4.alloc (.cells #[.int .i64 k', .int .i64 n', .float .f64 f', .string (cut60 s')] 28)
  have Ly_5 := lies_new w4 (.int .i64 k') (.int .i64 n') (.float .f64 f') (.string (cut60 s')) 28
  have ⟨_, _, _, _⟩ := LB0_5
  have ⟨_, _, _, _⟩ := LB1_5
  have ⟨_, _, _, _⟩ := Lx_5
  have ⟨_, _, _, _⟩ := Ly_5
  go_wp2_with fail
  refine (R1 _).mono ?_; rintro e w6 ⟨rfl, hb6⟩
  have c6 := Below.chain c5 hb6
  have LB0_6 := LB0_5.below hb6
  have LB1_6 := LB1_5.below hb6
  have Lx_6 := Lx_5.below hb6
  have Ly_6 := Ly_5.below hb6
  have ⟨_, _, _, _⟩ := LB0_6
  have ⟨_, _, _, _⟩ := LB1_6
  have ⟨_, _, _, _⟩ := Lx_6
  have ⟨_, _, _, _⟩ := Ly_6
  go_wp2_with fail
  refine (R2 _).mono ?_; rintro e w7 ⟨rfl, hb7⟩
  have c7 := Below.chain c6 hb7
  have LB0_7 := LB0_6.below hb7
  have LB1_7 := LB1_6.below hb7
  have Lx_7 := Lx_6.below hb7
  have Ly_7 := Ly_6.below hb7
  have ⟨_, _, _, _⟩ := LB0_7
  have ⟨_, _, _, _⟩ := LB1_7
  have ⟨_, _, _, _⟩ := Lx_7
  have ⟨_, _, _, _⟩ := Ly_7
  go_wp2_with fail
  refine (T1 _).mono ?_; rintro e w8 ⟨rfl, hb8⟩
  have c8 := Below.chain c7 hb8
  have LB0_8 := LB0_7.below hb8
  have LB1_8 := LB1_7.below hb8
  have Lx_8 := Lx_7.below hb8
  have Ly_8 := Ly_7.below hb8
  have c9 := Below.chain c8 (below_a1 w8 (.cells #[.int .i64 1, .int .i64 1, .float .f64 0, .string ⟨#[]⟩] 28))
  have LB0_9 := LB0_8.alloc (.cells #[.int .i64 1, .int .i64 1, .float .f64 0, .string ⟨#[]⟩] 28)
  have LB1_9 := LB1_8.alloc (.cells #[.int .i64 1, .int .i64 1, .float .f64 0, .string ⟨#[]⟩] 28)
  have Lx_9 := Lx_8.alloc (.cells #[.int .i64 1, .int .i64 1, .float .f64 0, .string ⟨#[]⟩] 28)
  have Ly_9 := Ly_8.alloc (.cells #[.int .i64 1, .int .i64 1, .float .f64 0, .string ⟨#[]⟩] 28)
  have Lp_9 := lies_new w8 (.int .i64 1) (.int .i64 1) (.float .f64 0) (.string ⟨#[]⟩) 28
  have ⟨_, _, _, _⟩ := LB0_9
  have ⟨_, _, _, _⟩ := LB1_9
  have ⟨_, _, _, _⟩ := Lx_9
  have ⟨_, _, _, _⟩ := Ly_9
  have ⟨_, _, _, _⟩ := Lp_9
  go_wp2_with fail
  refine (T2 _).mono ?_; rintro e w10 ⟨rfl, hb10⟩
  have c10 := Below.chain c9 hb10
  have LB0_10 := LB0_9.below hb10
  have LB1_10 := LB1_9.below hb10
  have Lx_10 := Lx_9.below hb10
  have Ly_10 := Ly_9.below hb10
  have Lp_10 := Lp_9.below hb10
  have c11 := Below.chain c10 (below_a1 w10 (.cells #[.int .i64 1, .int .i64 0, .float .f64 0, .string ⟨#[]⟩] 28))
  have LB0_11 := LB0_10.alloc (.cells #[.int .i64 1, .int .i64 0, .float .f64 0, .string ⟨#[]⟩] 28)
  have LB1_11 := LB1_10.alloc (.cells #[.int .i64 1, .int .i64 0, .float .f64 0, .string ⟨#[]⟩] 28)
  have Lx_11 := Lx_10.alloc (.cells #[.int .i64 1, .int .i64 0, .float .f64 0, .string ⟨#[]⟩] 28)
  have Ly_11 := Ly_10.alloc (.cells #[.int .i64 1, .int .i64 0, .float .f64 0, .string ⟨#[]⟩] 28)
  have Lp_11 := Lp_10.alloc (.cells #[.int .i64 1, .int .i64 0, .float .f64 0, .string ⟨#[]⟩] 28)
  have Lq_11 := lies_new w10 (.int .i64 1) (.int .i64 0) (.float .f64 0) (.string ⟨#[]⟩) 28
  have ⟨_, _, _, _⟩ := LB0_11
  have ⟨_, _, _, _⟩ := LB1_11
  have ⟨_, _, _, _⟩ := Lx_11
  have ⟨_, _, _, _⟩ := Ly_11
  have ⟨_, _, _, _⟩ := Lp_11
  have ⟨_, _, _, _⟩ := Lq_11
  go_wp2_with fail
  have lx := later_lies Lx_11
  have ly := later_lies Ly_11
  have lp := later_lies Lp_11
  have lq := later_lies Lq_11
  refine wp_region_later (by kernel_rfl) (by kernel_rfl) ?_
  repeat (go_big_quiet_step (first | with_reducible exact later_call (S1 _) | with_reducible exact later_call (L1 _) | with_reducible exact later_call (R3 _)))
  refine wpQuiet_nil ?_
  rintro w' ⟨x, rfl⟩
  go_wp2_with fail
  go_ret
  exact ⟨rfl, Below.chain c11 x.kept⟩
/-- the keys stand as the floats do, but for both noughts -/
theorem key_kbits {a b : Nat} (ha : a < 18446744073709551616) (hb : b < 18446744073709551616) (na : Flt.isNan a = false) (nb : Flt.isNan b = false) : (Flt.key a < Flt.key b ↔ Flt.kbits a < Flt.kbits b ∧ ¬ (Flt.key a = 0 ∧ Flt.key b = 0)) ∧ (Flt.key a = Flt.key b ↔ a = b ∨ (Flt.key a = 0 ∧ Flt.key b = 0)) := by
  unfold Flt.kbits Flt.key Flt.rung
  rw [na, nb]
  simp only [Bool.false_eq_true, if_false]
  (repeat' split) <;> omega
/-- what Test and Less and Same tell of two right values of one Kind -/
theorem eq_facts (k n n' : Int) (f f' : Nat) (s s' : ByteArray) (hf : f < 18446744073709551616) (hf' : f' < 18446744073709551616) (r : rightB k n f s = true) (r' : rightB k n' f' s' = true) (k0 : k ≠ 0) (na : Flt.isNan f = false) (nb : Flt.isNan f' = false) :
    (holdB 1 (ordI k n f s k n' f' s') = (idB k n (Flt.canon f) s k n' (Flt.canon f') s' || (decide (k = 3) && decide (Flt.key f = 0) && decide (Flt.key f' = 0)))) ∧ (holdB 3 (ordI k n f s k n' f' s') = (lessB k n f s k n' f' s' && !(decide (k = 3) && decide (Flt.key f = 0) && decide (Flt.key f' = 0)))) ∧ (idB k n (Flt.canon f) s k n' (Flt.canon f') s' && lessB k n f s k n' f' s') = false := by
  have hk := key_kbits hf hf' na nb
  have c1 := Flt.canon_num na
  have c2 := Flt.canon_num nb
  have ht := bl_tri s.toList s'.toList
  have hke : Flt.kbits f = Flt.kbits f' ↔ f = f' := by have := kb_eq hf hf'; rw [c1, c2] at this; exact this
  rw [c1, c2]
  unfold rightB at r r'
  rw [if_neg k0] at r r'
  by_cases e1 : k = 1
  · subst e1
    simp at r r'
    obtain ⟨_, rfl, r3⟩ := r
    obtain ⟨_, rfl, r3'⟩ := r'
    simp [ordI, holdB, idB, lessB, Flt.cmp3, r3, r3', Op.bytesLess]
    grind
  rw [if_neg e1] at r r'
  by_cases e2 : k = 2
  · subst e2
    simp at r r'
    obtain ⟨rfl, r3⟩ := r
    obtain ⟨rfl, r3'⟩ := r'
    simp [ordI, holdB, idB, lessB, Flt.cmp3, r3, r3', Op.bytesLess]
    grind
  rw [if_neg e2] at r r'
  by_cases e3 : k = 3
  · subst e3
    simp at r r'
    obtain ⟨rfl, _, r3⟩ := r
    obtain ⟨rfl, _, r3'⟩ := r'
    simp only [ordI, holdB, idB, lessB, Flt.cmp3, r3, r3', Op.bytesLess, fOrd, na, nb]
    simp
    grind
  rw [if_neg e3] at r r'
  by_cases e4 : k = 4
  · subst e4
    simp at r r'
    obtain ⟨rfl, rfl⟩ := r
    obtain ⟨rfl, rfl⟩ := r'
    simp [ordI, holdB, idB, lessB, cmpS]
    rcases ht with h | h | h <;> simp [h, bl_irr]
  · rw [if_neg e4] at r; cases r
theorem walk (k n : Int) (f : Nat) (s : ByteArray) (k' n' : Int) (f' : Nat) (s' : ByteArray) (_ : -9223372036854775808 ≤ k) (_ : k ≤ 9223372036854775807) (n1 : -9223372036854775808 ≤ n) (n2 : n ≤ 9223372036854775807) (hf : f < 18446744073709551616) (hs : s.size ≤ maxLen) (_ : -9223372036854775808 ≤ k') (_ : k' ≤ 9223372036854775807) (n1' : -9223372036854775808 ≤ n') (n2' : n' ≤ 9223372036854775807) (hf' : f' < 18446744073709551616) (hs' : s'.size ≤ maxLen) (w : World) (hT : Tabs w) :
    Calls Tryz.prog 12 #[.agg #[.int .i64 k, .int .i64 n, .int .u64 (f : Int), .string s], .agg #[.int .i64 k', .int .i64 n', .int .u64 (f' : Int), .string s']] w fun e w' => e = .returned (.bool true) ∧ Below w.heap.size w w' := by
  have R1 := right_any k n f hf (cut60 s)
  have R2 := right_any k' n' f' hf' (cut60 s')
  rcases bool_cases (rightB k n f (cut60 s)) with ha | ha
  · rw [ha] at R1
    exact e1 k n k' n' f f' s s' R1 w hT
  rw [ha] at R1
  rcases bool_cases (rightB k' n' f' (cut60 s')) with hb | hb
  · rw [hb] at R2
    exact e2 k n k' n' f f' s s' R1 R2 w hT
  rw [hb] at R2
  by_cases hk : k ≠ k'
  · exact e3 k n k' n' f f' s s' R1 R2 (by simpa using hk) w hT
  have hk : k = k' := Decidable.not_not.1 hk
  subst hk
  have hk' : (k != k) = false := by simp
  by_cases k0 : k = 0
  · exact e4 k n k n' f f' s s' R1 R2 hk' (by simpa using k0) w hT
  have k0' : (k == 0) = false := by simpa using k0
  have on := Flt.ord_self hf
  have on' := Flt.ord_self hf'
  rcases (bool_cases (Flt.isNan f)).symm with na | na
  · rw [na] at on
    exact e5 k n k n' f f' s s' R1 R2 hk' k0' on w hT
  rcases (bool_cases (Flt.isNan f')).symm with nb | nb
  · rw [na] at on
    rw [nb] at on'
    exact e6 k n k n' f f' s s' R1 R2 hk' k0' on on' w hT
  rw [na] at on
  rw [nb] at on'
  have z : Flt.isNan 0 = false := by decide
  have kz : Flt.key 0 = 0 := by decide
  have hu := Flt.ord_eq hf (show 0 < 18446744073709551616 by decide)
  have hv := Flt.ord_eq hf' (show 0 < 18446744073709551616 by decide)
  rw [na, z, kz] at hu
  rw [nb, z, kz] at hv
  simp only [Bool.not_false, Bool.true_and] at hu hv
  obtain ⟨f1, f2, f3⟩ := eq_facts k n n' f f' (cut60 s) (cut60 s') hf hf' ha hb k0 na nb
  have T1 := test_any ⟨#[61]⟩ k n k n' f f' (cut60 s) (cut60 s') n1 n2 n1' n2' hf hf'
  have T2 := test_any ⟨#[60]⟩ k n k n' f f' (cut60 s) (cut60 s') n1 n2 n1' n2' hf hf'
  have r1 : testR ⟨#[61]⟩ k n f (cut60 s) k n' f' (cut60 s') = (1, b01 (idB k n (Flt.canon f) (cut60 s) k n' (Flt.canon f') (cut60 s') || (decide (k = 3) && decide (Flt.key f = 0) && decide (Flt.key f' = 0))), 0) := by
    unfold testR
    rw [if_neg (by rw [sign1.ix, ha, hb]; simp), if_neg (by simp [k0]), if_neg (by simp), sign1.ix, f1]
  have r2 : testR ⟨#[60]⟩ k n f (cut60 s) k n' f' (cut60 s') = (1, b01 (lessB k n f (cut60 s) k n' f' (cut60 s') && !(decide (k = 3) && decide (Flt.key f = 0) && decide (Flt.key f' = 0))), 0) := by
    unfold testR
    rw [if_neg (by rw [sign3.ix, ha, hb]; simp), if_neg (by simp [k0]), if_neg (by simp), sign3.ix, f2]
  rw [r1] at T1
  rw [r2] at T2
  have S1 := same_any k n k n' f f' hf hf' (cut60 s) (cut60 s')
  have L1 := less_any' k n k n' f f' hf hf' (cut60 s) (cut60 s')
  have R3 : ∀ N : Int, N = 0 ∨ N = 1 → ∀ w, Calls Tryz.prog 17 #[.agg #[.int .i64 1, .int .i64 N, .float .f64 0, .string ⟨#[]⟩]] w fun e w' => e = .returned (.bool true) ∧ Below w.heap.size w w' := fun N hN w => (rright_any 1 N 0 (by decide) ⟨#[]⟩ w).mono fun e w' h => ret_bool' (by simp [rightB, hN]) h
  have Ra := R3 0 (Or.inl rfl)
  have Rb := R3 1 (Or.inr rfl)
  clear R3 r1 r2 f1 f2
  rcases bool_cases (decide (k = 3)) with d1 | d1 <;> rcases bool_cases (decide (Flt.key f = 0)) with d2 | d2 <;> rcases bool_cases (decide (Flt.key f' = 0)) with d3 | d3 <;> rcases bool_cases (idB k n (Flt.canon f) (cut60 s) k n' (Flt.canon f') (cut60 s')) with d4 | d4 <;> rcases bool_cases (lessB k n f (cut60 s) k n' f' (cut60 s')) with d5 | d5
  all_goals
    rw [d4, d5] at f3
    rw [d1, d2, d3] at T1 T2
    rw [d4] at T1 S1
    rw [d5] at T2 L1
    rw [d2] at hu
    rw [d3] at hv
    have hc : (k == 3) = _ := d1
    first
      | (cases f3; done)
      | exact mA00 k n k n' f f' s s' R1 R2 hk' k0' on on' hc T1 T2 S1 L1 Ra w hT
      | exact mA01 k n k n' f f' s s' R1 R2 hk' k0' on on' hc T1 T2 S1 L1 Ra w hT
      | exact mA10 k n k n' f f' s s' R1 R2 hk' k0' on on' hc T1 T2 S1 L1 Rb w hT
      | exact mB00 k n k n' f f' s s' R1 R2 hk' k0' on on' hc hu T1 T2 S1 L1 Ra w hT
      | exact mB01 k n k n' f f' s s' R1 R2 hk' k0' on on' hc hu T1 T2 S1 L1 Ra w hT
      | exact mB10 k n k n' f f' s s' R1 R2 hk' k0' on on' hc hu T1 T2 S1 L1 Rb w hT
      | exact mC00 k n k n' f f' s s' R1 R2 hk' k0' on on' hc hu hv T1 T2 S1 L1 Ra w hT
      | exact mC01 k n k n' f f' s s' R1 R2 hk' k0' on on' hc hu hv T1 T2 S1 L1 Ra w hT
      | exact mC10 k n k n' f f' s s' R1 R2 hk' k0' on on' hc hu hv T1 T2 S1 L1 Rb w hT
      | exact mD00 k n k n' f f' s s' R1 R2 hk' k0' on on' hc hu hv T1 T2 S1 L1 Rb w hT
      | exact mD01 k n k n' f f' s s' R1 R2 hk' k0' on on' hc hu hv T1 T2 S1 L1 Rb w hT
      | exact mD10 k n k n' f f' s s' R1 R2 hk' k0' on on' hc hu hv T1 T2 S1 L1 Rb w hT
end Go.Proofs.YtnjlcdemfdokoaaGreatDoor.ValueEqual
