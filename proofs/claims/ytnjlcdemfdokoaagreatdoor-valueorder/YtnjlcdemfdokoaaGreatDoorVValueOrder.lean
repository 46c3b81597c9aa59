/- The walk of the law ValueOrder. -/
import Derived.Test.YtnjlcdemfdokoaaGreatDoorVs
import Derived.Test.YtnjlcdemfdokoaaGreatDoorVu
namespace Go.Proofs.YtnjlcdemfdokoaaGreatDoor.ValueOrder
open Go Go.RowKit
set_option linter.unusedVariables false
set_option maxRecDepth 100000 in
theorem core0 (k n k' n' k'' n'' : Int) (f f' f'' : Nat) (s s' s'' : ByteArray) (A : ∀ w, Calls Tryz.prog 20 #[.agg #[.int .i64 k, .int .i64 n, .float .f64 f, .string (cut60 s)], .agg #[.int .i64 k', .int .i64 n', .float .f64 f', .string (cut60 s')]] w fun e w' => e = .returned (.bool false) ∧ Below w.heap.size w w') (B : ∀ w, Calls Tryz.prog 20 #[.agg #[.int .i64 k', .int .i64 n', .float .f64 f', .string (cut60 s')], .agg #[.int .i64 k, .int .i64 n, .float .f64 f, .string (cut60 s)]] w fun e w' => e = .returned (.bool true) ∧ Below w.heap.size w w') (S : ∀ w, Calls Tryz.prog 18 #[.agg #[.int .i64 k, .int .i64 n, .float .f64 f, .string (cut60 s)], .agg #[.int .i64 k', .int .i64 n', .float .f64 f', .string (cut60 s')]] w fun e w' => e = .returned (.bool false) ∧ Below w.heap.size w w') (I : ∀ w, Calls Tryz.prog 20 #[.agg #[.int .i64 k, .int .i64 n, .float .f64 f, .string (cut60 s)], .agg #[.int .i64 k, .int .i64 n, .float .f64 f, .string (cut60 s)]] w fun e w' => e = .returned (.bool false) ∧ Below w.heap.size w w') (w : World) (hT : Tabs w) :
    Calls Tryz.prog 8 #[.agg #[.int .i64 k, .int .i64 n, .int .u64 (f : Int), .string s], .agg #[.int .i64 k', .int .i64 n', .int .u64 (f' : Int), .string s'], .agg #[.int .i64 k'', .int .i64 n'', .int .u64 (f'' : Int), .string s'']] w fun e w' => e = .returned (.bool true) ∧ Below w.heap.size w w' := by
  have hsf := run_store_float
  have c0 : Below w.heap.size w (((w.alloc (.cells #[.int .i64 k, .int .i64 n, .int .u64 (f : Int), .string s] 24)).alloc (.cells #[.int .i64 k', .int .i64 n', .int .u64 (f' : Int), .string s'] 24)).alloc (.cells #[.int .i64 k'', .int .i64 n'', .int .u64 (f'' : Int), .string s''] 24)) := (((Below.refl w.heap.size w).alloc (by simp) _).alloc (by simp <;> omega) _).alloc (by simp <;> omega) _
  have LB0_0 : Lies (((w.alloc (.cells #[.int .i64 k, .int .i64 n, .int .u64 (f : Int), .string s] 24)).alloc (.cells #[.int .i64 k', .int .i64 n', .int .u64 (f' : Int), .string s'] 24)).alloc (.cells #[.int .i64 k'', .int .i64 n'', .int .u64 (f'' : Int), .string s''] 24)) (w.heap.size) (.int .i64 k) (.int .i64 n) (.int .u64 (f : Int)) (.string s) := ((lies_at w (w.heap.size) (by simp) (.int .i64 k) (.int .i64 n) (.int .u64 (f : Int)) (.string s) 24).alloc _).alloc _
  have LB1_0 : Lies (((w.alloc (.cells #[.int .i64 k, .int .i64 n, .int .u64 (f : Int), .string s] 24)).alloc (.cells #[.int .i64 k', .int .i64 n', .int .u64 (f' : Int), .string s'] 24)).alloc (.cells #[.int .i64 k'', .int .i64 n'', .int .u64 (f'' : Int), .string s''] 24)) (w.heap.size + 1) (.int .i64 k') (.int .i64 n') (.int .u64 (f' : Int)) (.string s') := (lies_at (w.alloc (.cells #[.int .i64 k, .int .i64 n, .int .u64 (f : Int), .string s] 24)) (w.heap.size + 1) (by simp) (.int .i64 k') (.int .i64 n') (.int .u64 (f' : Int)) (.string s') 24).alloc _
  have LB2_0 : Lies (((w.alloc (.cells #[.int .i64 k, .int .i64 n, .int .u64 (f : Int), .string s] 24)).alloc (.cells #[.int .i64 k', .int .i64 n', .int .u64 (f' : Int), .string s'] 24)).alloc (.cells #[.int .i64 k'', .int .i64 n'', .int .u64 (f'' : Int), .string s''] 24)) (w.heap.size + 1 + 1) (.int .i64 k'') (.int .i64 n'') (.int .u64 (f'' : Int)) (.string s'') := lies_at ((w.alloc (.cells #[.int .i64 k, .int .i64 n, .int .u64 (f : Int), .string s] 24)).alloc (.cells #[.int .i64 k', .int .i64 n', .int .u64 (f' : Int), .string s'] 24)) (w.heap.size + 1 + 1) (by simp) (.int .i64 k'') (.int .i64 n'') (.int .u64 (f'' : Int)) (.string s'') 24
  go_enter Tryz.func8, Tryz.ntmps8
  go_wp2_with fail
  refine (shown_any _ (hT.below c0)).mono ?_; rintro e w1 ⟨rfl, hb1⟩
  have c1 := Below.chain c0 hb1
  have LB0_1 := LB0_0.below hb1
  have LB1_1 := LB1_0.below hb1
  have LB2_1 := LB2_0.below hb1
  have ⟨_, _, _, _⟩ := LB0_1
  have ⟨_, _, _, _⟩ := LB1_1
  have ⟨_, _, _, _⟩ := LB2_1
  go_wp2_with fail
  refine (of_any k n f s _).mono ?_; rintro e w2 ⟨rfl, hb2⟩
  have c2 := Below.chain c1 hb2
  have LB0_2 := LB0_1.below hb2
  have LB1_2 := LB1_1.below hb2
  have LB2_2 := LB2_1.below hb2
  have c3 := Below.chain c2 (below_a1 w2 (.cells #[.int .i64 k, .int .i64 n, .float .f64 f, .string (cut60 s)] 28))
  have LB0_3 := LB0_2.alloc (.cells #[.int .i64 k, .int .i64 n, .float .f64 f, .string (cut60 s)] 28)
  have LB1_3 := LB1_2.alloc (.cells #[.int .i64 k, .int .i64 n, .float .f64 f, .string (cut60 s)] 28)
  have LB2_3 := LB2_2.alloc (.cells #[.int .i64 k, .int .i64 n, .float .f64 f, .string (cut60 s)] 28)
  have Lx_3 := lies_new w2 (.int .i64 k) (.int .i64 n) (.float .f64 f) (.string (cut60 s)) 28
  have ⟨_, _, _, _⟩ := LB0_3
  have ⟨_, _, _, _⟩ := LB1_3
  have ⟨_, _, _, _⟩ := LB2_3
  have ⟨_, _, _, _⟩ := Lx_3
  go_wp2_with fail
  refine (of_any k' n' f' s' _).mono ?_; rintro e w4 ⟨rfl, hb4⟩
  have c4 := Below.chain c3 hb4
  have LB0_4 := LB0_3.below hb4
  have LB1_4 := LB1_3.below hb4
  have LB2_4 := LB2_3.below hb4
  have Lx_4 := Lx_3.below hb4
  have c5 := Below.chain c4 (below_a1 w4 (.cells #[.int .i64 k', .int .i64 n', .float .f64 f', .string (cut60 s')] 28))
  have LB0_5 := LB0_4.alloc (.cells #[.int .i64 k', .int .i64 n', .float .f64 f', .string (cut60 s')] 28)
  have LB1_5 := LB1_4.alloc (.cells #[.int .i64 k', .int .i64 n', .float .f64 f', .string (cut60 s')] 28)
  have LB2_5 := LB2_4.alloc (.cells #[.int .i64 k', .int .i64 n', .float .f64 f', .string (cut60 s')] 28)
  have Lx_5 := Lx_4.alloc (.cells #[.int .i64 k', .int .i64 n', .float .f64 f', .string (cut60 s')] 28)
  have Ly_5 := lies_new w4 (.int .i64 k') (.int .i64 n') (.float .f64 f') (.string (cut60 s')) 28
  have ⟨_, _, _, _⟩ := LB0_5
  have ⟨_, _, _, _⟩ := LB1_5
  have ⟨_, _, _, _⟩ := LB2_5
  have ⟨_, _, _, _⟩ := Lx_5
  have ⟨_, _, _, _⟩ := Ly_5
  go_wp2_with fail
  refine (of_any k'' n'' f'' s'' _).mono ?_; rintro e w6 ⟨rfl, hb6⟩
  have c6 := Below.chain c5 hb6
  have LB0_6 := LB0_5.below hb6
  have LB1_6 := LB1_5.below hb6
  have LB2_6 := LB2_5.below hb6
  have Lx_6 := Lx_5.below hb6
  have Ly_6 := Ly_5.below hb6
  have c7 := Below.chain c6 (below_a1 w6 (.cells #[.int .i64 k'', .int .i64 n'', .float .f64 f'', .string (cut60 s'')] 28))
  have LB0_7 := LB0_6.alloc (.cells #[.int .i64 k'', .int .i64 n'', .float .f64 f'', .string (cut60 s'')] 28)
  have LB1_7 := LB1_6.alloc (.cells #[.int .i64 k'', .int .i64 n'', .float .f64 f'', .string (cut60 s'')] 28)
  have LB2_7 := LB2_6.alloc (.cells #[.int .i64 k'', .int .i64 n'', .float .f64 f'', .string (cut60 s'')] 28)
  have Lx_7 := Lx_6.alloc (.cells #[.int .i64 k'', .int .i64 n'', .float .f64 f'', .string (cut60 s'')] 28)
  have Ly_7 := Ly_6.alloc (.cells #[.int .i64 k'', .int .i64 n'', .float .f64 f'', .string (cut60 s'')] 28)
  have Lz_7 := lies_new w6 (.int .i64 k'') (.int .i64 n'') (.float .f64 f'') (.string (cut60 s'')) 28
  have ⟨_, _, _, _⟩ := LB0_7
  have ⟨_, _, _, _⟩ := LB1_7
  have ⟨_, _, _, _⟩ := LB2_7
  have ⟨_, _, _, _⟩ := Lx_7
  have ⟨_, _, _, _⟩ := Ly_7
  have ⟨_, _, _, _⟩ := Lz_7
  go_wp2_with fail
  refine (A _).mono ?_; rintro e w8 ⟨rfl, hb8⟩
  have c8 := Below.chain c7 hb8
  have LB0_8 := LB0_7.below hb8
  have LB1_8 := LB1_7.below hb8
  have LB2_8 := LB2_7.below hb8
  have Lx_8 := Lx_7.below hb8
  have Ly_8 := Ly_7.below hb8
  have Lz_8 := Lz_7.below hb8
  have ⟨_, _, _, _⟩ := LB0_8
  have ⟨_, _, _, _⟩ := LB1_8
  have ⟨_, _, _, _⟩ := LB2_8
  have ⟨_, _, _, _⟩ := Lx_8
  have ⟨_, _, _, _⟩ := Ly_8
  have ⟨_, _, _, _⟩ := Lz_8
  go_wp2_with fail
  refine (B _).mono ?_; rintro e w9 ⟨rfl, hb9⟩
  have c9 := Below.chain c8 hb9
  have LB0_9 := LB0_8.below hb9
  have LB1_9 := LB1_8.below hb9
  have LB2_9 := LB2_8.below hb9
  have Lx_9 := Lx_8.below hb9
  have Ly_9 := Ly_8.below hb9
  have Lz_9 := Lz_8.below hb9
  have ⟨_, _, _, _⟩ := LB0_9
  have ⟨_, _, _, _⟩ := LB1_9
  have ⟨_, _, _, _⟩ := LB2_9
  have ⟨_, _, _, _⟩ := Lx_9
  have ⟨_, _, _, _⟩ := Ly_9
  have ⟨_, _, _, _⟩ := Lz_9
  go_wp2_with fail
  refine (S _).mono ?_; rintro e w10 ⟨rfl, hb10⟩
  have c10 := Below.chain c9 hb10
  have LB0_10 := LB0_9.below hb10
  have LB1_10 := LB1_9.below hb10
  have LB2_10 := LB2_9.below hb10
  have Lx_10 := Lx_9.below hb10
  have Ly_10 := Ly_9.below hb10
  have Lz_10 := Lz_9.below hb10
  have ⟨_, _, _, _⟩ := LB0_10
  have ⟨_, _, _, _⟩ := LB1_10
  have ⟨_, _, _, _⟩ := LB2_10
  have ⟨_, _, _, _⟩ := Lx_10
  have ⟨_, _, _, _⟩ := Ly_10
  have ⟨_, _, _, _⟩ := Lz_10
  go_wp2_with fail
  refine (I _).mono ?_; rintro e w11 ⟨rfl, hb11⟩
  have c11 := Below.chain c10 hb11
  have LB0_11 := LB0_10.below hb11
  have LB1_11 := LB1_10.below hb11
  have LB2_11 := LB2_10.below hb11
  have Lx_11 := Lx_10.below hb11
  have Ly_11 := Ly_10.below hb11
  have Lz_11 := Lz_10.below hb11
  have ⟨_, _, _, _⟩ := LB0_11
  have ⟨_, _, _, _⟩ := LB1_11
  have ⟨_, _, _, _⟩ := LB2_11
  have ⟨_, _, _, _⟩ := Lx_11
  have ⟨_, _, _, _⟩ := Ly_11
  have ⟨_, _, _, _⟩ := Lz_11
  go_wp2_with fail
  go_ret
  exact ⟨rfl, c11⟩
set_option maxRecDepth 100000 in
theorem core1 (k n k' n' k'' n'' : Int) (f f' f'' : Nat) (s s' s'' : ByteArray) (A : ∀ w, Calls Tryz.prog 20 #[.agg #[.int .i64 k, .int .i64 n, .float .f64 f, .string (cut60 s)], .agg #[.int .i64 k', .int .i64 n', .float .f64 f', .string (cut60 s')]] w fun e w' => e = .returned (.bool false) ∧ Below w.heap.size w w') (B : ∀ w, Calls Tryz.prog 20 #[.agg #[.int .i64 k', .int .i64 n', .float .f64 f', .string (cut60 s')], .agg #[.int .i64 k, .int .i64 n, .float .f64 f, .string (cut60 s)]] w fun e w' => e = .returned (.bool false) ∧ Below w.heap.size w w') (S : ∀ w, Calls Tryz.prog 18 #[.agg #[.int .i64 k, .int .i64 n, .float .f64 f, .string (cut60 s)], .agg #[.int .i64 k', .int .i64 n', .float .f64 f', .string (cut60 s')]] w fun e w' => e = .returned (.bool true) ∧ Below w.heap.size w w') (I : ∀ w, Calls Tryz.prog 20 #[.agg #[.int .i64 k, .int .i64 n, .float .f64 f, .string (cut60 s)], .agg #[.int .i64 k, .int .i64 n, .float .f64 f, .string (cut60 s)]] w fun e w' => e = .returned (.bool false) ∧ Below w.heap.size w w') (w : World) (hT : Tabs w) :
    Calls Tryz.prog 8 #[.agg #[.int .i64 k, .int .i64 n, .int .u64 (f : Int), .string s], .agg #[.int .i64 k', .int .i64 n', .int .u64 (f' : Int), .string s'], .agg #[.int .i64 k'', .int .i64 n'', .int .u64 (f'' : Int), .string s'']] w fun e w' => e = .returned (.bool true) ∧ Below w.heap.size w w' := by
  have hsf := run_store_float
  have c0 : Below w.heap.size w (((w.alloc (.cells #[.int .i64 k, .int .i64 n, .int .u64 (f : Int), .string s] 24)).alloc (.cells #[.int .i64 k', .int .i64 n', .int .u64 (f' : Int), .string s'] 24)).alloc (.cells #[.int .i64 k'', .int .i64 n'', .int .u64 (f'' : Int), .string s''] 24)) := (((Below.refl w.heap.size w).alloc (by simp) _).alloc (by simp <;> omega) _).alloc (by simp <;> omega) _
  have LB0_0 : Lies (((w.alloc (.cells #[.int .i64 k, .int .i64 n, .int .u64 (f : Int), .string s] 24)).alloc (.cells #[.int .i64 k', .int .i64 n', .int .u64 (f' : Int), .string s'] 24)).alloc (.cells #[.int .i64 k'', .int .i64 n'', .int .u64 (f'' : Int), .string s''] 24)) (w.heap.size) (.int .i64 k) (.int .i64 n) (.int .u64 (f : Int)) (.string s) := ((lies_at w (w.heap.size) (by simp) (.int .i64 k) (.int .i64 n) (.int .u64 (f : Int)) (.string s) 24).alloc _).alloc _
  have LB1_0 : Lies (((w.alloc (.cells #[.int .i64 k, .int .i64 n, .int .u64 (f : Int), .string s] 24)).alloc (.cells #[.int .i64 k', .int .i64 n', .int .u64 (f' : Int), .string s'] 24)).alloc (.cells #[.int .i64 k'', .int .i64 n'', .int .u64 (f'' : Int), .string s''] 24)) (w.heap.size + 1) (.int .i64 k') (.int .i64 n') (.int .u64 (f' : Int)) (.string s') := (lies_at (w.alloc (.cells #[.int .i64 k, .int .i64 n, .int .u64 (f : Int), .string s] 24)) (w.heap.size + 1) (by simp) (.int .i64 k') (.int .i64 n') (.int .u64 (f' : Int)) (.string s') 24).alloc _
  have LB2_0 : Lies (((w.alloc (.cells #[.int .i64 k, .int .i64 n, .int .u64 (f : Int), .string s] 24)).alloc (.cells #[.int .i64 k', .int .i64 n', .int .u64 (f' : Int), .string s'] 24)).alloc (.cells #[.int .i64 k'', .int .i64 n'', .int .u64 (f'' : Int), .string s''] 24)) (w.heap.size + 1 + 1) (.int .i64 k'') (.int .i64 n'') (.int .u64 (f'' : Int)) (.string s'') := lies_at ((w.alloc (.cells #[.int .i64 k, .int .i64 n, .int .u64 (f : Int), .string s] 24)).alloc (.cells #[.int .i64 k', .int .i64 n', .int .u64 (f' : Int), .string s'] 24)) (w.heap.size + 1 + 1) (by simp) (.int .i64 k'') (.int .i64 n'') (.int .u64 (f'' : Int)) (.string s'') 24
  go_enter Tryz.func8, Tryz.ntmps8
  go_wp2_with fail
  refine (shown_any _ (hT.below c0)).mono ?_; rintro e w1 ⟨rfl, hb1⟩
  have c1 := Below.chain c0 hb1
  have LB0_1 := LB0_0.below hb1
  have LB1_1 := LB1_0.below hb1
  have LB2_1 := LB2_0.below hb1
  have ⟨_, _, _, _⟩ := LB0_1
  have ⟨_, _, _, _⟩ := LB1_1
  have ⟨_, _, _, _⟩ := LB2_1
  go_wp2_with fail
  refine (of_any k n f s _).mono ?_; rintro e w2 ⟨rfl, hb2⟩
  have c2 := Below.chain c1 hb2
  have LB0_2 := LB0_1.below hb2
  have LB1_2 := LB1_1.below hb2
  have LB2_2 := LB2_1.below hb2
  have c3 := Below.chain c2 (below_a1 w2 (.cells #[.int .i64 k, .int .i64 n, .float .f64 f, .string (cut60 s)] 28))
  have LB0_3 := LB0_2.alloc (.cells #[.int .i64 k, .int .i64 n, .float .f64 f, .string (cut60 s)] 28)
  have LB1_3 := LB1_2.alloc (.cells #[.int .i64 k, .int .i64 n, .float .f64 f, .string (cut60 s)] 28)
  have LB2_3 := LB2_2.alloc (.cells #[.int .i64 k, .int .i64 n, .float .f64 f, .string (cut60 s)] 28)
  have Lx_3 := lies_new w2 (.int .i64 k) (.int .i64 n) (.float .f64 f) (.string (cut60 s)) 28
  have ⟨_, _, _, _⟩ := LB0_3
  have ⟨_, _, _, _⟩ := LB1_3
  have ⟨_, _, _, _⟩ := LB2_3
  have ⟨_, _, _, _⟩ := Lx_3
  go_wp2_with fail
  refine (of_any k' n' f' s' _).mono ?_; rintro e w4 ⟨rfl, hb4⟩
  have c4 := Below.chain c3 hb4
  have LB0_4 := LB0_3.below hb4
  have LB1_4 := LB1_3.below hb4
  have LB2_4 := LB2_3.below hb4
  have Lx_4 := Lx_3.below hb4
  have c5 := Below.chain c4 (below_a1 w4 (.cells #[.int .i64 k', .int .i64 n', .float .f64 f', .string (cut60 s')] 28))
  have LB0_5 := LB0_4.alloc (.cells #[.int .i64 k', .int .i64 n', .float .f64 f', .string (cut60 s')] 28)
  have LB1_5 := LB1_4.alloc (.cells #[.int .i64 k', .int .i64 n', .float .f64 f', .string (cut60 s')] 28)
  have LB2_5 := LB2_4.alloc (.cells #[.int .i64 k', .int .i64 n', .float .f64 f', .string (cut60 s')] 28)
  have Lx_5 := Lx_4.alloc (.cells #[.int .i64 k', .int .i64 n', .float .f64 f', .string (cut60 s')] 28)
  have Ly_5 := lies_new w4 (.int .i64 k') (.int .i64 n') (.float .f64 f') (.string (cut60 s')) 28
  have ⟨_, _, _, _⟩ := LB0_5
  have ⟨_, _, _, _⟩ := LB1_5
  have ⟨_, _, _, _⟩ := LB2_5
  have ⟨_, _, _, _⟩ := Lx_5
  have ⟨_, _, _, _⟩ := Ly_5
  go_wp2_with fail
  refine (of_any k'' n'' f'' s'' _).mono ?_; rintro e w6 ⟨rfl, hb6⟩
  have c6 := Below.chain c5 hb6
  have LB0_6 := LB0_5.below hb6
  have LB1_6 := LB1_5.below hb6
  have LB2_6 := LB2_5.below hb6
  have Lx_6 := Lx_5.below hb6
  have Ly_6 := Ly_5.below hb6
  have c7 := Below.chain c6 (below_a1 w6 (.cells #[.int .i64 k'', .int .i64 n'', .float .f64 f'', .string (cut60 s'')] 28))
  have LB0_7 := LB0_6.alloc (.cells #[.int .i64 k'', .int .i64 n'', .float .f64 f'', .string (cut60 s'')] 28)
  have LB1_7 := LB1_6.alloc (.cells #[.int .i64 k'', .int .i64 n'', .float .f64 f'', .string (cut60 s'')] 28)
  have LB2_7 := LB2_6.alloc (.cells #[.int .i64 k'', .int .i64 n'', .float .f64 f'', .string (cut60 s'')] 28)
  have Lx_7 := Lx_6.alloc (.cells #[.int .i64 k'', .int .i64 n'', .float .f64 f'', .string (cut60 s'')] 28)
  have Ly_7 := Ly_6.alloc (.cells #[.int .i64 k'', .int .i64 n'', .float .f64 f'', .string (cut60 s'')] 28)
  have Lz_7 := lies_new w6 (.int .i64 k'') (.int .i64 n'') (.float .f64 f'') (.string (cut60 s'')) 28
  have ⟨_, _, _, _⟩ := LB0_7
  have ⟨_, _, _, _⟩ := LB1_7
  have ⟨_, _, _, _⟩ := LB2_7
  have ⟨_, _, _, _⟩ := Lx_7
  have ⟨_, _, _, _⟩ := Ly_7
  have ⟨_, _, _, _⟩ := Lz_7
  go_wp2_with fail
  refine (A _).mono ?_; rintro e w8 ⟨rfl, hb8⟩
  have c8 := Below.chain c7 hb8
  have LB0_8 := LB0_7.below hb8
  have LB1_8 := LB1_7.below hb8
  have LB2_8 := LB2_7.below hb8
  have Lx_8 := Lx_7.below hb8
  have Ly_8 := Ly_7.below hb8
  have Lz_8 := Lz_7.below hb8
  have ⟨_, _, _, _⟩ := LB0_8
  have ⟨_, _, _, _⟩ := LB1_8
  have ⟨_, _, _, _⟩ := LB2_8
  have ⟨_, _, _, _⟩ := Lx_8
  have ⟨_, _, _, _⟩ := Ly_8
  have ⟨_, _, _, _⟩ := Lz_8
  go_wp2_with fail
  refine (B _).mono ?_; rintro e w9 ⟨rfl, hb9⟩
  have c9 := Below.chain c8 hb9
  have LB0_9 := LB0_8.below hb9
  have LB1_9 := LB1_8.below hb9
  have LB2_9 := LB2_8.below hb9
  have Lx_9 := Lx_8.below hb9
  have Ly_9 := Ly_8.below hb9
  have Lz_9 := Lz_8.below hb9
  have ⟨_, _, _, _⟩ := LB0_9
  have ⟨_, _, _, _⟩ := LB1_9
  have ⟨_, _, _, _⟩ := LB2_9
  have ⟨_, _, _, _⟩ := Lx_9
  have ⟨_, _, _, _⟩ := Ly_9
  have ⟨_, _, _, _⟩ := Lz_9
  go_wp2_with fail
  refine (S _).mono ?_; rintro e w10 ⟨rfl, hb10⟩
  have c10 := Below.chain c9 hb10
  have LB0_10 := LB0_9.below hb10
  have LB1_10 := LB1_9.below hb10
  have LB2_10 := LB2_9.below hb10
  have Lx_10 := Lx_9.below hb10
  have Ly_10 := Ly_9.below hb10
  have Lz_10 := Lz_9.below hb10
  have ⟨_, _, _, _⟩ := LB0_10
  have ⟨_, _, _, _⟩ := LB1_10
  have ⟨_, _, _, _⟩ := LB2_10
  have ⟨_, _, _, _⟩ := Lx_10
  have ⟨_, _, _, _⟩ := Ly_10
  have ⟨_, _, _, _⟩ := Lz_10
  go_wp2_with fail
  refine (I _).mono ?_; rintro e w11 ⟨rfl, hb11⟩
  have c11 := Below.chain c10 hb11
  have LB0_11 := LB0_10.below hb11
  have LB1_11 := LB1_10.below hb11
  have LB2_11 := LB2_10.below hb11
  have Lx_11 := Lx_10.below hb11
  have Ly_11 := Ly_10.below hb11
  have Lz_11 := Lz_10.below hb11
  have ⟨_, _, _, _⟩ := LB0_11
  have ⟨_, _, _, _⟩ := LB1_11
  have ⟨_, _, _, _⟩ := LB2_11
  have ⟨_, _, _, _⟩ := Lx_11
  have ⟨_, _, _, _⟩ := Ly_11
  have ⟨_, _, _, _⟩ := Lz_11
  go_wp2_with fail
  go_ret
  exact ⟨rfl, c11⟩
set_option maxRecDepth 100000 in
theorem core2 (k n k' n' k'' n'' : Int) (f f' f'' : Nat) (s s' s'' : ByteArray) (A : ∀ w, Calls Tryz.prog 20 #[.agg #[.int .i64 k, .int .i64 n, .float .f64 f, .string (cut60 s)], .agg #[.int .i64 k', .int .i64 n', .float .f64 f', .string (cut60 s')]] w fun e w' => e = .returned (.bool true) ∧ Below w.heap.size w w') (B : ∀ w, Calls Tryz.prog 20 #[.agg #[.int .i64 k', .int .i64 n', .float .f64 f', .string (cut60 s')], .agg #[.int .i64 k, .int .i64 n, .float .f64 f, .string (cut60 s)]] w fun e w' => e = .returned (.bool false) ∧ Below w.heap.size w w') (S : ∀ w, Calls Tryz.prog 18 #[.agg #[.int .i64 k, .int .i64 n, .float .f64 f, .string (cut60 s)], .agg #[.int .i64 k', .int .i64 n', .float .f64 f', .string (cut60 s')]] w fun e w' => e = .returned (.bool false) ∧ Below w.heap.size w w') (I : ∀ w, Calls Tryz.prog 20 #[.agg #[.int .i64 k, .int .i64 n, .float .f64 f, .string (cut60 s)], .agg #[.int .i64 k, .int .i64 n, .float .f64 f, .string (cut60 s)]] w fun e w' => e = .returned (.bool false) ∧ Below w.heap.size w w') (Y : ∀ w, Calls Tryz.prog 20 #[.agg #[.int .i64 k', .int .i64 n', .float .f64 f', .string (cut60 s')], .agg #[.int .i64 k'', .int .i64 n'', .float .f64 f'', .string (cut60 s'')]] w fun e w' => e = .returned (.bool false) ∧ Below w.heap.size w w') (w : World) (hT : Tabs w) :
    Calls Tryz.prog 8 #[.agg #[.int .i64 k, .int .i64 n, .int .u64 (f : Int), .string s], .agg #[.int .i64 k', .int .i64 n', .int .u64 (f' : Int), .string s'], .agg #[.int .i64 k'', .int .i64 n'', .int .u64 (f'' : Int), .string s'']] w fun e w' => e = .returned (.bool true) ∧ Below w.heap.size w w' := by
  have hsf := run_store_float
  have c0 : Below w.heap.size w (((w.alloc (.cells #[.int .i64 k, .int .i64 n, .int .u64 (f : Int), .string s] 24)).alloc (.cells #[.int .i64 k', .int .i64 n', .int .u64 (f' : Int), .string s'] 24)).alloc (.cells #[.int .i64 k'', .int .i64 n'', .int .u64 (f'' : Int), .string s''] 24)) := (((Below.refl w.heap.size w).alloc (by simp) _).alloc (by simp <;> omega) _).alloc (by simp <;> omega) _
  have LB0_0 : Lies (((w.alloc (.cells #[.int .i64 k, .int .i64 n, .int .u64 (f : Int), .string s] 24)).alloc (.cells #[.int .i64 k', .int .i64 n', .int .u64 (f' : Int), .string s'] 24)).alloc (.cells #[.int .i64 k'', .int .i64 n'', .int .u64 (f'' : Int), .string s''] 24)) (w.heap.size) (.int .i64 k) (.int .i64 n) (.int .u64 (f : Int)) (.string s) := ((lies_at w (w.heap.size) (by simp) (.int .i64 k) (.int .i64 n) (.int .u64 (f : Int)) (.string s) 24).alloc _).alloc _
  have LB1_0 : Lies (((w.alloc (.cells #[.int .i64 k, .int .i64 n, .int .u64 (f : Int), .string s] 24)).alloc (.cells #[.int .i64 k', .int .i64 n', .int .u64 (f' : Int), .string s'] 24)).alloc (.cells #[.int .i64 k'', .int .i64 n'', .int .u64 (f'' : Int), .string s''] 24)) (w.heap.size + 1) (.int .i64 k') (.int .i64 n') (.int .u64 (f' : Int)) (.string s') := (lies_at (w.alloc (.cells #[.int .i64 k, .int .i64 n, .int .u64 (f : Int), .string s] 24)) (w.heap.size + 1) (by simp) (.int .i64 k') (.int .i64 n') (.int .u64 (f' : Int)) (.string s') 24).alloc _
  have LB2_0 : Lies (((w.alloc (.cells #[.int .i64 k, .int .i64 n, .int .u64 (f : Int), .string s] 24)).alloc (.cells #[.int .i64 k', .int .i64 n', .int .u64 (f' : Int), .string s'] 24)).alloc (.cells #[.int .i64 k'', .int .i64 n'', .int .u64 (f'' : Int), .string s''] 24)) (w.heap.size + 1 + 1) (.int .i64 k'') (.int .i64 n'') (.int .u64 (f'' : Int)) (.string s'') := lies_at ((w.alloc (.cells #[.int .i64 k, .int .i64 n, .int .u64 (f : Int), .string s] 24)).alloc (.cells #[.int .i64 k', .int .i64 n', .int .u64 (f' : Int), .string s'] 24)) (w.heap.size + 1 + 1) (by simp) (.int .i64 k'') (.int .i64 n'') (.int .u64 (f'' : Int)) (.string s'') 24
  go_enter Tryz.func8, Tryz.ntmps8
  go_wp2_with fail
  refine (shown_any _ (hT.below c0)).mono ?_; rintro e w1 ⟨rfl, hb1⟩
  have c1 := Below.chain c0 hb1
  have LB0_1 := LB0_0.below hb1
  have LB1_1 := LB1_0.below hb1
  have LB2_1 := LB2_0.below hb1
  have ⟨_, _, _, _⟩ := LB0_1
  have ⟨_, _, _, _⟩ := LB1_1
  have ⟨_, _, _, _⟩ := LB2_1
  go_wp2_with fail
  refine (of_any k n f s _).mono ?_; rintro e w2 ⟨rfl, hb2⟩
  have c2 := Below.chain c1 hb2
  have LB0_2 := LB0_1.below hb2
  have LB1_2 := LB1_1.below hb2
  have LB2_2 := LB2_1.below hb2
  have c3 := Below.chain c2 (below_a1 w2 (.cells #[.int .i64 k, .int .i64 n, .float .f64 f, .string (cut60 s)] 28))
  have LB0_3 := LB0_2.alloc (.cells #[.int .i64 k, .int .i64 n, .float .f64 f, .string (cut60 s)] 28)
  have LB1_3 := LB1_2.alloc (.cells #[.int .i64 k, .int .i64 n, .float .f64 f, .string (cut60 s)] 28)
  have LB2_3 := LB2_2.alloc (.cells #[.int .i64 k, .int .i64 n, .float .f64 f, .string (cut60 s)] 28)
  have Lx_3 := lies_new w2 (.int .i64 k) (.int .i64 n) (.float .f64 f) (.string (cut60 s)) 28
  have ⟨_, _, _, _⟩ := LB0_3
  have ⟨_, _, _, _⟩ := LB1_3
  have ⟨_, _, _, _⟩ := LB2_3
  have ⟨_, _, _, _⟩ := Lx_3
  go_wp2_with fail
  refine (of_any k' n' f' s' _).mono ?_; rintro e w4 ⟨rfl, hb4⟩
  have c4 := Below.chain c3 hb4
  have LB0_4 := LB0_3.below hb4
  have LB1_4 := LB1_3.below hb4
  have LB2_4 := LB2_3.below hb4
  have Lx_4 := Lx_3.below hb4
  have c5 := Below.chain c4 (below_a1 w4 (.cells #[.int .i64 k', .int .i64 n', .float .f64 f', .string (cut60 s')] 28))
  have LB0_5 := LB0_4.alloc (.cells #[.int .i64 k', .int .i64 n', .float .f64 f', .string (cut60 s')] 28)
  have LB1_5 := LB1_4.alloc (.cells #[.int .i64 k', .int .i64 n', .float .f64 f', .string (cut60 s')] 28)
  have LB2_5 := LB2_4.alloc (.cells #[.int .i64 k', .int .i64 n', .float .f64 f', .string (cut60 s')] 28)
  have Lx_5 := Lx_4.alloc (.cells #[.int .i64 k', .int .i64 n', .float .f64 f', .string (cut60 s')] 28)
  have Ly_5 := lies_new w4 (.int .i64 k') (.int .i64 n') (.float .f64 f') (.string (cut60 s')) 28
  have ⟨_, _, _, _⟩ := LB0_5
  have ⟨_, _, _, _⟩ := LB1_5
  have ⟨_, _, _, _⟩ := LB2_5
  have ⟨_, _, _, _⟩ := Lx_5
  have ⟨_, _, _, _⟩ := Ly_5
  go_wp2_with fail
  refine (of_any k'' n'' f'' s'' _).mono ?_; rintro e w6 ⟨rfl, hb6⟩
  have c6 := Below.chain c5 hb6
  have LB0_6 := LB0_5.below hb6
  have LB1_6 := LB1_5.below hb6
  have LB2_6 := LB2_5.below hb6
  have Lx_6 := Lx_5.below hb6
  have Ly_6 := Ly_5.below hb6
  have c7 := Below.chain c6 (below_a1 w6 (.cells #[.int .i64 k'', .int .i64 n'', .float .f64 f'', .string (cut60 s'')] 28))
  have LB0_7 := LB0_6.alloc (.cells #[.int .i64 k'', .int .i64 n'', .float .f64 f'', .string (cut60 s'')] 28)
  have LB1_7 := LB1_6.alloc (.cells #[.int .i64 k'', .int .i64 n'', .float .f64 f'', .string (cut60 s'')] 28)
  have LB2_7 := LB2_6.alloc (.cells #[.int .i64 k'', .int .i64 n'', .float .f64 f'', .string (cut60 s'')] 28)
  have Lx_7 := Lx_6.alloc (.cells #[.int .i64 k'', .int .i64 n'', .float .f64 f'', .string (cut60 s'')] 28)
  have Ly_7 := Ly_6.alloc (.cells #[.int .i64 k'', .int .i64 n'', .float .f64 f'', .string (cut60 s'')] 28)
  have Lz_7 := lies_new w6 (.int .i64 k'') (.int .i64 n'') (.float .f64 f'') (.string (cut60 s'')) 28
  have ⟨_, _, _, _⟩ := LB0_7
  have ⟨_, _, _, _⟩ := LB1_7
  have ⟨_, _, _, _⟩ := LB2_7
  have ⟨_, _, _, _⟩ := Lx_7
  have ⟨_, _, _, _⟩ := Ly_7
  have ⟨_, _, _, _⟩ := Lz_7
  go_wp2_with fail
  refine (A _).mono ?_; rintro e w8 ⟨rfl, hb8⟩
  have c8 := Below.chain c7 hb8
  have LB0_8 := LB0_7.below hb8
  have LB1_8 := LB1_7.below hb8
  have LB2_8 := LB2_7.below hb8
  have Lx_8 := Lx_7.below hb8
  have Ly_8 := Ly_7.below hb8
  have Lz_8 := Lz_7.below hb8
  have ⟨_, _, _, _⟩ := LB0_8
  have ⟨_, _, _, _⟩ := LB1_8
  have ⟨_, _, _, _⟩ := LB2_8
  have ⟨_, _, _, _⟩ := Lx_8
  have ⟨_, _, _, _⟩ := Ly_8
  have ⟨_, _, _, _⟩ := Lz_8
  go_wp2_with fail
  refine (B _).mono ?_; rintro e w9 ⟨rfl, hb9⟩
  have c9 := Below.chain c8 hb9
  have LB0_9 := LB0_8.below hb9
  have LB1_9 := LB1_8.below hb9
  have LB2_9 := LB2_8.below hb9
  have Lx_9 := Lx_8.below hb9
  have Ly_9 := Ly_8.below hb9
  have Lz_9 := Lz_8.below hb9
  have ⟨_, _, _, _⟩ := LB0_9
  have ⟨_, _, _, _⟩ := LB1_9
  have ⟨_, _, _, _⟩ := LB2_9
  have ⟨_, _, _, _⟩ := Lx_9
  have ⟨_, _, _, _⟩ := Ly_9
  have ⟨_, _, _, _⟩ := Lz_9
  go_wp2_with fail
  refine (S _).mono ?_; rintro e w10 ⟨rfl, hb10⟩
  have c10 := Below.chain c9 hb10
  have LB0_10 := LB0_9.below hb10
  have LB1_10 := LB1_9.below hb10
  have LB2_10 := LB2_9.below hb10
  have Lx_10 := Lx_9.below hb10
  have Ly_10 := Ly_9.below hb10
  have Lz_10 := Lz_9.below hb10
  have ⟨_, _, _, _⟩ := LB0_10
  have ⟨_, _, _, _⟩ := LB1_10
  have ⟨_, _, _, _⟩ := LB2_10
  have ⟨_, _, _, _⟩ := Lx_10
  have ⟨_, _, _, _⟩ := Ly_10
  have ⟨_, _, _, _⟩ := Lz_10
  go_wp2_with fail
  refine (I _).mono ?_; rintro e w11 ⟨rfl, hb11⟩
  have c11 := Below.chain c10 hb11
  have LB0_11 := LB0_10.below hb11
  have LB1_11 := LB1_10.below hb11
  have LB2_11 := LB2_10.below hb11
  have Lx_11 := Lx_10.below hb11
  have Ly_11 := Ly_10.below hb11
  have Lz_11 := Lz_10.below hb11
  have ⟨_, _, _, _⟩ := LB0_11
  have ⟨_, _, _, _⟩ := LB1_11
  have ⟨_, _, _, _⟩ := LB2_11
  have ⟨_, _, _, _⟩ := Lx_11
  have ⟨_, _, _, _⟩ := Ly_11
  have ⟨_, _, _, _⟩ := Lz_11
  go_wp2_with fail
  refine (Y _).mono ?_; rintro e w12 ⟨rfl, hb12⟩
  have c12 := Below.chain c11 hb12
  have LB0_12 := LB0_11.below hb12
  have LB1_12 := LB1_11.below hb12
  have LB2_12 := LB2_11.below hb12
  have Lx_12 := Lx_11.below hb12
  have Ly_12 := Ly_11.below hb12
  have Lz_12 := Lz_11.below hb12
  have ⟨_, _, _, _⟩ := LB0_12
  have ⟨_, _, _, _⟩ := LB1_12
  have ⟨_, _, _, _⟩ := LB2_12
  have ⟨_, _, _, _⟩ := Lx_12
  have ⟨_, _, _, _⟩ := Ly_12
  have ⟨_, _, _, _⟩ := Lz_12
  go_wp2_with fail
  go_ret
  exact ⟨rfl, c12⟩
set_option maxRecDepth 100000 in
theorem core3 (k n k' n' k'' n'' : Int) (f f' f'' : Nat) (s s' s'' : ByteArray) (A : ∀ w, Calls Tryz.prog 20 #[.agg #[.int .i64 k, .int .i64 n, .float .f64 f, .string (cut60 s)], .agg #[.int .i64 k', .int .i64 n', .float .f64 f', .string (cut60 s')]] w fun e w' => e = .returned (.bool true) ∧ Below w.heap.size w w') (B : ∀ w, Calls Tryz.prog 20 #[.agg #[.int .i64 k', .int .i64 n', .float .f64 f', .string (cut60 s')], .agg #[.int .i64 k, .int .i64 n, .float .f64 f, .string (cut60 s)]] w fun e w' => e = .returned (.bool false) ∧ Below w.heap.size w w') (S : ∀ w, Calls Tryz.prog 18 #[.agg #[.int .i64 k, .int .i64 n, .float .f64 f, .string (cut60 s)], .agg #[.int .i64 k', .int .i64 n', .float .f64 f', .string (cut60 s')]] w fun e w' => e = .returned (.bool false) ∧ Below w.heap.size w w') (I : ∀ w, Calls Tryz.prog 20 #[.agg #[.int .i64 k, .int .i64 n, .float .f64 f, .string (cut60 s)], .agg #[.int .i64 k, .int .i64 n, .float .f64 f, .string (cut60 s)]] w fun e w' => e = .returned (.bool false) ∧ Below w.heap.size w w') (Y : ∀ w, Calls Tryz.prog 20 #[.agg #[.int .i64 k', .int .i64 n', .float .f64 f', .string (cut60 s')], .agg #[.int .i64 k'', .int .i64 n'', .float .f64 f'', .string (cut60 s'')]] w fun e w' => e = .returned (.bool true) ∧ Below w.heap.size w w') (Z : ∀ w, Calls Tryz.prog 20 #[.agg #[.int .i64 k, .int .i64 n, .float .f64 f, .string (cut60 s)], .agg #[.int .i64 k'', .int .i64 n'', .float .f64 f'', .string (cut60 s'')]] w fun e w' => e = .returned (.bool true) ∧ Below w.heap.size w w') (w : World) (hT : Tabs w) :
    Calls Tryz.prog 8 #[.agg #[.int .i64 k, .int .i64 n, .int .u64 (f : Int), .string s], .agg #[.int .i64 k', .int .i64 n', .int .u64 (f' : Int), .string s'], .agg #[.int .i64 k'', .int .i64 n'', .int .u64 (f'' : Int), .string s'']] w fun e w' => e = .returned (.bool true) ∧ Below w.heap.size w w' := by
  have hsf := run_store_float
  have c0 : Below w.heap.size w (((w.alloc (.cells #[.int .i64 k, .int .i64 n, .int .u64 (f : Int), .string s] 24)).alloc (.cells #[.int .i64 k', .int .i64 n', .int .u64 (f' : Int), .string s'] 24)).alloc (.cells #[.int .i64 k'', .int .i64 n'', .int .u64 (f'' : Int), .string s''] 24)) := (((Below.refl w.heap.size w).alloc (by simp) _).alloc (by simp <;> omega) _).alloc (by simp <;> omega) _
  have LB0_0 : Lies (((w.alloc (.cells #[.int .i64 k, .int .i64 n, .int .u64 (f : Int), .string s] 24)).alloc (.cells #[.int .i64 k', .int .i64 n', .int .u64 (f' : Int), .string s'] 24)).alloc (.cells #[.int .i64 k'', .int .i64 n'', .int .u64 (f'' : Int), .string s''] 24)) (w.heap.size) (.int .i64 k) (.int .i64 n) (.int .u64 (f : Int)) (.string s) := ((lies_at w (w.heap.size) (by simp) (.int .i64 k) (.int .i64 n) (.int .u64 (f : Int)) (.string s) 24).alloc _).alloc _
  have LB1_0 : Lies (((w.alloc (.cells #[.int .i64 k, .int .i64 n, .int .u64 (f : Int), .string s] 24)).alloc (.cells #[.int .i64 k', .int .i64 n', .int .u64 (f' : Int), .string s'] 24)).alloc (.cells #[.int .i64 k'', .int .i64 n'', .int .u64 (f'' : Int), .string s''] 24)) (w.heap.size + 1) (.int .i64 k') (.int .i64 n') (.int .u64 (f' : Int)) (.string s') := (lies_at (w.alloc (.cells #[.int .i64 k, .int .i64 n, .int .u64 (f : Int), .string s] 24)) (w.heap.size + 1) (by simp) (.int .i64 k') (.int .i64 n') (.int .u64 (f' : Int)) (.string s') 24).alloc _
  have LB2_0 : Lies (((w.alloc (.cells #[.int .i64 k, .int .i64 n, .int .u64 (f : Int), .string s] 24)).alloc (.cells #[.int .i64 k', .int .i64 n', .int .u64 (f' : Int), .string s'] 24)).alloc (.cells #[.int .i64 k'', .int .i64 n'', .int .u64 (f'' : Int), .string s''] 24)) (w.heap.size + 1 + 1) (.int .i64 k'') (.int .i64 n'') (.int .u64 (f'' : Int)) (.string s'') := lies_at ((w.alloc (.cells #[.int .i64 k, .int .i64 n, .int .u64 (f : Int), .string s] 24)).alloc (.cells #[.int .i64 k', .int .i64 n', .int .u64 (f' : Int), .string s'] 24)) (w.heap.size + 1 + 1) (by simp) (.int .i64 k'') (.int .i64 n'') (.int .u64 (f'' : Int)) (.string s'') 24
  go_enter Tryz.func8, Tryz.ntmps8
  go_wp2_with fail
  refine (shown_any _ (hT.below c0)).mono ?_; rintro e w1 ⟨rfl, hb1⟩
  have c1 := Below.chain c0 hb1
  have LB0_1 := LB0_0.below hb1
  have LB1_1 := LB1_0.below hb1
  have LB2_1 := LB2_0.below hb1
  have ⟨_, _, _, _⟩ := LB0_1
  have ⟨_, _, _, _⟩ := LB1_1
  have ⟨_, _, _, _⟩ := LB2_1
  go_wp2_with fail
  refine (of_any k n f s _).mono ?_; rintro e w2 ⟨rfl, hb2⟩
  have c2 := Below.chain c1 hb2
  have LB0_2 := LB0_1.below hb2
  have LB1_2 := LB1_1.below hb2
  have LB2_2 := LB2_1.below hb2
  have c3 := Below.chain c2 (below_a1 w2 (.cells #[.int .i64 k, .int .i64 n, .float .f64 f, .string (cut60 s)] 28))
  have LB0_3 := LB0_2.alloc (.cells #[.int .i64 k, .int .i64 n, .float .f64 f, .string (cut60 s)] 28)
  have LB1_3 := LB1_2.alloc (.cells #[.int .i64 k, .int .i64 n, .float .f64 f, .string (cut60 s)] 28)
  have LB2_3 := LB2_2.alloc (.cells #[.int .i64 k, .int .i64 n, .float .f64 f, .string (cut60 s)] 28)
  have Lx_3 := lies_new w2 (.int .i64 k) (.int .i64 n) (.float .f64 f) (.string (cut60 s)) 28
  have ⟨_, _, _, _⟩ := LB0_3
  have ⟨_, _, _, _⟩ := LB1_3
  have ⟨_, _, _, _⟩ := LB2_3
  have ⟨_, _, _, _⟩ := Lx_3
  go_wp2_with fail
  refine (of_any k' n' f' s' _).mono ?_; rintro e w4 ⟨rfl, hb4⟩
  have c4 := Below.chain c3 hb4
  have LB0_4 := LB0_3.below hb4
  have LB1_4 := LB1_3.below hb4
  have LB2_4 := LB2_3.below hb4
  have Lx_4 := Lx_3.below hb4
  have c5 := Below.chain c4 (below_a1 w4 (.cells #[.int .i64 k', .int .i64 n', .float .f64 f', .string (cut60 s')] 28))
  have LB0_5 := LB0_4.alloc (.cells #[.int .i64 k', .int .i64 n', .float .f64 f', .string (cut60 s')] 28)
  have LB1_5 := LB1_4.alloc (.cells #[.int .i64 k', .int .i64 n', .float .f64 f', .string (cut60 s')] 28)
  have LB2_5 := LB2_4.alloc (.cells #[.int .i64 k', .int .i64 n', .float .f64 f', .string (cut60 s')] 28)
  have Lx_5 := Lx_4.alloc (.cells #[.int .i64 k', .int .i64 n', .float .f64 f', .string (cut60 s')] 28)
  have Ly_5 := lies_new w4 (.int .i64 k') (.int .i64 n') (.float .f64 f') (.string (cut60 s')) 28
  have ⟨_, _, _, _⟩ := LB0_5
  have ⟨_, _, _, _⟩ := LB1_5
  have ⟨_, _, _, _⟩ := LB2_5
  have ⟨_, _, _, _⟩ := Lx_5
  have ⟨_, _, _, _⟩ := Ly_5
  go_wp2_with fail
  refine (of_any k'' n'' f'' s'' _).mono ?_; rintro e w6 ⟨rfl, hb6⟩
  have c6 := Below.chain c5 hb6
  have LB0_6 := LB0_5.below hb6
  have LB1_6 := LB1_5.below hb6
  have LB2_6 := LB2_5.below hb6
  have Lx_6 := Lx_5.below hb6
  have Ly_6 := Ly_5.below hb6
  have c7 := Below.chain c6 (below_a1 w6 (.cells #[.int .i64 k'', .int .i64 n'', .float .f64 f'', .string (cut60 s'')] 28))
  have LB0_7 := LB0_6.alloc (.cells #[.int .i64 k'', .int .i64 n'', .float .f64 f'', .string (cut60 s'')] 28)
  have LB1_7 := LB1_6.alloc (.cells #[.int .i64 k'', .int .i64 n'', .float .f64 f'', .string (cut60 s'')] 28)
  have LB2_7 := LB2_6.alloc (.cells #[.int .i64 k'', .int .i64 n'', .float .f64 f'', .string (cut60 s'')] 28)
  have Lx_7 := Lx_6.alloc (.cells #[.int .i64 k'', .int .i64 n'', .float .f64 f'', .string (cut60 s'')] 28)
  have Ly_7 := Ly_6.alloc (.cells #[.int .i64 k'', .int .i64 n'', .float .f64 f'', .string (cut60 s'')] 28)
  have Lz_7 := lies_new w6 (.int .i64 k'') (.int .i64 n'') (.float .f64 f'') (.string (cut60 s'')) 28
  have ⟨_, _, _, _⟩ := LB0_7
  have ⟨_, _, _, _⟩ := LB1_7
  have ⟨_, _, _, _⟩ := LB2_7
  have ⟨_, _, _, _⟩ := Lx_7
  have ⟨_, _, _, _⟩ := Ly_7
  have ⟨_, _, _, _⟩ := Lz_7
  go_wp2_with fail
  refine (A _).mono ?_; rintro e w8 ⟨rfl, hb8⟩
  have c8 := Below.chain c7 hb8
  have LB0_8 := LB0_7.below hb8
  have LB1_8 := LB1_7.below hb8
  have LB2_8 := LB2_7.below hb8
  have Lx_8 := Lx_7.below hb8
  have Ly_8 := Ly_7.below hb8
  have Lz_8 := Lz_7.below hb8
  have ⟨_, _, _, _⟩ := LB0_8
  have ⟨_, _, _, _⟩ := LB1_8
  have ⟨_, _, _, _⟩ := LB2_8
  have ⟨_, _, _, _⟩ := Lx_8
  have ⟨_, _, _, _⟩ := Ly_8
  have ⟨_, _, _, _⟩ := Lz_8
  go_wp2_with fail
  refine (B _).mono ?_; rintro e w9 ⟨rfl, hb9⟩
  have c9 := Below.chain c8 hb9
  have LB0_9 := LB0_8.below hb9
  have LB1_9 := LB1_8.below hb9
  have LB2_9 := LB2_8.below hb9
  have Lx_9 := Lx_8.below hb9
  have Ly_9 := Ly_8.below hb9
  have Lz_9 := Lz_8.below hb9
  have ⟨_, _, _, _⟩ := LB0_9
  have ⟨_, _, _, _⟩ := LB1_9
  have ⟨_, _, _, _⟩ := LB2_9
  have ⟨_, _, _, _⟩ := Lx_9
  have ⟨_, _, _, _⟩ := Ly_9
  have ⟨_, _, _, _⟩ := Lz_9
  go_wp2_with fail
  refine (S _).mono ?_; rintro e w10 ⟨rfl, hb10⟩
  have c10 := Below.chain c9 hb10
  have LB0_10 := LB0_9.below hb10
  have LB1_10 := LB1_9.below hb10
  have LB2_10 := LB2_9.below hb10
  have Lx_10 := Lx_9.below hb10
  have Ly_10 := Ly_9.below hb10
  have Lz_10 := Lz_9.below hb10
  have ⟨_, _, _, _⟩ := LB0_10
  have ⟨_, _, _, _⟩ := LB1_10
  have ⟨_, _, _, _⟩ := LB2_10
  have ⟨_, _, _, _⟩ := Lx_10
  have ⟨_, _, _, _⟩ := Ly_10
  have ⟨_, _, _, _⟩ := Lz_10
  go_wp2_with fail
  refine (I _).mono ?_; rintro e w11 ⟨rfl, hb11⟩
  have c11 := Below.chain c10 hb11
  have LB0_11 := LB0_10.below hb11
  have LB1_11 := LB1_10.below hb11
  have LB2_11 := LB2_10.below hb11
  have Lx_11 := Lx_10.below hb11
  have Ly_11 := Ly_10.below hb11
  have Lz_11 := Lz_10.below hb11
  have ⟨_, _, _, _⟩ := LB0_11
  have ⟨_, _, _, _⟩ := LB1_11
  have ⟨_, _, _, _⟩ := LB2_11
  have ⟨_, _, _, _⟩ := Lx_11
  have ⟨_, _, _, _⟩ := Ly_11
  have ⟨_, _, _, _⟩ := Lz_11
  go_wp2_with fail
  refine (Y _).mono ?_; rintro e w12 ⟨rfl, hb12⟩
  have c12 := Below.chain c11 hb12
  have LB0_12 := LB0_11.below hb12
  have LB1_12 := LB1_11.below hb12
  have LB2_12 := LB2_11.below hb12
  have Lx_12 := Lx_11.below hb12
  have Ly_12 := Ly_11.below hb12
  have Lz_12 := Lz_11.below hb12
  have ⟨_, _, _, _⟩ := LB0_12
  have ⟨_, _, _, _⟩ := LB1_12
  have ⟨_, _, _, _⟩ := LB2_12
  have ⟨_, _, _, _⟩ := Lx_12
  have ⟨_, _, _, _⟩ := Ly_12
  have ⟨_, _, _, _⟩ := Lz_12
  go_wp2_with fail
  refine (Z _).mono ?_; rintro e w13 ⟨rfl, hb13⟩
  have c13 := Below.chain c12 hb13
  have LB0_13 := LB0_12.below hb13
  have LB1_13 := LB1_12.below hb13
  have LB2_13 := LB2_12.below hb13
  have Lx_13 := Lx_12.below hb13
  have Ly_13 := Ly_12.below hb13
  have Lz_13 := Lz_12.below hb13
  have ⟨_, _, _, _⟩ := LB0_13
  have ⟨_, _, _, _⟩ := LB1_13
  have ⟨_, _, _, _⟩ := LB2_13
  have ⟨_, _, _, _⟩ := Lx_13
  have ⟨_, _, _, _⟩ := Ly_13
  have ⟨_, _, _, _⟩ := Lz_13
  go_wp2_with fail
  go_ret
  exact ⟨rfl, c13⟩
theorem walk (k n : Int) (f : Nat) (s : ByteArray) (k' n' : Int) (f' : Nat) (s' : ByteArray) (k'' n'' : Int) (f'' : Nat) (s'' : ByteArray) (_ : -9223372036854775808 ≤ k) (_ : k ≤ 9223372036854775807) (_ : -9223372036854775808 ≤ n) (_ : n ≤ 9223372036854775807) (hf : f < 18446744073709551616) (_ : s.size ≤ maxLen)
    (_ : -9223372036854775808 ≤ k') (_ : k' ≤ 9223372036854775807) (_ : -9223372036854775808 ≤ n') (_ : n' ≤ 9223372036854775807) (hf' : f' < 18446744073709551616) (_ : s'.size ≤ maxLen) (_ : -9223372036854775808 ≤ k'') (_ : k'' ≤ 9223372036854775807) (_ : -9223372036854775808 ≤ n'') (_ : n'' ≤ 9223372036854775807) (hf'' : f'' < 18446744073709551616) (_ : s''.size ≤ maxLen) (w : World) (hT : Tabs w) :
    Calls Tryz.prog 8 #[.agg #[.int .i64 k, .int .i64 n, .int .u64 (f : Int), .string s], .agg #[.int .i64 k', .int .i64 n', .int .u64 (f' : Int), .string s'], .agg #[.int .i64 k'', .int .i64 n'', .int .u64 (f'' : Int), .string s'']] w fun e w' => e = .returned (.bool true) ∧ Below w.heap.size w w' := by
  have A := less_any' k n k' n' f f' hf hf' (cut60 s) (cut60 s')
  have B := less_any' k' n' k n f' f hf' hf (cut60 s') (cut60 s)
  have S := same_any k n k' n' f f' hf hf' (cut60 s) (cut60 s')
  have I := less_any' k n k n f f hf hf (cut60 s) (cut60 s)
  have Y := less_any' k' n' k'' n'' f' f'' hf' hf'' (cut60 s') (cut60 s'')
  have Z := less_any' k n k'' n'' f f'' hf hf'' (cut60 s) (cut60 s'')
  rw [less_irr] at I
  rcases less_tri k n f (cut60 s) k' n' f' (cut60 s') hf hf' with ⟨h1, h2, h3⟩ | ⟨h1, h2, h3⟩ | ⟨h1, h2, h3⟩
  · rw [h1] at A; rw [h2] at B; rw [h3] at S
    rcases bool_cases (lessB k' n' f' (cut60 s') k'' n'' f'' (cut60 s'')) with h4 | h4
    · rw [h4] at Y
      exact core2 k n k' n' k'' n'' f f' f'' s s' s'' A B S I Y w hT
    · rw [h4] at Y
      rw [less_trans _ _ _ _ _ _ _ _ _ _ _ _ h1 h4] at Z
      exact core3 k n k' n' k'' n'' f f' f'' s s' s'' A B S I Y Z w hT
  · rw [h1] at A; rw [h2] at B; rw [h3] at S
    exact core0 k n k' n' k'' n'' f f' f'' s s' s'' A B S I w hT
  · rw [h1] at A; rw [h2] at B; rw [h3] at S
    exact core1 k n k' n' k'' n'' f f' f'' s s' s'' A B S I w hT
end Go.Proofs.YtnjlcdemfdokoaaGreatDoor.ValueOrder
