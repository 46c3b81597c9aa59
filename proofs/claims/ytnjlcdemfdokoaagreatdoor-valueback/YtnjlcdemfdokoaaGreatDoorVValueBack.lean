/- The walk of the law ValueBack. -/
import Derived.Test.YtnjlcdemfdokoaaGreatDoorVs
import Derived.Test.YtnjlcdemfdokoaaGreatDoorVA2
namespace Go.Proofs.YtnjlcdemfdokoaaGreatDoor.ValueBack
open Go Go.RowKit
set_option linter.unusedVariables false
set_option maxRecDepth 100000 in
set_option maxHeartbeats 1000000 in
theorem b00 (k n : Int) (f : Nat) (s S A : ByteArray) (m : Nat) (hm : min (S.size : Int) 100 = (m : Int)) (ml : m ≤ S.size) (hA : S.extract 0 m = A) (la : A.size ≤ 100) (R : ∀ w, Calls Tryz.prog 16 #[.agg #[.int .i64 k, .int .i64 n, .float .f64 f, .string (cut60 s)]] w fun e w' => e = .returned (.bool false) ∧ Below w.heap.size w w') (RA : ∀ w, Tabs w → Calls Tryz.prog 29 #[.string A] w fun e w' => e = .returned (.tuple #[.agg #[.int .i64 0, .int .i64 0, .float .f64 0, .string ⟨#[]⟩], .int .i64 0, .bool false]) ∧ Below w.heap.size w w') (w : World) (hT : Tabs w) :
    Calls Tryz.prog 7 #[.agg #[.int .i64 k, .int .i64 n, .int .u64 (f : Int), .string s], .string S] w fun e w' => e = .returned (.bool true) ∧ Below w.heap.size w w' := by
  have hsf := run_store_float
  have c0 : Below w.heap.size w (w.alloc (.cells #[.int .i64 k, .int .i64 n, .int .u64 (f : Int), .string s] 24)) := (Below.refl w.heap.size w).alloc (by simp) _
  have LB0_0 : Lies (w.alloc (.cells #[.int .i64 k, .int .i64 n, .int .u64 (f : Int), .string s] 24)) (w.heap.size) (.int .i64 k) (.int .i64 n) (.int .u64 (f : Int)) (.string s) := lies_at w (w.heap.size) (by simp) (.int .i64 k) (.int .i64 n) (.int .u64 (f : Int)) (.string s) 24
  go_enter Tryz.func7, Tryz.ntmps7
  go_wp2_with fail
  refine (shown_any _ (hT.below c0)).mono ?_; rintro e w1 ⟨rfl, hb1⟩
  have c1 := Below.chain c0 hb1
  have LB0_1 := LB0_0.below hb1
  have ⟨_, _, _, _⟩ := LB0_1
  go_wp2_with fail
  refine (of_any k n f s _).mono ?_; rintro e w2 ⟨rfl, hb2⟩
  have c2 := Below.chain c1 hb2
  have LB0_2 := LB0_1.below hb2
  have c3 := Below.chain c2 (below_a1 w2 (.cells #[.int .i64 k, .int .i64 n, .float .f64 f, .string (cut60 s)] 28))
  have LB0_3 := LB0_2.alloc (.cells #[.int .i64 k, .int .i64 n, .float .f64 f, .string (cut60 s)] 28)
  have Lx_3 := lies_new w2 (.int .i64 k) (.int .i64 n) (.float .f64 f) (.string (cut60 s)) 28
  have ⟨_, _, _, _⟩ := LB0_3
  have ⟨_, _, _, _⟩ := Lx_3
  go_wp2_with fail
  refine (R _).mono ?_; rintro e w4 ⟨rfl, hb4⟩
  have c4 := Below.chain c3 hb4
  have LB0_4 := LB0_3.below hb4
  have Lx_4 := Lx_3.below hb4
  have ⟨_, _, _, _⟩ := LB0_4
  have ⟨_, _, _, _⟩ := Lx_4
  go_wp2_with fail
  refine (RA _ (hT.below c4)).mono ?_; rintro e w5 ⟨rfl, hb5⟩
  have c5 := Below.chain c4 hb5
  have LB0_5 := LB0_4.below hb5
  have Lx_5 := Lx_4.below hb5
  have c6 := Below.chain c5 (below_a1 w5 (.cells #[.int .i64 0, .int .i64 0, .float .f64 0, .string ⟨#[]⟩] 28))
  have LB0_6 := LB0_5.alloc (.cells #[.int .i64 0, .int .i64 0, .float .f64 0, .string ⟨#[]⟩] 28)
  have Lx_6 := Lx_5.alloc (.cells #[.int .i64 0, .int .i64 0, .float .f64 0, .string ⟨#[]⟩] 28)
  have La_6 := lies_new w5 (.int .i64 0) (.int .i64 0) (.float .f64 0) (.string ⟨#[]⟩) 28
  have ⟨_, _, _, _⟩ := LB0_6
  have ⟨_, _, _, _⟩ := Lx_6
  have ⟨_, _, _, _⟩ := La_6
  go_wp2_with fail
  go_ret
  exact ⟨rfl, c6⟩
set_option maxRecDepth 100000 in
set_option maxHeartbeats 1000000 in
theorem b01 (k n : Int) (f : Nat) (s S A : ByteArray) (m : Nat) (hm : min (S.size : Int) 100 = (m : Int)) (ml : m ≤ S.size) (hA : S.extract 0 m = A) (la : A.size ≤ 100) (R : ∀ w, Calls Tryz.prog 16 #[.agg #[.int .i64 k, .int .i64 n, .float .f64 f, .string (cut60 s)]] w fun e w' => e = .returned (.bool false) ∧ Below w.heap.size w w') (vk vn : Int) (vf q : Nat) (vt U C : ByteArray) (hq : 1 ≤ q) (hq2 : q ≤ A.size) (hC : A.extract 0 q = C) (hU : (U.toList == C.toList) = true) (RA : ∀ w, Tabs w → Calls Tryz.prog 29 #[.string A] w fun e w' => e = .returned (.tuple #[.agg #[.int .i64 vk, .int .i64 vn, .float .f64 vf, .string vt], .int .i64 (q : Int), .bool true]) ∧ Below w.heap.size w w') (TV : ∀ w, Tabs w → Calls Tryz.prog 27 #[.agg #[.int .i64 vk, .int .i64 vn, .float .f64 vf, .string vt]] w fun e w' => e = .returned (.tuple #[.string U, .int .i64 0]) ∧ Below w.heap.size w w') (RV : ∀ w, Calls Tryz.prog 16 #[.agg #[.int .i64 vk, .int .i64 vn, .float .f64 vf, .string vt]] w fun e w' => e = .returned (.bool true) ∧ Below w.heap.size w w') (w : World) (hT : Tabs w) :
    Calls Tryz.prog 7 #[.agg #[.int .i64 k, .int .i64 n, .int .u64 (f : Int), .string s], .string S] w fun e w' => e = .returned (.bool true) ∧ Below w.heap.size w w' := by
  have hsf := run_store_float
  have c0 : Below w.heap.size w (w.alloc (.cells #[.int .i64 k, .int .i64 n, .int .u64 (f : Int), .string s] 24)) := (Below.refl w.heap.size w).alloc (by simp) _
  have LB0_0 : Lies (w.alloc (.cells #[.int .i64 k, .int .i64 n, .int .u64 (f : Int), .string s] 24)) (w.heap.size) (.int .i64 k) (.int .i64 n) (.int .u64 (f : Int)) (.string s) := lies_at w (w.heap.size) (by simp) (.int .i64 k) (.int .i64 n) (.int .u64 (f : Int)) (.string s) 24
  go_enter Tryz.func7, Tryz.ntmps7
  go_wp2_with fail
  refine (shown_any _ (hT.below c0)).mono ?_; rintro e w1 ⟨rfl, hb1⟩
  have c1 := Below.chain c0 hb1
  have LB0_1 := LB0_0.below hb1
  have ⟨_, _, _, _⟩ := LB0_1
  go_wp2_with fail
  refine (of_any k n f s _).mono ?_; rintro e w2 ⟨rfl, hb2⟩
  have c2 := Below.chain c1 hb2
  have LB0_2 := LB0_1.below hb2
  have c3 := Below.chain c2 (below_a1 w2 (.cells #[.int .i64 k, .int .i64 n, .float .f64 f, .string (cut60 s)] 28))
  have LB0_3 := LB0_2.alloc (.cells #[.int .i64 k, .int .i64 n, .float .f64 f, .string (cut60 s)] 28)
  have Lx_3 := lies_new w2 (.int .i64 k) (.int .i64 n) (.float .f64 f) (.string (cut60 s)) 28
  have ⟨_, _, _, _⟩ := LB0_3
  have ⟨_, _, _, _⟩ := Lx_3
  go_wp2_with fail
  refine (R _).mono ?_; rintro e w4 ⟨rfl, hb4⟩
  have c4 := Below.chain c3 hb4
  have LB0_4 := LB0_3.below hb4
  have Lx_4 := Lx_3.below hb4
  have ⟨_, _, _, _⟩ := LB0_4
  have ⟨_, _, _, _⟩ := Lx_4
  go_wp2_with fail
  refine (RA _ (hT.below c4)).mono ?_; rintro e w5 ⟨rfl, hb5⟩
  have c5 := Below.chain c4 hb5
  have LB0_5 := LB0_4.below hb5
  have Lx_5 := Lx_4.below hb5
  have c6 := Below.chain c5 (below_a1 w5 (.cells #[.int .i64 vk, .int .i64 vn, .float .f64 vf, .string vt] 28))
  have LB0_6 := LB0_5.alloc (.cells #[.int .i64 vk, .int .i64 vn, .float .f64 vf, .string vt] 28)
  have Lx_6 := Lx_5.alloc (.cells #[.int .i64 vk, .int .i64 vn, .float .f64 vf, .string vt] 28)
  have La_6 := lies_new w5 (.int .i64 vk) (.int .i64 vn) (.float .f64 vf) (.string vt) 28
  have ⟨_, _, _, _⟩ := LB0_6
  have ⟨_, _, _, _⟩ := Lx_6
  have ⟨_, _, _, _⟩ := La_6
  go_wp2_with fail
  refine (TV _ (hT.below c6)).mono ?_; rintro e w7 ⟨rfl, hb7⟩
  have c7 := Below.chain c6 hb7
  have LB0_7 := LB0_6.below hb7
  have Lx_7 := Lx_6.below hb7
  have La_7 := La_6.below hb7
  have ⟨_, _, _, _⟩ := LB0_7
  have ⟨_, _, _, _⟩ := Lx_7
  have ⟨_, _, _, _⟩ := La_7
  go_wp2_with fail
  refine (RV _).mono ?_; rintro e w8 ⟨rfl, hb8⟩
  have c8 := Below.chain c7 hb8
  have LB0_8 := LB0_7.below hb8
  have Lx_8 := Lx_7.below hb8
  have La_8 := La_7.below hb8
  have ⟨_, _, _, _⟩ := LB0_8
  have ⟨_, _, _, _⟩ := Lx_8
  have ⟨_, _, _, _⟩ := La_8
  go_wp2_with fail
  go_ret
  exact ⟨rfl, c8⟩
set_option maxRecDepth 100000 in
set_option maxHeartbeats 1000000 in
theorem b10 (k n : Int) (f : Nat) (s S A : ByteArray) (m : Nat) (hm : min (S.size : Int) 100 = (m : Int)) (ml : m ≤ S.size) (hA : S.extract 0 m = A) (la : A.size ≤ 100) (R : ∀ w, Calls Tryz.prog 16 #[.agg #[.int .i64 k, .int .i64 n, .float .f64 f, .string (cut60 s)]] w fun e w' => e = .returned (.bool true) ∧ Below w.heap.size w w') (T B : ByteArray) (hB : T ++ ⟨#[32]⟩ ++ A = B) (lt : T.size ≤ 1000) (TX : ∀ w, Tabs w → Calls Tryz.prog 27 #[.agg #[.int .i64 k, .int .i64 n, .float .f64 f, .string (cut60 s)]] w fun e w' => e = .returned (.tuple #[.string T, .int .i64 0]) ∧ Below w.heap.size w w') (RB : ∀ w, Tabs w → Calls Tryz.prog 29 #[.string B] w fun e w' => e = .returned (.tuple #[.agg #[.int .i64 k, .int .i64 n, .float .f64 f, .string (cut60 s)], .int .i64 (T.size : Int), .bool true]) ∧ Below w.heap.size w w') (SX : ∀ w, Calls Tryz.prog 18 #[.agg #[.int .i64 k, .int .i64 n, .float .f64 f, .string (cut60 s)], .agg #[.int .i64 k, .int .i64 n, .float .f64 f, .string (cut60 s)]] w fun e w' => e = .returned (.bool true) ∧ Below w.heap.size w w') (RA : ∀ w, Tabs w → Calls Tryz.prog 29 #[.string A] w fun e w' => e = .returned (.tuple #[.agg #[.int .i64 0, .int .i64 0, .float .f64 0, .string ⟨#[]⟩], .int .i64 0, .bool false]) ∧ Below w.heap.size w w') (w : World) (hT : Tabs w) :
    Calls Tryz.prog 7 #[.agg #[.int .i64 k, .int .i64 n, .int .u64 (f : Int), .string s], .string S] w fun e w' => e = .returned (.bool true) ∧ Below w.heap.size w w' := by
  have hsf := run_store_float
  have c0 : Below w.heap.size w (w.alloc (.cells #[.int .i64 k, .int .i64 n, .int .u64 (f : Int), .string s] 24)) := (Below.refl w.heap.size w).alloc (by simp) _
  have LB0_0 : Lies (w.alloc (.cells #[.int .i64 k, .int .i64 n, .int .u64 (f : Int), .string s] 24)) (w.heap.size) (.int .i64 k) (.int .i64 n) (.int .u64 (f : Int)) (.string s) := lies_at w (w.heap.size) (by simp) (.int .i64 k) (.int .i64 n) (.int .u64 (f : Int)) (.string s) 24
  go_enter Tryz.func7, Tryz.ntmps7
  go_wp2_with fail
  refine (shown_any _ (hT.below c0)).mono ?_; rintro e w1 ⟨rfl, hb1⟩
  have c1 := Below.chain c0 hb1
  have LB0_1 := LB0_0.below hb1
  have ⟨_, _, _, _⟩ := LB0_1
  go_wp2_with fail
  refine (of_any k n f s _).mono ?_; rintro e w2 ⟨rfl, hb2⟩
  have c2 := Below.chain c1 hb2
  have LB0_2 := LB0_1.below hb2
  have c3 := Below.chain c2 (below_a1 w2 (.cells #[.int .i64 k, .int .i64 n, .float .f64 f, .string (cut60 s)] 28))
  have LB0_3 := LB0_2.alloc (.cells #[.int .i64 k, .int .i64 n, .float .f64 f, .string (cut60 s)] 28)
  have Lx_3 := lies_new w2 (.int .i64 k) (.int .i64 n) (.float .f64 f) (.string (cut60 s)) 28
  have ⟨_, _, _, _⟩ := LB0_3
  have ⟨_, _, _, _⟩ := Lx_3
  go_wp2_with fail
  refine (R _).mono ?_; rintro e w4 ⟨rfl, hb4⟩
  have c4 := Below.chain c3 hb4
  have LB0_4 := LB0_3.below hb4
  have Lx_4 := Lx_3.below hb4
  have ⟨_, _, _, _⟩ := LB0_4
  have ⟨_, _, _, _⟩ := Lx_4
  go_wp2_with fail
  refine (TX _ (hT.below c4)).mono ?_; rintro e w5 ⟨rfl, hb5⟩
  have c5 := Below.chain c4 hb5
  have LB0_5 := LB0_4.below hb5
  have Lx_5 := Lx_4.below hb5
  have ⟨_, _, _, _⟩ := LB0_5
  have ⟨_, _, _, _⟩ := Lx_5
  go_wp2_with fail
  refine (RB _ (hT.below c5)).mono ?_; rintro e w6 ⟨rfl, hb6⟩
  have c6 := Below.chain c5 hb6
  have LB0_6 := LB0_5.below hb6
  have Lx_6 := Lx_5.below hb6
  have c7 := Below.chain c6 (below_a1 w6 (.cells #[.int .i64 k, .int .i64 n, .float .f64 f, .string (cut60 s)] 28))
  have LB0_7 := LB0_6.alloc (.cells #[.int .i64 k, .int .i64 n, .float .f64 f, .string (cut60 s)] 28)
  have Lx_7 := Lx_6.alloc (.cells #[.int .i64 k, .int .i64 n, .float .f64 f, .string (cut60 s)] 28)
  have Lb_7 := lies_new w6 (.int .i64 k) (.int .i64 n) (.float .f64 f) (.string (cut60 s)) 28
  have ⟨_, _, _, _⟩ := LB0_7
  have ⟨_, _, _, _⟩ := Lx_7
  have ⟨_, _, _, _⟩ := Lb_7
  go_wp2_with fail
  refine (SX _).mono ?_; rintro e w8 ⟨rfl, hb8⟩
  have c8 := Below.chain c7 hb8
  have LB0_8 := LB0_7.below hb8
  have Lx_8 := Lx_7.below hb8
  have Lb_8 := Lb_7.below hb8
  have ⟨_, _, _, _⟩ := LB0_8
  have ⟨_, _, _, _⟩ := Lx_8
  have ⟨_, _, _, _⟩ := Lb_8
  go_wp2_with fail
  refine (RA _ (hT.below c8)).mono ?_; rintro e w9 ⟨rfl, hb9⟩
  have c9 := Below.chain c8 hb9
  have LB0_9 := LB0_8.below hb9
  have Lx_9 := Lx_8.below hb9
  have Lb_9 := Lb_8.below hb9
  have c10 := Below.chain c9 (below_a1 w9 (.cells #[.int .i64 0, .int .i64 0, .float .f64 0, .string ⟨#[]⟩] 28))
  have LB0_10 := LB0_9.alloc (.cells #[.int .i64 0, .int .i64 0, .float .f64 0, .string ⟨#[]⟩] 28)
  have Lx_10 := Lx_9.alloc (.cells #[.int .i64 0, .int .i64 0, .float .f64 0, .string ⟨#[]⟩] 28)
  have Lb_10 := Lb_9.alloc (.cells #[.int .i64 0, .int .i64 0, .float .f64 0, .string ⟨#[]⟩] 28)
  have La_10 := lies_new w9 (.int .i64 0) (.int .i64 0) (.float .f64 0) (.string ⟨#[]⟩) 28
  have ⟨_, _, _, _⟩ := LB0_10
  have ⟨_, _, _, _⟩ := Lx_10
  have ⟨_, _, _, _⟩ := Lb_10
  have ⟨_, _, _, _⟩ := La_10
  go_wp2_with fail
  go_ret
  exact ⟨rfl, c10⟩
set_option maxRecDepth 100000 in
set_option maxHeartbeats 1000000 in
theorem b11 (k n : Int) (f : Nat) (s S A : ByteArray) (m : Nat) (hm : min (S.size : Int) 100 = (m : Int)) (ml : m ≤ S.size) (hA : S.extract 0 m = A) (la : A.size ≤ 100) (R : ∀ w, Calls Tryz.prog 16 #[.agg #[.int .i64 k, .int .i64 n, .float .f64 f, .string (cut60 s)]] w fun e w' => e = .returned (.bool true) ∧ Below w.heap.size w w') (T B : ByteArray) (hB : T ++ ⟨#[32]⟩ ++ A = B) (lt : T.size ≤ 1000) (TX : ∀ w, Tabs w → Calls Tryz.prog 27 #[.agg #[.int .i64 k, .int .i64 n, .float .f64 f, .string (cut60 s)]] w fun e w' => e = .returned (.tuple #[.string T, .int .i64 0]) ∧ Below w.heap.size w w') (RB : ∀ w, Tabs w → Calls Tryz.prog 29 #[.string B] w fun e w' => e = .returned (.tuple #[.agg #[.int .i64 k, .int .i64 n, .float .f64 f, .string (cut60 s)], .int .i64 (T.size : Int), .bool true]) ∧ Below w.heap.size w w') (SX : ∀ w, Calls Tryz.prog 18 #[.agg #[.int .i64 k, .int .i64 n, .float .f64 f, .string (cut60 s)], .agg #[.int .i64 k, .int .i64 n, .float .f64 f, .string (cut60 s)]] w fun e w' => e = .returned (.bool true) ∧ Below w.heap.size w w') (vk vn : Int) (vf q : Nat) (vt U C : ByteArray) (hq : 1 ≤ q) (hq2 : q ≤ A.size) (hC : A.extract 0 q = C) (hU : (U.toList == C.toList) = true) (RA : ∀ w, Tabs w → Calls Tryz.prog 29 #[.string A] w fun e w' => e = .returned (.tuple #[.agg #[.int .i64 vk, .int .i64 vn, .float .f64 vf, .string vt], .int .i64 (q : Int), .bool true]) ∧ Below w.heap.size w w') (TV : ∀ w, Tabs w → Calls Tryz.prog 27 #[.agg #[.int .i64 vk, .int .i64 vn, .float .f64 vf, .string vt]] w fun e w' => e = .returned (.tuple #[.string U, .int .i64 0]) ∧ Below w.heap.size w w') (RV : ∀ w, Calls Tryz.prog 16 #[.agg #[.int .i64 vk, .int .i64 vn, .float .f64 vf, .string vt]] w fun e w' => e = .returned (.bool true) ∧ Below w.heap.size w w') (w : World) (hT : Tabs w) :
    Calls Tryz.prog 7 #[.agg #[.int .i64 k, .int .i64 n, .int .u64 (f : Int), .string s], .string S] w fun e w' => e = .returned (.bool true) ∧ Below w.heap.size w w' := by
  have hsf := run_store_float
  have c0 : Below w.heap.size w (w.alloc (.cells #[.int .i64 k, .int .i64 n, .int .u64 (f : Int), .string s] 24)) := (Below.refl w.heap.size w).alloc (by simp) _
  have LB0_0 : Lies (w.alloc (.cells #[.int .i64 k, .int .i64 n, .int .u64 (f : Int), .string s] 24)) (w.heap.size) (.int .i64 k) (.int .i64 n) (.int .u64 (f : Int)) (.string s) := lies_at w (w.heap.size) (by simp) (.int .i64 k) (.int .i64 n) (.int .u64 (f : Int)) (.string s) 24
  go_enter Tryz.func7, Tryz.ntmps7
  go_wp2_with fail
  refine (shown_any _ (hT.below c0)).mono ?_; rintro e w1 ⟨rfl, hb1⟩
  have c1 := Below.chain c0 hb1
  have LB0_1 := LB0_0.below hb1
  have ⟨_, _, _, _⟩ := LB0_1
  go_wp2_with fail
  refine (of_any k n f s _).mono ?_; rintro e w2 ⟨rfl, hb2⟩
  have c2 := Below.chain c1 hb2
  have LB0_2 := LB0_1.below hb2
  have c3 := Below.chain c2 (below_a1 w2 (.cells #[.int .i64 k, .int .i64 n, .float .f64 f, .string (cut60 s)] 28))
  have LB0_3 := LB0_2.alloc (.cells #[.int .i64 k, .int .i64 n, .float .f64 f, .string (cut60 s)] 28)
  have Lx_3 := lies_new w2 (.int .i64 k) (.int .i64 n) (.float .f64 f) (.string (cut60 s)) 28
  have ⟨_, _, _, _⟩ := LB0_3
  have ⟨_, _, _, _⟩ := Lx_3
  go_wp2_with fail
  refine (R _).mono ?_; rintro e w4 ⟨rfl, hb4⟩
  have c4 := Below.chain c3 hb4
  have LB0_4 := LB0_3.below hb4
  have Lx_4 := Lx_3.below hb4
  have ⟨_, _, _, _⟩ := LB0_4
  have ⟨_, _, _, _⟩ := Lx_4
  go_wp2_with fail
  refine (TX _ (hT.below c4)).mono ?_; rintro e w5 ⟨rfl, hb5⟩
  have c5 := Below.chain c4 hb5
  have LB0_5 := LB0_4.below hb5
  have Lx_5 := Lx_4.below hb5
  have ⟨_, _, _, _⟩ := LB0_5
  have ⟨_, _, _, _⟩ := Lx_5
  go_wp2_with fail
  refine (RB _ (hT.below c5)).mono ?_; rintro e w6 ⟨rfl, hb6⟩
  have c6 := Below.chain c5 hb6
  have LB0_6 := LB0_5.below hb6
  have Lx_6 := Lx_5.below hb6
  have c7 := Below.chain c6 (below_a1 w6 (.cells #[.int .i64 k, .int .i64 n, .float .f64 f, .string (cut60 s)] 28))
  have LB0_7 := LB0_6.alloc (.cells #[.int .i64 k, .int .i64 n, .float .f64 f, .string (cut60 s)] 28)
  have Lx_7 := Lx_6.alloc (.cells #[.int .i64 k, .int .i64 n, .float .f64 f, .string (cut60 s)] 28)
  have Lb_7 := lies_new w6 (.int .i64 k) (.int .i64 n) (.float .f64 f) (.string (cut60 s)) 28
  have ⟨_, _, _, _⟩ := LB0_7
  have ⟨_, _, _, _⟩ := Lx_7
  have ⟨_, _, _, _⟩ := Lb_7
  go_wp2_with fail
  refine (SX _).mono ?_; rintro e w8 ⟨rfl, hb8⟩
  have c8 := Below.chain c7 hb8
  have LB0_8 := LB0_7.below hb8
  have Lx_8 := Lx_7.below hb8
  have Lb_8 := Lb_7.below hb8
  have ⟨_, _, _, _⟩ := LB0_8
  have ⟨_, _, _, _⟩ := Lx_8
  have ⟨_, _, _, _⟩ := Lb_8
  go_wp2_with fail
  refine (RA _ (hT.below c8)).mono ?_; rintro e w9 ⟨rfl, hb9⟩
  have c9 := Below.chain c8 hb9
  have LB0_9 := LB0_8.below hb9
  have Lx_9 := Lx_8.below hb9
  have Lb_9 := Lb_8.below hb9
  have c10 := Below.chain c9 (below_a1 w9 (.cells #[.int .i64 vk, .int .i64 vn, .float .f64 vf, .string vt] 28))
  have LB0_10 := LB0_9.alloc (.cells #[.int .i64 vk, .int .i64 vn, .float .f64 vf, .string vt] 28)
  have Lx_10 := Lx_9.alloc (.cells #[.int .i64 vk, .int .i64 vn, .float .f64 vf, .string vt] 28)
  have Lb_10 := Lb_9.alloc (.cells #[.int .i64 vk, .int .i64 vn, .float .f64 vf, .string vt] 28)
  have La_10 := lies_new w9 (.int .i64 vk) (.int .i64 vn) (.float .f64 vf) (.string vt) 28
  have ⟨_, _, _, _⟩ := LB0_10
  have ⟨_, _, _, _⟩ := Lx_10
  have ⟨_, _, _, _⟩ := Lb_10
  have ⟨_, _, _, _⟩ := La_10
  go_wp2_with fail
  refine (TV _ (hT.below c10)).mono ?_; rintro e w11 ⟨rfl, hb11⟩
  have c11 := Below.chain c10 hb11
  have LB0_11 := LB0_10.below hb11
  have Lx_11 := Lx_10.below hb11
  have Lb_11 := Lb_10.below hb11
  have La_11 := La_10.below hb11
  have ⟨_, _, _, _⟩ := LB0_11
  have ⟨_, _, _, _⟩ := Lx_11
  have ⟨_, _, _, _⟩ := Lb_11
  have ⟨_, _, _, _⟩ := La_11
  go_wp2_with fail
  refine (RV _).mono ?_; rintro e w12 ⟨rfl, hb12⟩
  have c12 := Below.chain c11 hb12
  have LB0_12 := LB0_11.below hb12
  have Lx_12 := Lx_11.below hb12
  have Lb_12 := Lb_11.below hb12
  have La_12 := La_11.below hb12
  have ⟨_, _, _, _⟩ := LB0_12
  have ⟨_, _, _, _⟩ := Lx_12
  have ⟨_, _, _, _⟩ := Lb_12
  have ⟨_, _, _, _⟩ := La_12
  go_wp2_with fail
  go_ret
  exact ⟨rfl, c12⟩
theorem rpSem_lt {l : List UInt8} {k n : Int} {f : Nat} (h : rpSem l = some (k, n, f)) : f < 18446744073709551616 := by
  have hp : ∀ {g : Option (Int × Int × Nat)}, g = (parseSem l).map (fun f => ((3 : Int), (0 : Int), f)) → g = some (k, n, f) → f < 18446744073709551616 := fun {g} h1 h2 => by
    rw [h1] at h2
    cases hq : parseSem l with
    | none => rw [hq] at h2; cases h2
    | some x => rw [hq] at h2; simp at h2; obtain ⟨_, _, rfl⟩ := h2; exact (parseSem_some hq).1
  unfold rpSem at h
  split at h
  · simp at h; obtain ⟨_, _, rfl⟩ := h; decide
  split at h
  · simp at h; obtain ⟨_, _, rfl⟩ := h; decide
  split at h
  · simp at h; obtain ⟨_, _, rfl⟩ := h; decide
  split at h
  · split at h
    · simp at h; obtain ⟨_, _, rfl⟩ := h; decide
    · exact hp rfl h
  · exact hp rfl h
theorem vrd_lt {l : List UInt8} {n : Nat} {k m : Int} {f : Nat} {t : List UInt8} (h : vrdSem l = some (n, k, m, f, t)) : f < 18446744073709551616 := by
  unfold vrdSem at h
  split at h
  · cases hr : rq (l.length + 1) (l.drop 1) [] 1 with
    | none => rw [hr] at h; cases h
    | some p => rw [hr] at h; simp at h; obtain ⟨_, _, _, rfl, _⟩ := h; decide
  · cases hr : findR l (runN 23 l) with
    | none => rw [hr] at h; cases h
    | some p =>
      obtain ⟨m', k', n', f'⟩ := p
      rw [hr] at h; simp at h; obtain ⟨_, _, _, rfl, _⟩ := h
      exact rpSem_lt (findR_some l _ _ _ hr).2.2
theorem bytes_back (s : ByteArray) : (⟨s.data.toList.toArray⟩ : ByteArray) = s := by cases s; simp
theorem size_mk (l : List UInt8) : (ByteArray.mk l.toArray).size = l.length := by show l.toArray.size = _; simp
theorem len_size (s : ByteArray) : s.data.toList.length = s.size := by simp
theorem textV_len (k n : Int) (f : Nat) (s : ByteArray) (hs : s.size ≤ 60) (n1 : -9223372036854775808 ≤ n) (n2 : n ≤ 9223372036854775807) (hf : f < 18446744073709551616) : (textV k n f s).length ≤ 1000 := by
  unfold textV
  split
  · decide
  split
  · split <;> decide
  split
  · have := Flt.itoa_len n1 n2; omega
  split
  · have := text_len f hf; omega
  · have := escL_len s.data.toList
    have h2 : s.data.toList.length = s.size := by simp
    simp; omega
theorem walk (k n : Int) (f : Nat) (s : ByteArray) (S : ByteArray) (_ : -9223372036854775808 ≤ k) (_ : k ≤ 9223372036854775807) (n1 : -9223372036854775808 ≤ n) (n2 : n ≤ 9223372036854775807) (hf : f < 18446744073709551616) (hs : s.size ≤ maxLen) (hS : S.size ≤ maxLen) (w : World) (hT : Tabs w) :
    Calls Tryz.prog 7 #[.agg #[.int .i64 k, .int .i64 n, .int .u64 (f : Int), .string s], .string S] w fun e w' => e = .returned (.bool true) ∧ Below w.heap.size w w' := by
  have s60 : (cut60 s).size ≤ 60 := by unfold cut60; simp; omega
  have sA : (S.extract 0 (min S.size 100)).size ≤ 100 := by simp; omega
  have R := right_any k n f hf (cut60 s)
  have RA := fun w hT => vread_any (S.extract 0 (min S.size 100)) (by omega) w hT
  have tl := textV_len k n f (cut60 s) s60 n1 n2 hf
  have TX := fun r w hT => text_right k n f (cut60 s) n1 n2 hf (by omega) r w hT
  have hTs : (ByteArray.mk (textV k n f (cut60 s)).toArray).size = (textV k n f (cut60 s)).length := size_mk _
  have sB : (ByteArray.mk (textV k n f (cut60 s)).toArray ++ ⟨#[32]⟩ ++ S.extract 0 (min S.size 100)).size ≤ 1000000 := by
    rw [ByteArray.size_append, ByteArray.size_append, hTs]
    have : (ByteArray.mk #[32]).size = 1 := rfl
    omega
  have RB := fun w hT => vread_any (ByteArray.mk (textV k n f (cut60 s)).toArray ++ ⟨#[32]⟩ ++ S.extract 0 (min S.size 100)) sB w hT
  have eB : (ByteArray.mk (textV k n f (cut60 s)).toArray ++ ⟨#[32]⟩ ++ S.extract 0 (min S.size 100)).data.toList = textV k n f (cut60 s) ++ 32 :: (S.extract 0 (min S.size 100)).data.toList := by simp
  rw [eB] at RB
  have SX := fun W => (same_any k n k n f f hf hf (cut60 s) (cut60 s) W).mono fun e w' h => ret_bool' (b := true) (by simp [idB]) h
  rcases bool_cases (rightB k n f (cut60 s)) with r | r
  · rw [r] at R
    cases h : vrdSem (S.extract 0 (min S.size 100)).data.toList with
    | none =>
      rw [h] at RA
      exact b00 k n f s S _ _ (by omega) (by omega) rfl sA R RA w hT
    | some p =>
      obtain ⟨q, vk, vn, vf, t⟩ := p
      have hl := vrd_lt h
      obtain ⟨h1, h2, _, _⟩ := vrd_more _ [] _ _ h
      obtain ⟨g1, g2, g3, g4, g5⟩ := bwd _ _ _ _ _ _ h
      rw [h] at RA
      have st : (ByteArray.mk t.toArray).size ≤ 1000000 := by rw [size_mk]; rw [len_size] at g5; omega
      have RV := right_any vk vn vf hl ⟨t.toArray⟩
      rw [g1] at RV
      have TV := fun w hT => text_right vk vn vf ⟨t.toArray⟩ g3 g4 hl st g1 w hT
      exact b01 k n f s S _ _ (by omega) (by omega) rfl sA R vk vn vf q ⟨t.toArray⟩ ⟨(textV vk vn vf ⟨t.toArray⟩).toArray⟩ _ h1 (by simpa using h2) rfl (by rw [Lib.toList_data, Lib.toList_data, ext_take0, g2]; simp) RA TV RV w hT
  · rw [r] at R
    rw [fwd k n f (cut60 s) _ n1 n2 hf r] at RB
    simp only [vrdTuple, bytes_back, ← hTs] at RB
    have TX := TX r
    cases h : vrdSem (S.extract 0 (min S.size 100)).data.toList with
    | none =>
      rw [h] at RA
      exact b10 k n f s S _ _ (by omega) (by omega) rfl sA R _ _ rfl (by omega) TX RB SX RA w hT
    | some p =>
      obtain ⟨q, vk, vn, vf, t⟩ := p
      have hl := vrd_lt h
      obtain ⟨h1, h2, _, _⟩ := vrd_more _ [] _ _ h
      obtain ⟨g1, g2, g3, g4, g5⟩ := bwd _ _ _ _ _ _ h
      rw [h] at RA
      have st : (ByteArray.mk t.toArray).size ≤ 1000000 := by rw [size_mk]; rw [len_size] at g5; omega
      have RV := right_any vk vn vf hl ⟨t.toArray⟩
      rw [g1] at RV
      have TV := fun w hT => text_right vk vn vf ⟨t.toArray⟩ g3 g4 hl st g1 w hT
      exact b11 k n f s S _ _ (by omega) (by omega) rfl sA R _ _ rfl (by omega) TX RB SX vk vn vf q ⟨t.toArray⟩ ⟨(textV vk vn vf ⟨t.toArray⟩).toArray⟩ _ h1 (by simpa using h2) rfl (by rw [Lib.toList_data, Lib.toList_data, ext_take0, g2]; simp) RA TV RV w hT
end Go.Proofs.YtnjlcdemfdokoaaGreatDoor.ValueBack
