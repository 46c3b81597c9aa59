/- The walk of the law ValueTells. -/
import Derived.Test.YtnjlcdemfdokoaaGreatDoorVs
import Derived.Test.YtnjlcdemfdokoaaGreatDoorVv
namespace Go.Proofs.YtnjlcdemfdokoaaGreatDoor.ValueTells
open Go Go.RowKit
set_option linter.unusedVariables false
theorem later_lies {w0 : World} {b : Nat} {v0 v1 v2 v3 : Value} (h : Lies w0 b v0 v1 v2 v3) (x : Later w0) : x.w.cell? ⟨b, 0, none⟩ = some v0 ∧ x.w.cell? ⟨b, 1, none⟩ = some v1 ∧ x.w.cell? ⟨b, 2, none⟩ = some v2 ∧ x.w.cell? ⟨b, 3, none⟩ = some v3 :=
  ⟨later_cell h.1 x, later_cell h.2.1 x, later_cell h.2.2.1 x, later_cell h.2.2.2 x⟩
set_option maxRecDepth 100000 in
set_option maxHeartbeats 1000000 in
theorem core (k n k' n' : Int) (f f' : Nat) (s s' : ByteArray) (a b c : Bool) (R1 : ∀ w, Calls Tryz.prog 16 #[.agg #[.int .i64 k, .int .i64 n, .float .f64 f, .string (cut60 s)]] w fun e w' => e = .returned (.bool a) ∧ Below w.heap.size w w') (R2 : ∀ w, Calls Tryz.prog 17 #[.agg #[.int .i64 k, .int .i64 n, .float .f64 f, .string (cut60 s)]] w fun e w' => e = .returned (.bool a) ∧ Below w.heap.size w w') (S1 : ∀ w, Calls Tryz.prog 18 #[.agg #[.int .i64 k, .int .i64 n, .float .f64 f, .string (cut60 s)], .agg #[.int .i64 k', .int .i64 n', .float .f64 f', .string (cut60 s')]] w fun e w' => e = .returned (.bool b) ∧ Below w.heap.size w w') (S2 : ∀ w, Calls Tryz.prog 19 #[.agg #[.int .i64 k, .int .i64 n, .float .f64 f, .string (cut60 s)], .agg #[.int .i64 k', .int .i64 n', .float .f64 f', .string (cut60 s')]] w fun e w' => e = .returned (.bool b) ∧ Below w.heap.size w w') (L1 : ∀ w, Calls Tryz.prog 20 #[.agg #[.int .i64 k, .int .i64 n, .float .f64 f, .string (cut60 s)], .agg #[.int .i64 k', .int .i64 n', .float .f64 f', .string (cut60 s')]] w fun e w' => e = .returned (.bool c) ∧ Below w.heap.size w w') (L2 : ∀ w, Calls Tryz.prog 21 #[.agg #[.int .i64 k, .int .i64 n, .float .f64 f, .string (cut60 s)], .agg #[.int .i64 k', .int .i64 n', .float .f64 f', .string (cut60 s')]] w fun e w' => e = .returned (.bool c) ∧ Below w.heap.size w w') (S3 : ∀ w, Calls Tryz.prog 18 #[.agg #[.int .i64 k, .int .i64 n, .float .f64 f, .string (cut60 s)], .agg #[.int .i64 k, .int .i64 n, .float .f64 f, .string (cut60 s)]] w fun e w' => e = .returned (.bool true) ∧ Below w.heap.size w w') (w : World) (hT : Tabs w) :
    Calls Tryz.prog 3 #[.agg #[.int .i64 k, .int .i64 n, .int .u64 (f : Int), .string s], .agg #[.int .i64 k', .int .i64 n', .int .u64 (f' : Int), .string s']] w fun e w' => e = .returned (.bool true) ∧ Below w.heap.size w w' := by
  have hsf := run_store_float
  have c0 : Below w.heap.size w ((w.alloc (.cells #[.int .i64 k, .int .i64 n, .int .u64 (f : Int), .string s] 24)).alloc (.cells #[.int .i64 k', .int .i64 n', .int .u64 (f' : Int), .string s'] 24)) := ((Below.refl w.heap.size w).alloc (by simp) _).alloc (by simp <;> omega) _
  have LB0_0 : Lies ((w.alloc (.cells #[.int .i64 k, .int .i64 n, .int .u64 (f : Int), .string s] 24)).alloc (.cells #[.int .i64 k', .int .i64 n', .int .u64 (f' : Int), .string s'] 24)) (w.heap.size) (.int .i64 k) (.int .i64 n) (.int .u64 (f : Int)) (.string s) := (lies_at w (w.heap.size) (by simp) (.int .i64 k) (.int .i64 n) (.int .u64 (f : Int)) (.string s) 24).alloc _
  have LB1_0 : Lies ((w.alloc (.cells #[.int .i64 k, .int .i64 n, .int .u64 (f : Int), .string s] 24)).alloc (.cells #[.int .i64 k', .int .i64 n', .int .u64 (f' : Int), .string s'] 24)) (w.heap.size + 1) (.int .i64 k') (.int .i64 n') (.int .u64 (f' : Int)) (.string s') := lies_at (w.alloc (.cells #[.int .i64 k, .int .i64 n, .int .u64 (f : Int), .string s] 24)) (w.heap.size + 1) (by simp) (.int .i64 k') (.int .i64 n') (.int .u64 (f' : Int)) (.string s') 24
  go_enter Tryz.func3, Tryz.ntmps3
  go_wp2_with fail
  refine (shown_any _ (hT.below c0)).mono ?_; rintro e w1 ⟨rfl, hb1⟩
  have c1 := Below.chain c0 hb1
  have LB0_1 := LB0_0.below hb1
  have LB1_1 := LB1_0.below hb1
  have ⟨_, _, _, _⟩ := LB0_1
  have ⟨_, _, _, _⟩ := LB1_1
  go_wp2_with fail
  refine (of_any k n f s _).mono ?_; rintro e w2 ⟨rfl, hb2⟩
  have c2 := Below.chain c1 hb2
  have LB0_2 := LB0_1.below hb2
  have LB1_2 := LB1_1.below hb2
  have c3 := Below.chain c2 (below_a1 w2 (.cells #[.int .i64 k, .int .i64 n, .float .f64 f, .string (cut60 s)] 28))
  have LB0_3 := LB0_2.alloc (.cells #[.int .i64 k, .int .i64 n, .float .f64 f, .string (cut60 s)] 28)
  have LB1_3 := LB1_2.alloc (.cells #[.int .i64 k, .int .i64 n, .float .f64 f, .string (cut60 s)] 28)
  have Lx_3 := lies_new w2 (.int .i64 k) (.int .i64 n) (.float .f64 f) (.string (cut60 s)) 28
  have ⟨_, _, _, _⟩ := LB0_3
  have ⟨_, _, _, _⟩ := LB1_3
  have ⟨_, _, _, _⟩ := Lx_3
  go_wp2_with fail
  refine (of_any k' n' f' s' _).mono ?_; rintro e w4 ⟨rfl, hb4⟩
  have c4 := Below.chain c3 hb4
  have LB0_4 := LB0_3.below hb4
  have LB1_4 := LB1_3.below hb4
  have Lx_4 := Lx_3.below hb4
  have c5 := Below.chain c4 (below_a1 w4 (.cells #[.int .i64 k', .int .i64 n', .float .f64 f', .string (cut60 s')] 28))
  have LB0_5 := LB0_4.alloc (.cells #[.int .i64 k', .int .i64 n', .float .f64 f', .string (cut60 s')] 28)
  have LB1_5 := LB1_4.alloc (.cells #[.int .i64 k', .int .i64 n', .float .f64 f', .string (cut60 s')] 28)
  have Lx_5 := Lx_4.alloc (.cells #[.int .i64 k', .int .i64 n', .float .f64 f', .string (cut60 s')] 28)
  have Ly_5 := lies_new w4 (.int .i64 k') (.int .i64 n') (.float .f64 f') (.string (cut60 s')) 28
  have ⟨_, _, _, _⟩ := LB0_5
  have ⟨_, _, _, _⟩ := LB1_5
  have ⟨_, _, _, _⟩ := Lx_5
  have ⟨_, _, _, _⟩ := Ly_5
  go_wp2_with fail
  have lx := later_lies Lx_5
  have ly := later_lies Ly_5
  refine wp_region_later (by kernel_rfl) (by kernel_rfl) ?_
  repeat (go_big_quiet_step (first | with_reducible exact later_call (R1 _) | with_reducible exact later_call (R2 _) | with_reducible exact later_call (S1 _) | with_reducible exact later_call (S2 _) | with_reducible exact later_call (L1 _) | with_reducible exact later_call (L2 _) | with_reducible exact later_call (S3 _)))
  refine wpQuiet_nil ?_
  rintro w' ⟨x, rfl⟩
  go_wp2_with fail
  go_ret
  exact ⟨rfl, Below.chain c5 x.kept⟩
theorem walk (k n : Int) (f : Nat) (s : ByteArray) (k' n' : Int) (f' : Nat) (s' : ByteArray) (_ : -9223372036854775808 ≤ k) (_ : k ≤ 9223372036854775807) (n1 : -9223372036854775808 ≤ n) (n2 : n ≤ 9223372036854775807) (hf : f < 18446744073709551616) (hs : s.size ≤ maxLen) (_ : -9223372036854775808 ≤ k') (_ : k' ≤ 9223372036854775807) (n1' : -9223372036854775808 ≤ n') (n2' : n' ≤ 9223372036854775807) (hf' : f' < 18446744073709551616) (hs' : s'.size ≤ maxLen) (w : World) (hT : Tabs w) :
    Calls Tryz.prog 3 #[.agg #[.int .i64 k, .int .i64 n, .int .u64 (f : Int), .string s], .agg #[.int .i64 k', .int .i64 n', .int .u64 (f' : Int), .string s']] w fun e w' => e = .returned (.bool true) ∧ Below w.heap.size w w' := by
  refine core k n k' n' f f' s s' _ _ _ (right_any k n f hf (cut60 s)) (rright_any k n f hf (cut60 s)) (same_any k n k' n' f f' hf hf' (cut60 s) (cut60 s')) (rsame_any k n k' n' f f' hf hf' (cut60 s) (cut60 s')) (less_any' k n k' n' f f' hf hf' (cut60 s) (cut60 s')) (rless_any k n k' n' f f' hf hf' (cut60 s) (cut60 s')) (fun W => (same_any k n k n f f hf hf (cut60 s) (cut60 s) W).mono fun e w' h => ret_bool' ?_ h) w hT
  simp [idB]
end Go.Proofs.YtnjlcdemfdokoaaGreatDoor.ValueTells
