import Derived.Test.YtnjlcdemfdokoaaGreatDoorBF
namespace Go.Proofs.YtnjlcdemfdokoaaGreatDoor
open Go Go.RowKit
set_option linter.unusedVariables false
set_option maxRecDepth 100000 in
theorem rk_unk (op : ByteArray) (e1 : (op.toList == [43]) = false) (m1 : (op.toList != [43]) = true) (e2 : (op.toList == [45]) = false) (m2 : (op.toList != [45]) = true) (e3 : (op.toList == [42]) = false) (m3 : (op.toList != [42]) = true) (k n k' n' : Int) (f f' : Nat) (s s' : ByteArray) (p q : Bool) (C1 : ∀ w, Calls Tryz.prog 17 #[.agg #[.int .i64 k, .int .i64 n, .float .f64 f, .string s]] w fun e w' => e = .returned (.bool p) ∧ Below w.heap.size w w') (C2 : ∀ w, Calls Tryz.prog 17 #[.agg #[.int .i64 k', .int .i64 n', .float .f64 f', .string s']] w fun e w' => e = .returned (.bool q) ∧ Below w.heap.size w w') (w : World) :
    Calls Tryz.prog 26 #[.string op, .agg #[.int .i64 k, .int .i64 n, .float .f64 f, .string s], .agg #[.int .i64 k', .int .i64 n', .float .f64 f', .string s']] w fun e w' => e = .returned (.tuple #[.agg #[.int .i64 0, .int .i64 0, .float .f64 0, .string ⟨#[]⟩], .int .i64 1]) ∧ Below w.heap.size w w' := by
  have hsf := run_store_float
  have hfb := run_frombits
  go_enter Tryz.func26, Tryz.ntmps26
  go_wp2_with fail
  refine (C1 _).mono ?_; rintro e w1 ⟨rfl, hb1⟩
  have ch1 := hb1
  obtain ⟨hc1, hf1⟩ := bcell ch1
  have hz1 : w.heap.size + 1 + 1 < w1.heap.size := by have := ch1.size; simp only [size3] at this; omega
  go_wp2_with fail
  refine (C2 _).mono ?_; rintro e w2 ⟨rfl, hb2⟩
  have ch2 := Below.chain ch1 hb2
  clear hc1 hf1 hb2
  obtain ⟨hc2, hf2⟩ := bcell ch2
  have hz2 : w.heap.size + 1 + 1 < w2.heap.size := by have := ch2.size; simp only [size3] at this; omega
  go_wp2_with fail
  refine ((fun w => rnull_any w) _).mono ?_; rintro e w3 ⟨rfl, hb3⟩
  have ch3 := Below.chain ch2 hb3
  clear hc2 hf2 hb3
  obtain ⟨hc3, hf3⟩ := bcell ch3
  have hz3 : w.heap.size + 1 + 1 < w3.heap.size := by have := ch3.size; simp only [size3] at this; omega
  go_wp2_with fail
  exact ret_ve rfl rfl rfl rfl (((null3 _ _ _ _ _ _ _).below ch3).set _ _ _ _) ⟨rfl, below_set4 (Below.chain (below_a3 _ _ _ _) ch3) (by omega) _ _ _ _⟩
set_option maxRecDepth 100000 in
theorem rk1_ra (op : ByteArray) (e1 : (op.toList == [43]) = true) (m1 : (op.toList != [43]) = false) (e2 : (op.toList == [45]) = false) (m2 : (op.toList != [45]) = true) (e3 : (op.toList == [42]) = false) (m3 : (op.toList != [42]) = true) (k n k' n' : Int) (f f' : Nat) (s s' : ByteArray) (q : Bool) (C1 : ∀ w, Calls Tryz.prog 17 #[.agg #[.int .i64 k, .int .i64 n, .float .f64 f, .string s]] w fun e w' => e = .returned (.bool false) ∧ Below w.heap.size w w') (C2 : ∀ w, Calls Tryz.prog 17 #[.agg #[.int .i64 k', .int .i64 n', .float .f64 f', .string s']] w fun e w' => e = .returned (.bool q) ∧ Below w.heap.size w w') (w : World) :
    Calls Tryz.prog 26 #[.string op, .agg #[.int .i64 k, .int .i64 n, .float .f64 f, .string s], .agg #[.int .i64 k', .int .i64 n', .float .f64 f', .string s']] w fun e w' => e = .returned (.tuple #[.agg #[.int .i64 0, .int .i64 0, .float .f64 0, .string ⟨#[]⟩], .int .i64 1]) ∧ Below w.heap.size w w' := by
  have hsf := run_store_float
  have hfb := run_frombits
  go_enter Tryz.func26, Tryz.ntmps26
  go_wp2_with fail
  refine (C1 _).mono ?_; rintro e w1 ⟨rfl, hb1⟩
  have ch1 := hb1
  obtain ⟨hc1, hf1⟩ := bcell ch1
  have hz1 : w.heap.size + 1 + 1 < w1.heap.size := by have := ch1.size; simp only [size3] at this; omega
  go_wp2_with fail
  refine (C2 _).mono ?_; rintro e w2 ⟨rfl, hb2⟩
  have ch2 := Below.chain ch1 hb2
  clear hc1 hf1 hb2
  obtain ⟨hc2, hf2⟩ := bcell ch2
  have hz2 : w.heap.size + 1 + 1 < w2.heap.size := by have := ch2.size; simp only [size3] at this; omega
  go_wp2_with fail
  refine ((fun w => rnull_any w) _).mono ?_; rintro e w3 ⟨rfl, hb3⟩
  have ch3 := Below.chain ch2 hb3
  clear hc2 hf2 hb3
  obtain ⟨hc3, hf3⟩ := bcell ch3
  have hz3 : w.heap.size + 1 + 1 < w3.heap.size := by have := ch3.size; simp only [size3] at this; omega
  go_wp2_with fail
  exact ret_ve rfl rfl rfl rfl (((null3 _ _ _ _ _ _ _).below ch3).set _ _ _ _) ⟨rfl, below_set4 (Below.chain (below_a3 _ _ _ _) ch3) (by omega) _ _ _ _⟩
set_option maxRecDepth 100000 in
theorem rk1_rb (op : ByteArray) (e1 : (op.toList == [43]) = true) (m1 : (op.toList != [43]) = false) (e2 : (op.toList == [45]) = false) (m2 : (op.toList != [45]) = true) (e3 : (op.toList == [42]) = false) (m3 : (op.toList != [42]) = true) (k n k' n' : Int) (f f' : Nat) (s s' : ByteArray) (C1 : ∀ w, Calls Tryz.prog 17 #[.agg #[.int .i64 k, .int .i64 n, .float .f64 f, .string s]] w fun e w' => e = .returned (.bool true) ∧ Below w.heap.size w w') (C2 : ∀ w, Calls Tryz.prog 17 #[.agg #[.int .i64 k', .int .i64 n', .float .f64 f', .string s']] w fun e w' => e = .returned (.bool false) ∧ Below w.heap.size w w') (w : World) :
    Calls Tryz.prog 26 #[.string op, .agg #[.int .i64 k, .int .i64 n, .float .f64 f, .string s], .agg #[.int .i64 k', .int .i64 n', .float .f64 f', .string s']] w fun e w' => e = .returned (.tuple #[.agg #[.int .i64 0, .int .i64 0, .float .f64 0, .string ⟨#[]⟩], .int .i64 1]) ∧ Below w.heap.size w w' := by
  have hsf := run_store_float
  have hfb := run_frombits
  go_enter Tryz.func26, Tryz.ntmps26
  go_wp2_with fail
  refine (C1 _).mono ?_; rintro e w1 ⟨rfl, hb1⟩
  have ch1 := hb1
  obtain ⟨hc1, hf1⟩ := bcell ch1
  have hz1 : w.heap.size + 1 + 1 < w1.heap.size := by have := ch1.size; simp only [size3] at this; omega
  go_wp2_with fail
  refine (C2 _).mono ?_; rintro e w2 ⟨rfl, hb2⟩
  have ch2 := Below.chain ch1 hb2
  clear hc1 hf1 hb2
  obtain ⟨hc2, hf2⟩ := bcell ch2
  have hz2 : w.heap.size + 1 + 1 < w2.heap.size := by have := ch2.size; simp only [size3] at this; omega
  go_wp2_with fail
  refine ((fun w => rnull_any w) _).mono ?_; rintro e w3 ⟨rfl, hb3⟩
  have ch3 := Below.chain ch2 hb3
  clear hc2 hf2 hb3
  obtain ⟨hc3, hf3⟩ := bcell ch3
  have hz3 : w.heap.size + 1 + 1 < w3.heap.size := by have := ch3.size; simp only [size3] at this; omega
  go_wp2_with fail
  exact ret_ve rfl rfl rfl rfl (((null3 _ _ _ _ _ _ _).below ch3).set _ _ _ _) ⟨rfl, below_set4 (Below.chain (below_a3 _ _ _ _) ch3) (by omega) _ _ _ _⟩
set_option maxRecDepth 100000 in
theorem rk1_na (op : ByteArray) (e1 : (op.toList == [43]) = true) (m1 : (op.toList != [43]) = false) (e2 : (op.toList == [45]) = false) (m2 : (op.toList != [45]) = true) (e3 : (op.toList == [42]) = false) (m3 : (op.toList != [42]) = true) (k n k' n' : Int) (f f' : Nat) (s s' : ByteArray) (C1 : ∀ w, Calls Tryz.prog 17 #[.agg #[.int .i64 k, .int .i64 n, .float .f64 f, .string s]] w fun e w' => e = .returned (.bool true) ∧ Below w.heap.size w w') (C2 : ∀ w, Calls Tryz.prog 17 #[.agg #[.int .i64 k', .int .i64 n', .float .f64 f', .string s']] w fun e w' => e = .returned (.bool true) ∧ Below w.heap.size w w') (h0 : (k == 0) = true) (w : World) :
    Calls Tryz.prog 26 #[.string op, .agg #[.int .i64 k, .int .i64 n, .float .f64 f, .string s], .agg #[.int .i64 k', .int .i64 n', .float .f64 f', .string s']] w fun e w' => e = .returned (.tuple #[.agg #[.int .i64 0, .int .i64 0, .float .f64 0, .string ⟨#[]⟩], .int .i64 0]) ∧ Below w.heap.size w w' := by
  have hsf := run_store_float
  have hfb := run_frombits
  go_enter Tryz.func26, Tryz.ntmps26
  go_wp2_with fail
  refine (C1 _).mono ?_; rintro e w1 ⟨rfl, hb1⟩
  have ch1 := hb1
  obtain ⟨hc1, hf1⟩ := bcell ch1
  have hz1 : w.heap.size + 1 + 1 < w1.heap.size := by have := ch1.size; simp only [size3] at this; omega
  go_wp2_with fail
  refine (C2 _).mono ?_; rintro e w2 ⟨rfl, hb2⟩
  have ch2 := Below.chain ch1 hb2
  clear hc1 hf1 hb2
  obtain ⟨hc2, hf2⟩ := bcell ch2
  have hz2 : w.heap.size + 1 + 1 < w2.heap.size := by have := ch2.size; simp only [size3] at this; omega
  go_wp2_with fail
  refine ((fun w => rnull_any w) _).mono ?_; rintro e w3 ⟨rfl, hb3⟩
  have ch3 := Below.chain ch2 hb3
  clear hc2 hf2 hb3
  obtain ⟨hc3, hf3⟩ := bcell ch3
  have hz3 : w.heap.size + 1 + 1 < w3.heap.size := by have := ch3.size; simp only [size3] at this; omega
  go_wp2_with fail
  exact ret_ve rfl rfl rfl rfl (((null3 _ _ _ _ _ _ _).below ch3).set _ _ _ _) ⟨rfl, below_set4 (Below.chain (below_a3 _ _ _ _) ch3) (by omega) _ _ _ _⟩
set_option maxRecDepth 100000 in
theorem rk1_nb (op : ByteArray) (e1 : (op.toList == [43]) = true) (m1 : (op.toList != [43]) = false) (e2 : (op.toList == [45]) = false) (m2 : (op.toList != [45]) = true) (e3 : (op.toList == [42]) = false) (m3 : (op.toList != [42]) = true) (k n k' n' : Int) (f f' : Nat) (s s' : ByteArray) (C1 : ∀ w, Calls Tryz.prog 17 #[.agg #[.int .i64 k, .int .i64 n, .float .f64 f, .string s]] w fun e w' => e = .returned (.bool true) ∧ Below w.heap.size w w') (C2 : ∀ w, Calls Tryz.prog 17 #[.agg #[.int .i64 k', .int .i64 n', .float .f64 f', .string s']] w fun e w' => e = .returned (.bool true) ∧ Below w.heap.size w w') (h0 : (k == 0) = false) (h1 : (k' == 0) = true) (w : World) :
    Calls Tryz.prog 26 #[.string op, .agg #[.int .i64 k, .int .i64 n, .float .f64 f, .string s], .agg #[.int .i64 k', .int .i64 n', .float .f64 f', .string s']] w fun e w' => e = .returned (.tuple #[.agg #[.int .i64 0, .int .i64 0, .float .f64 0, .string ⟨#[]⟩], .int .i64 0]) ∧ Below w.heap.size w w' := by
  have hsf := run_store_float
  have hfb := run_frombits
  go_enter Tryz.func26, Tryz.ntmps26
  go_wp2_with fail
  refine (C1 _).mono ?_; rintro e w1 ⟨rfl, hb1⟩
  have ch1 := hb1
  obtain ⟨hc1, hf1⟩ := bcell ch1
  have hz1 : w.heap.size + 1 + 1 < w1.heap.size := by have := ch1.size; simp only [size3] at this; omega
  go_wp2_with fail
  refine (C2 _).mono ?_; rintro e w2 ⟨rfl, hb2⟩
  have ch2 := Below.chain ch1 hb2
  clear hc1 hf1 hb2
  obtain ⟨hc2, hf2⟩ := bcell ch2
  have hz2 : w.heap.size + 1 + 1 < w2.heap.size := by have := ch2.size; simp only [size3] at this; omega
  go_wp2_with fail
  refine ((fun w => rnull_any w) _).mono ?_; rintro e w3 ⟨rfl, hb3⟩
  have ch3 := Below.chain ch2 hb3
  clear hc2 hf2 hb3
  obtain ⟨hc3, hf3⟩ := bcell ch3
  have hz3 : w.heap.size + 1 + 1 < w3.heap.size := by have := ch3.size; simp only [size3] at this; omega
  go_wp2_with fail
  exact ret_ve rfl rfl rfl rfl (((null3 _ _ _ _ _ _ _).below ch3).set _ _ _ _) ⟨rfl, below_set4 (Below.chain (below_a3 _ _ _ _) ch3) (by omega) _ _ _ _⟩
set_option maxRecDepth 100000 in
theorem rk1_ta (op : ByteArray) (e1 : (op.toList == [43]) = true) (m1 : (op.toList != [43]) = false) (e2 : (op.toList == [45]) = false) (m2 : (op.toList != [45]) = true) (e3 : (op.toList == [42]) = false) (m3 : (op.toList != [42]) = true) (k n k' n' : Int) (f f' : Nat) (s s' : ByteArray) (C1 : ∀ w, Calls Tryz.prog 17 #[.agg #[.int .i64 k, .int .i64 n, .float .f64 f, .string s]] w fun e w' => e = .returned (.bool true) ∧ Below w.heap.size w w') (C2 : ∀ w, Calls Tryz.prog 17 #[.agg #[.int .i64 k', .int .i64 n', .float .f64 f', .string s']] w fun e w' => e = .returned (.bool true) ∧ Below w.heap.size w w') (h0 : (k == 0) = false) (h1 : (k' == 0) = false) (C3 : ∀ w, Calls Tryz.prog 53 #[.agg #[.int .i64 k, .int .i64 n, .float .f64 f, .string s]] w fun e w' => e = .returned (.bool false) ∧ Below w.heap.size w w') (w : World) :
    Calls Tryz.prog 26 #[.string op, .agg #[.int .i64 k, .int .i64 n, .float .f64 f, .string s], .agg #[.int .i64 k', .int .i64 n', .float .f64 f', .string s']] w fun e w' => e = .returned (.tuple #[.agg #[.int .i64 0, .int .i64 0, .float .f64 0, .string ⟨#[]⟩], .int .i64 4]) ∧ Below w.heap.size w w' := by
  have hsf := run_store_float
  have hfb := run_frombits
  go_enter Tryz.func26, Tryz.ntmps26
  go_wp2_with fail
  refine (C1 _).mono ?_; rintro e w1 ⟨rfl, hb1⟩
  have ch1 := hb1
  obtain ⟨hc1, hf1⟩ := bcell ch1
  have hz1 : w.heap.size + 1 + 1 < w1.heap.size := by have := ch1.size; simp only [size3] at this; omega
  go_wp2_with fail
  refine (C2 _).mono ?_; rintro e w2 ⟨rfl, hb2⟩
  have ch2 := Below.chain ch1 hb2
  clear hc1 hf1 hb2
  obtain ⟨hc2, hf2⟩ := bcell ch2
  have hz2 : w.heap.size + 1 + 1 < w2.heap.size := by have := ch2.size; simp only [size3] at this; omega
  go_wp2_with fail
  refine (C3 _).mono ?_; rintro e w3 ⟨rfl, hb3⟩
  have ch3 := Below.chain ch2 hb3
  clear hc2 hf2 hb3
  obtain ⟨hc3, hf3⟩ := bcell ch3
  have hz3 : w.heap.size + 1 + 1 < w3.heap.size := by have := ch3.size; simp only [size3] at this; omega
  go_wp2_with fail
  refine ((fun w => rnull_any w) _).mono ?_; rintro e w4 ⟨rfl, hb4⟩
  have ch4 := Below.chain ch3 hb4
  clear hc3 hf3 hb4
  obtain ⟨hc4, hf4⟩ := bcell ch4
  have hz4 : w.heap.size + 1 + 1 < w4.heap.size := by have := ch4.size; simp only [size3] at this; omega
  go_wp2_with fail
  exact ret_ve rfl rfl rfl rfl (((null3 _ _ _ _ _ _ _).below ch4).set _ _ _ _) ⟨rfl, below_set4 (Below.chain (below_a3 _ _ _ _) ch4) (by omega) _ _ _ _⟩
set_option maxRecDepth 100000 in
theorem rk1_tb (op : ByteArray) (e1 : (op.toList == [43]) = true) (m1 : (op.toList != [43]) = false) (e2 : (op.toList == [45]) = false) (m2 : (op.toList != [45]) = true) (e3 : (op.toList == [42]) = false) (m3 : (op.toList != [42]) = true) (k n k' n' : Int) (f f' : Nat) (s s' : ByteArray) (C1 : ∀ w, Calls Tryz.prog 17 #[.agg #[.int .i64 k, .int .i64 n, .float .f64 f, .string s]] w fun e w' => e = .returned (.bool true) ∧ Below w.heap.size w w') (C2 : ∀ w, Calls Tryz.prog 17 #[.agg #[.int .i64 k', .int .i64 n', .float .f64 f', .string s']] w fun e w' => e = .returned (.bool true) ∧ Below w.heap.size w w') (h0 : (k == 0) = false) (h1 : (k' == 0) = false) (C3 : ∀ w, Calls Tryz.prog 53 #[.agg #[.int .i64 k, .int .i64 n, .float .f64 f, .string s]] w fun e w' => e = .returned (.bool true) ∧ Below w.heap.size w w') (C4 : ∀ w, Calls Tryz.prog 53 #[.agg #[.int .i64 k', .int .i64 n', .float .f64 f', .string s']] w fun e w' => e = .returned (.bool false) ∧ Below w.heap.size w w') (w : World) :
    Calls Tryz.prog 26 #[.string op, .agg #[.int .i64 k, .int .i64 n, .float .f64 f, .string s], .agg #[.int .i64 k', .int .i64 n', .float .f64 f', .string s']] w fun e w' => e = .returned (.tuple #[.agg #[.int .i64 0, .int .i64 0, .float .f64 0, .string ⟨#[]⟩], .int .i64 4]) ∧ Below w.heap.size w w' := by
  have hsf := run_store_float
  have hfb := run_frombits
  go_enter Tryz.func26, Tryz.ntmps26
  go_wp2_with fail
  refine (C1 _).mono ?_; rintro e w1 ⟨rfl, hb1⟩
  have ch1 := hb1
  obtain ⟨hc1, hf1⟩ := bcell ch1
  have hz1 : w.heap.size + 1 + 1 < w1.heap.size := by have := ch1.size; simp only [size3] at this; omega
  go_wp2_with fail
  refine (C2 _).mono ?_; rintro e w2 ⟨rfl, hb2⟩
  have ch2 := Below.chain ch1 hb2
  clear hc1 hf1 hb2
  obtain ⟨hc2, hf2⟩ := bcell ch2
  have hz2 : w.heap.size + 1 + 1 < w2.heap.size := by have := ch2.size; simp only [size3] at this; omega
  go_wp2_with fail
  refine (C3 _).mono ?_; rintro e w3 ⟨rfl, hb3⟩
  have ch3 := Below.chain ch2 hb3
  clear hc2 hf2 hb3
  obtain ⟨hc3, hf3⟩ := bcell ch3
  have hz3 : w.heap.size + 1 + 1 < w3.heap.size := by have := ch3.size; simp only [size3] at this; omega
  go_wp2_with fail
  refine (C4 _).mono ?_; rintro e w4 ⟨rfl, hb4⟩
  have ch4 := Below.chain ch3 hb4
  clear hc3 hf3 hb4
  obtain ⟨hc4, hf4⟩ := bcell ch4
  have hz4 : w.heap.size + 1 + 1 < w4.heap.size := by have := ch4.size; simp only [size3] at this; omega
  go_wp2_with fail
  refine ((fun w => rnull_any w) _).mono ?_; rintro e w5 ⟨rfl, hb5⟩
  have ch5 := Below.chain ch4 hb5
  clear hc4 hf4 hb5
  obtain ⟨hc5, hf5⟩ := bcell ch5
  have hz5 : w.heap.size + 1 + 1 < w5.heap.size := by have := ch5.size; simp only [size3] at this; omega
  go_wp2_with fail
  exact ret_ve rfl rfl rfl rfl (((null3 _ _ _ _ _ _ _).below ch5).set _ _ _ _) ⟨rfl, below_set4 (Below.chain (below_a3 _ _ _ _) ch5) (by omega) _ _ _ _⟩
set_option maxRecDepth 100000 in
theorem rk1_i_ok (op : ByteArray) (e1 : (op.toList == [43]) = true) (m1 : (op.toList != [43]) = false) (e2 : (op.toList == [45]) = false) (m2 : (op.toList != [45]) = true) (e3 : (op.toList == [42]) = false) (m3 : (op.toList != [42]) = true) (k n k' n' : Int) (f f' : Nat) (s s' : ByteArray) (C1 : ∀ w, Calls Tryz.prog 17 #[.agg #[.int .i64 2, .int .i64 n, .float .f64 f, .string s]] w fun e w' => e = .returned (.bool true) ∧ Below w.heap.size w w') (C2 : ∀ w, Calls Tryz.prog 17 #[.agg #[.int .i64 2, .int .i64 n', .float .f64 f', .string s']] w fun e w' => e = .returned (.bool true) ∧ Below w.heap.size w w') (C3 : ∀ w, Calls Tryz.prog 53 #[.agg #[.int .i64 2, .int .i64 n, .float .f64 f, .string s]] w fun e w' => e = .returned (.bool true) ∧ Below w.heap.size w w') (C4 : ∀ w, Calls Tryz.prog 53 #[.agg #[.int .i64 2, .int .i64 n', .float .f64 f', .string s']] w fun e w' => e = .returned (.bool true) ∧ Below w.heap.size w w') (TM : ∀ w, Calls Tryz.prog 58 #[.int .i64 n, .int .i64 n'] w fun e w' => ∃ N t, e = .returned (.tuple #[.int .i64 N, .bool t]) ∧ Below w.heap.size w w') (V : Int) (SU : ∀ w, Calls Tryz.prog 59 #[.int .i64 n, .int .i64 n'] w fun e w' => e = .returned (.tuple #[.int .i64 V, .bool true]) ∧ Below w.heap.size w w') (w : World) :
    Calls Tryz.prog 26 #[.string op, .agg #[.int .i64 2, .int .i64 n, .float .f64 f, .string s], .agg #[.int .i64 2, .int .i64 n', .float .f64 f', .string s']] w fun e w' => e = .returned (.tuple #[.agg #[.int .i64 2, .int .i64 V, .float .f64 0, .string ⟨#[]⟩], .int .i64 0]) ∧ Below w.heap.size w w' := by
  have hsf := run_store_float
  have hfb := run_frombits
  go_enter Tryz.func26, Tryz.ntmps26
  go_wp2_with fail
  refine (C1 _).mono ?_; rintro e w1 ⟨rfl, hb1⟩
  have ch1 := hb1
  obtain ⟨hc1, hf1⟩ := bcell ch1
  have hz1 : w.heap.size + 1 + 1 < w1.heap.size := by have := ch1.size; simp only [size3] at this; omega
  go_wp2_with fail
  refine (C2 _).mono ?_; rintro e w2 ⟨rfl, hb2⟩
  have ch2 := Below.chain ch1 hb2
  clear hc1 hf1 hb2
  obtain ⟨hc2, hf2⟩ := bcell ch2
  have hz2 : w.heap.size + 1 + 1 < w2.heap.size := by have := ch2.size; simp only [size3] at this; omega
  go_wp2_with fail
  refine (C3 _).mono ?_; rintro e w3 ⟨rfl, hb3⟩
  have ch3 := Below.chain ch2 hb3
  clear hc2 hf2 hb3
  obtain ⟨hc3, hf3⟩ := bcell ch3
  have hz3 : w.heap.size + 1 + 1 < w3.heap.size := by have := ch3.size; simp only [size3] at this; omega
  go_wp2_with fail
  refine (C4 _).mono ?_; rintro e w4 ⟨rfl, hb4⟩
  have ch4 := Below.chain ch3 hb4
  clear hc3 hf3 hb4
  obtain ⟨hc4, hf4⟩ := bcell ch4
  have hz4 : w.heap.size + 1 + 1 < w4.heap.size := by have := ch4.size; simp only [size3] at this; omega
  go_wp2_with fail
  refine (TM _).mono ?_; rintro e w5 ⟨N5, t5, rfl, hb5⟩
  have ch5 := Below.chain ch4 hb5
  clear hc4 hf4 hb5
  obtain ⟨hc5, hf5⟩ := bcell ch5
  have hz5 : w.heap.size + 1 + 1 < w5.heap.size := by have := ch5.size; simp only [size3] at this; omega
  go_wp2_with fail
  refine (SU _).mono ?_; rintro e w6 ⟨rfl, hb6⟩
  have ch6 := Below.chain ch5 hb6
  clear hc5 hf5 hb6
  obtain ⟨hc6, hf6⟩ := bcell ch6
  have hz6 : w.heap.size + 1 + 1 < w6.heap.size := by have := ch6.size; simp only [size3] at this; omega
  go_wp2_with fail
  exact ret_ve rfl rfl rfl rfl (((null3 _ _ _ _ _ _ _).below ch6).set _ _ _ _) ⟨rfl, below_set4 (Below.chain (below_a3 _ _ _ _) ch6) (by omega) _ _ _ _⟩
set_option maxRecDepth 100000 in
theorem rk1_i_no (op : ByteArray) (e1 : (op.toList == [43]) = true) (m1 : (op.toList != [43]) = false) (e2 : (op.toList == [45]) = false) (m2 : (op.toList != [45]) = true) (e3 : (op.toList == [42]) = false) (m3 : (op.toList != [42]) = true) (k n k' n' : Int) (f f' : Nat) (s s' : ByteArray) (C1 : ∀ w, Calls Tryz.prog 17 #[.agg #[.int .i64 2, .int .i64 n, .float .f64 f, .string s]] w fun e w' => e = .returned (.bool true) ∧ Below w.heap.size w w') (C2 : ∀ w, Calls Tryz.prog 17 #[.agg #[.int .i64 2, .int .i64 n', .float .f64 f', .string s']] w fun e w' => e = .returned (.bool true) ∧ Below w.heap.size w w') (C3 : ∀ w, Calls Tryz.prog 53 #[.agg #[.int .i64 2, .int .i64 n, .float .f64 f, .string s]] w fun e w' => e = .returned (.bool true) ∧ Below w.heap.size w w') (C4 : ∀ w, Calls Tryz.prog 53 #[.agg #[.int .i64 2, .int .i64 n', .float .f64 f', .string s']] w fun e w' => e = .returned (.bool true) ∧ Below w.heap.size w w') (TM : ∀ w, Calls Tryz.prog 58 #[.int .i64 n, .int .i64 n'] w fun e w' => ∃ N t, e = .returned (.tuple #[.int .i64 N, .bool t]) ∧ Below w.heap.size w w') (V : Int) (SU : ∀ w, Calls Tryz.prog 59 #[.int .i64 n, .int .i64 n'] w fun e w' => ∃ N, e = .returned (.tuple #[.int .i64 N, .bool false]) ∧ Below w.heap.size w w') (w : World) :
    Calls Tryz.prog 26 #[.string op, .agg #[.int .i64 2, .int .i64 n, .float .f64 f, .string s], .agg #[.int .i64 2, .int .i64 n', .float .f64 f', .string s']] w fun e w' => e = .returned (.tuple #[.agg #[.int .i64 0, .int .i64 0, .float .f64 0, .string ⟨#[]⟩], .int .i64 7]) ∧ Below w.heap.size w w' := by
  have hsf := run_store_float
  have hfb := run_frombits
  go_enter Tryz.func26, Tryz.ntmps26
  go_wp2_with fail
  refine (C1 _).mono ?_; rintro e w1 ⟨rfl, hb1⟩
  have ch1 := hb1
  obtain ⟨hc1, hf1⟩ := bcell ch1
  have hz1 : w.heap.size + 1 + 1 < w1.heap.size := by have := ch1.size; simp only [size3] at this; omega
  go_wp2_with fail
  refine (C2 _).mono ?_; rintro e w2 ⟨rfl, hb2⟩
  have ch2 := Below.chain ch1 hb2
  clear hc1 hf1 hb2
  obtain ⟨hc2, hf2⟩ := bcell ch2
  have hz2 : w.heap.size + 1 + 1 < w2.heap.size := by have := ch2.size; simp only [size3] at this; omega
  go_wp2_with fail
  refine (C3 _).mono ?_; rintro e w3 ⟨rfl, hb3⟩
  have ch3 := Below.chain ch2 hb3
  clear hc2 hf2 hb3
  obtain ⟨hc3, hf3⟩ := bcell ch3
  have hz3 : w.heap.size + 1 + 1 < w3.heap.size := by have := ch3.size; simp only [size3] at this; omega
  go_wp2_with fail
  refine (C4 _).mono ?_; rintro e w4 ⟨rfl, hb4⟩
  have ch4 := Below.chain ch3 hb4
  clear hc3 hf3 hb4
  obtain ⟨hc4, hf4⟩ := bcell ch4
  have hz4 : w.heap.size + 1 + 1 < w4.heap.size := by have := ch4.size; simp only [size3] at this; omega
  go_wp2_with fail
  refine (TM _).mono ?_; rintro e w5 ⟨N5, t5, rfl, hb5⟩
  have ch5 := Below.chain ch4 hb5
  clear hc4 hf4 hb5
  obtain ⟨hc5, hf5⟩ := bcell ch5
  have hz5 : w.heap.size + 1 + 1 < w5.heap.size := by have := ch5.size; simp only [size3] at this; omega
  go_wp2_with fail
  refine (SU _).mono ?_; rintro e w6 ⟨N6, rfl, hb6⟩
  have ch6 := Below.chain ch5 hb6
  clear hc5 hf5 hb6
  obtain ⟨hc6, hf6⟩ := bcell ch6
  have hz6 : w.heap.size + 1 + 1 < w6.heap.size := by have := ch6.size; simp only [size3] at this; omega
  go_wp2_with fail
  refine ((fun w => rnull_any w) _).mono ?_; rintro e w7 ⟨rfl, hb7⟩
  have ch7 := Below.chain ch6 hb7
  clear hc6 hf6 hb7
  obtain ⟨hc7, hf7⟩ := bcell ch7
  have hz7 : w.heap.size + 1 + 1 < w7.heap.size := by have := ch7.size; simp only [size3] at this; omega
  go_wp2_with fail
  exact ret_ve rfl rfl rfl rfl (((null3 _ _ _ _ _ _ _).below ch7).set _ _ _ _) ⟨rfl, below_set4 (Below.chain (below_a3 _ _ _ _) ch7) (by omega) _ _ _ _⟩
set_option maxRecDepth 100000 in
theorem rk1_f33 (op : ByteArray) (e1 : (op.toList == [43]) = true) (m1 : (op.toList != [43]) = false) (e2 : (op.toList == [45]) = false) (m2 : (op.toList != [45]) = true) (e3 : (op.toList == [42]) = false) (m3 : (op.toList != [42]) = true) (k n k' n' : Int) (f f' : Nat) (s s' : ByteArray) (C1 : ∀ w, Calls Tryz.prog 17 #[.agg #[.int .i64 3, .int .i64 n, .float .f64 f, .string s]] w fun e w' => e = .returned (.bool true) ∧ Below w.heap.size w w') (C2 : ∀ w, Calls Tryz.prog 17 #[.agg #[.int .i64 3, .int .i64 n', .float .f64 f', .string s']] w fun e w' => e = .returned (.bool true) ∧ Below w.heap.size w w') (C3 : ∀ w, Calls Tryz.prog 53 #[.agg #[.int .i64 3, .int .i64 n, .float .f64 f, .string s]] w fun e w' => e = .returned (.bool true) ∧ Below w.heap.size w w') (C4 : ∀ w, Calls Tryz.prog 53 #[.agg #[.int .i64 3, .int .i64 n', .float .f64 f', .string s']] w fun e w' => e = .returned (.bool true) ∧ Below w.heap.size w w') (w : World) :
    Calls Tryz.prog 26 #[.string op, .agg #[.int .i64 3, .int .i64 n, .float .f64 f, .string s], .agg #[.int .i64 3, .int .i64 n', .float .f64 f', .string s']] w fun e w' => e = .returned (.tuple #[.agg #[.int .i64 3, .int .i64 0, .float .f64 (arC .add f f'), .string ⟨#[]⟩], .int .i64 0]) ∧ Below w.heap.size w w' := by
  have hsf := run_store_float
  have hfb := run_frombits
  go_enter Tryz.func26, Tryz.ntmps26
  go_wp2_with fail
  refine (C1 _).mono ?_; rintro e w1 ⟨rfl, hb1⟩
  have ch1 := hb1
  obtain ⟨hc1, hf1⟩ := bcell ch1
  have hz1 : w.heap.size + 1 + 1 < w1.heap.size := by have := ch1.size; simp only [size3] at this; omega
  go_wp2_with fail
  refine (C2 _).mono ?_; rintro e w2 ⟨rfl, hb2⟩
  have ch2 := Below.chain ch1 hb2
  clear hc1 hf1 hb2
  obtain ⟨hc2, hf2⟩ := bcell ch2
  have hz2 : w.heap.size + 1 + 1 < w2.heap.size := by have := ch2.size; simp only [size3] at this; omega
  go_wp2_with fail
  refine (C3 _).mono ?_; rintro e w3 ⟨rfl, hb3⟩
  have ch3 := Below.chain ch2 hb3
  clear hc2 hf2 hb3
  obtain ⟨hc3, hf3⟩ := bcell ch3
  have hz3 : w.heap.size + 1 + 1 < w3.heap.size := by have := ch3.size; simp only [size3] at this; omega
  go_wp2_with fail
  refine (C4 _).mono ?_; rintro e w4 ⟨rfl, hb4⟩
  have ch4 := Below.chain ch3 hb4
  clear hc3 hf3 hb4
  obtain ⟨r1, w5, q1, g1, l1, hb5⟩ := far .mul (by simp) f f' w4
  have ch5 := Below.chain ch4 hb5
  obtain ⟨r2, w6, q2, g2, l2, hb6⟩ := far .add (by simp) f f' w5
  have ch6 := Below.chain ch5 hb6
  obtain ⟨hc5, hf5⟩ := bcell ch5
  have hz5 : w.heap.size + 1 + 1 < w5.heap.size := by have := ch5.size; simp only [size3] at this; omega
  obtain ⟨hc6, hf6⟩ := bcell ch6
  have hz6 : w.heap.size + 1 + 1 < w6.heap.size := by have := ch6.size; simp only [size3] at this; omega
  have BT := rbits_any r2 l2
  rw [g2] at BT
  have HBT := Lib.hid BT
  clear BT g1 l1 hb5 g2 l2 hb6
  obtain ⟨hc4, hf4⟩ := bcell ch4
  have hz4 : w.heap.size + 1 + 1 < w4.heap.size := by have := ch4.size; simp only [size3] at this; omega
  go_wp2_with fail
  refine (HBT.out _).mono ?_; rintro e w' ⟨rfl, rfl⟩
  go_wp2_with fail
  exact ret_ve rfl rfl rfl rfl (((null3 _ _ _ _ _ _ _).below ch6).set _ _ _ _) ⟨rfl, below_set4 (Below.chain (below_a3 _ _ _ _) ch6) (by omega) _ _ _ _⟩
set_option maxRecDepth 100000 in
theorem rk1_f23 (op : ByteArray) (e1 : (op.toList == [43]) = true) (m1 : (op.toList != [43]) = false) (e2 : (op.toList == [45]) = false) (m2 : (op.toList != [45]) = true) (e3 : (op.toList == [42]) = false) (m3 : (op.toList != [42]) = true) (k n k' n' : Int) (f f' : Nat) (s s' : ByteArray) (C1 : ∀ w, Calls Tryz.prog 17 #[.agg #[.int .i64 2, .int .i64 n, .float .f64 f, .string s]] w fun e w' => e = .returned (.bool true) ∧ Below w.heap.size w w') (C2 : ∀ w, Calls Tryz.prog 17 #[.agg #[.int .i64 3, .int .i64 n', .float .f64 f', .string s']] w fun e w' => e = .returned (.bool true) ∧ Below w.heap.size w w') (C3 : ∀ w, Calls Tryz.prog 53 #[.agg #[.int .i64 2, .int .i64 n, .float .f64 f, .string s]] w fun e w' => e = .returned (.bool true) ∧ Below w.heap.size w w') (C4 : ∀ w, Calls Tryz.prog 53 #[.agg #[.int .i64 3, .int .i64 n', .float .f64 f', .string s']] w fun e w' => e = .returned (.bool true) ∧ Below w.heap.size w w') (w : World) :
    Calls Tryz.prog 26 #[.string op, .agg #[.int .i64 2, .int .i64 n, .float .f64 f, .string s], .agg #[.int .i64 3, .int .i64 n', .float .f64 f', .string s']] w fun e w' => e = .returned (.tuple #[.agg #[.int .i64 3, .int .i64 0, .float .f64 (arC .add (floatOfInt .f64 n) f'), .string ⟨#[]⟩], .int .i64 0]) ∧ Below w.heap.size w w' := by
  have hsf := run_store_float
  have hfb := run_frombits
  go_enter Tryz.func26, Tryz.ntmps26
  go_wp2_with fail
  refine (C1 _).mono ?_; rintro e w1 ⟨rfl, hb1⟩
  have ch1 := hb1
  obtain ⟨hc1, hf1⟩ := bcell ch1
  have hz1 : w.heap.size + 1 + 1 < w1.heap.size := by have := ch1.size; simp only [size3] at this; omega
  go_wp2_with fail
  refine (C2 _).mono ?_; rintro e w2 ⟨rfl, hb2⟩
  have ch2 := Below.chain ch1 hb2
  clear hc1 hf1 hb2
  obtain ⟨hc2, hf2⟩ := bcell ch2
  have hz2 : w.heap.size + 1 + 1 < w2.heap.size := by have := ch2.size; simp only [size3] at this; omega
  go_wp2_with fail
  refine (C3 _).mono ?_; rintro e w3 ⟨rfl, hb3⟩
  have ch3 := Below.chain ch2 hb3
  clear hc2 hf2 hb3
  obtain ⟨hc3, hf3⟩ := bcell ch3
  have hz3 : w.heap.size + 1 + 1 < w3.heap.size := by have := ch3.size; simp only [size3] at this; omega
  go_wp2_with fail
  refine (C4 _).mono ?_; rintro e w4 ⟨rfl, hb4⟩
  have ch4 := Below.chain ch3 hb4
  clear hc3 hf3 hb4
  obtain ⟨r1, w5, q1, g1, l1, hb5⟩ := far .mul (by simp) (floatOfInt .f64 n) f' w4
  have ch5 := Below.chain ch4 hb5
  obtain ⟨r2, w6, q2, g2, l2, hb6⟩ := far .add (by simp) (floatOfInt .f64 n) f' w5
  have ch6 := Below.chain ch5 hb6
  obtain ⟨hc5, hf5⟩ := bcell ch5
  have hz5 : w.heap.size + 1 + 1 < w5.heap.size := by have := ch5.size; simp only [size3] at this; omega
  obtain ⟨hc6, hf6⟩ := bcell ch6
  have hz6 : w.heap.size + 1 + 1 < w6.heap.size := by have := ch6.size; simp only [size3] at this; omega
  have BT := rbits_any r2 l2
  rw [g2] at BT
  have HBT := Lib.hid BT
  clear BT g1 l1 hb5 g2 l2 hb6
  obtain ⟨hc4, hf4⟩ := bcell ch4
  have hz4 : w.heap.size + 1 + 1 < w4.heap.size := by have := ch4.size; simp only [size3] at this; omega
  go_wp2_with fail
  refine (HBT.out _).mono ?_; rintro e w' ⟨rfl, rfl⟩
  go_wp2_with fail
  exact ret_ve rfl rfl rfl rfl (((null3 _ _ _ _ _ _ _).below ch6).set _ _ _ _) ⟨rfl, below_set4 (Below.chain (below_a3 _ _ _ _) ch6) (by omega) _ _ _ _⟩
set_option maxRecDepth 100000 in
theorem rk1_f32 (op : ByteArray) (e1 : (op.toList == [43]) = true) (m1 : (op.toList != [43]) = false) (e2 : (op.toList == [45]) = false) (m2 : (op.toList != [45]) = true) (e3 : (op.toList == [42]) = false) (m3 : (op.toList != [42]) = true) (k n k' n' : Int) (f f' : Nat) (s s' : ByteArray) (C1 : ∀ w, Calls Tryz.prog 17 #[.agg #[.int .i64 3, .int .i64 n, .float .f64 f, .string s]] w fun e w' => e = .returned (.bool true) ∧ Below w.heap.size w w') (C2 : ∀ w, Calls Tryz.prog 17 #[.agg #[.int .i64 2, .int .i64 n', .float .f64 f', .string s']] w fun e w' => e = .returned (.bool true) ∧ Below w.heap.size w w') (C3 : ∀ w, Calls Tryz.prog 53 #[.agg #[.int .i64 3, .int .i64 n, .float .f64 f, .string s]] w fun e w' => e = .returned (.bool true) ∧ Below w.heap.size w w') (C4 : ∀ w, Calls Tryz.prog 53 #[.agg #[.int .i64 2, .int .i64 n', .float .f64 f', .string s']] w fun e w' => e = .returned (.bool true) ∧ Below w.heap.size w w') (w : World) :
    Calls Tryz.prog 26 #[.string op, .agg #[.int .i64 3, .int .i64 n, .float .f64 f, .string s], .agg #[.int .i64 2, .int .i64 n', .float .f64 f', .string s']] w fun e w' => e = .returned (.tuple #[.agg #[.int .i64 3, .int .i64 0, .float .f64 (arC .add f (floatOfInt .f64 n')), .string ⟨#[]⟩], .int .i64 0]) ∧ Below w.heap.size w w' := by
  have hsf := run_store_float
  have hfb := run_frombits
  go_enter Tryz.func26, Tryz.ntmps26
  go_wp2_with fail
  refine (C1 _).mono ?_; rintro e w1 ⟨rfl, hb1⟩
  have ch1 := hb1
  obtain ⟨hc1, hf1⟩ := bcell ch1
  have hz1 : w.heap.size + 1 + 1 < w1.heap.size := by have := ch1.size; simp only [size3] at this; omega
  go_wp2_with fail
  refine (C2 _).mono ?_; rintro e w2 ⟨rfl, hb2⟩
  have ch2 := Below.chain ch1 hb2
  clear hc1 hf1 hb2
  obtain ⟨hc2, hf2⟩ := bcell ch2
  have hz2 : w.heap.size + 1 + 1 < w2.heap.size := by have := ch2.size; simp only [size3] at this; omega
  go_wp2_with fail
  refine (C3 _).mono ?_; rintro e w3 ⟨rfl, hb3⟩
  have ch3 := Below.chain ch2 hb3
  clear hc2 hf2 hb3
  obtain ⟨hc3, hf3⟩ := bcell ch3
  have hz3 : w.heap.size + 1 + 1 < w3.heap.size := by have := ch3.size; simp only [size3] at this; omega
  go_wp2_with fail
  refine (C4 _).mono ?_; rintro e w4 ⟨rfl, hb4⟩
  have ch4 := Below.chain ch3 hb4
  clear hc3 hf3 hb4
  obtain ⟨r1, w5, q1, g1, l1, hb5⟩ := far .mul (by simp) f (floatOfInt .f64 n') w4
  have ch5 := Below.chain ch4 hb5
  obtain ⟨r2, w6, q2, g2, l2, hb6⟩ := far .add (by simp) f (floatOfInt .f64 n') w5
  have ch6 := Below.chain ch5 hb6
  obtain ⟨hc5, hf5⟩ := bcell ch5
  have hz5 : w.heap.size + 1 + 1 < w5.heap.size := by have := ch5.size; simp only [size3] at this; omega
  obtain ⟨hc6, hf6⟩ := bcell ch6
  have hz6 : w.heap.size + 1 + 1 < w6.heap.size := by have := ch6.size; simp only [size3] at this; omega
  have BT := rbits_any r2 l2
  rw [g2] at BT
  have HBT := Lib.hid BT
  clear BT g1 l1 hb5 g2 l2 hb6
  obtain ⟨hc4, hf4⟩ := bcell ch4
  have hz4 : w.heap.size + 1 + 1 < w4.heap.size := by have := ch4.size; simp only [size3] at this; omega
  go_wp2_with fail
  refine (HBT.out _).mono ?_; rintro e w' ⟨rfl, rfl⟩
  go_wp2_with fail
  exact ret_ve rfl rfl rfl rfl (((null3 _ _ _ _ _ _ _).below ch6).set _ _ _ _) ⟨rfl, below_set4 (Below.chain (below_a3 _ _ _ _) ch6) (by omega) _ _ _ _⟩
end Go.Proofs.YtnjlcdemfdokoaaGreatDoor
