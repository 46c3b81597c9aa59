import Derived.Test.YtnjlcdemfdokoaaGreatDoorB8
namespace Go.Proofs.YtnjlcdemfdokoaaGreatDoor
open Go Go.RowKit
set_option linter.unusedVariables false
theorem below_a3 (w : World) (o1 o2 o3 : Obj) : Below w.heap.size w (((w.alloc o1).alloc o2).alloc o3) := (below_a2 w o1 o2).alloc (by simp; omega) o3
theorem null3 (w : World) (o1 o2 : Obj) (v0 v1 v2 v3 : Value) : Lies (((w.alloc o1).alloc o2).alloc (.cells #[v0, v1, v2, v3] 28)) (w.heap.size + 1 + 1) v0 v1 v2 v3 := lies_at ((w.alloc o1).alloc o2) _ (by simp) v0 v1 v2 v3 _
theorem size3 (w : World) (o1 o2 o3 : Obj) : (((w.alloc o1).alloc o2).alloc o3).heap.size = w.heap.size + 1 + 1 + 1 := by simp
set_option maxRecDepth 100000 in
theorem rt_unk (op : ByteArray) (e1 : (op.toList == [61]) = false) (e2 : (op.toList == [60, 62]) = false) (e3 : (op.toList == [60]) = false) (e4 : (op.toList == [60, 61]) = false) (e5 : (op.toList == [62]) = false) (e6 : (op.toList == [62, 61]) = false) (k n k' n' : Int) (f f' : Nat) (s s' : ByteArray) (p q : Bool) (C1 : ∀ w, Calls Tryz.prog 17 #[.agg #[.int .i64 k, .int .i64 n, .float .f64 f, .string s]] w fun e w' => e = .returned (.bool p) ∧ Below w.heap.size w w') (C2 : ∀ w, Calls Tryz.prog 17 #[.agg #[.int .i64 k', .int .i64 n', .float .f64 f', .string s']] w fun e w' => e = .returned (.bool q) ∧ Below w.heap.size w w') (w : World) :
    Calls Tryz.prog 24 #[.string op, .agg #[.int .i64 k, .int .i64 n, .float .f64 f, .string s], .agg #[.int .i64 k', .int .i64 n', .float .f64 f', .string s']] w fun e w' => e = .returned (.tuple #[.agg #[.int .i64 0, .int .i64 0, .float .f64 0, .string ⟨#[]⟩], .int .i64 1]) ∧ Below w.heap.size w w' := by
  have hsf := run_store_float
  go_enter Tryz.func24, Tryz.ntmps24
  go_wp2_with fail
  refine (C1 _).mono ?_; rintro e w1 ⟨rfl, hb1⟩
  have ch1 := hb1
  obtain ⟨hc1, hf1⟩ := bcell ch1
  have hz1 : w.heap.size + 1 + 1 < w1.heap.size := by have := ch1.size; simp only [size3] at this; omega
  go_wp2_with fail
  refine (C2 _).mono ?_; rintro e w2 ⟨rfl, hb2⟩
  have ch2 := Below.chain ch1 hb2
  obtain ⟨hc2, hf2⟩ := bcell ch2
  have hz2 : w.heap.size + 1 + 1 < w2.heap.size := by have := ch2.size; simp only [size3] at this; omega
  clear hc1 hf1 hb2
  go_wp2_with fail
  refine ((fun w => rnull_any w) _).mono ?_; rintro e w3 ⟨rfl, hb3⟩
  have ch3 := Below.chain ch2 hb3
  obtain ⟨hc3, hf3⟩ := bcell ch3
  have hz3 : w.heap.size + 1 + 1 < w3.heap.size := by have := ch3.size; simp only [size3] at this; omega
  clear hc2 hf2 hb3
  go_wp2_with fail
  exact ret_ve rfl rfl rfl rfl (((null3 _ _ _ _ _ _ _).below ch3).set _ _ _ _) ⟨rfl, below_set4 (Below.chain (below_a3 _ _ _ _) ch3) (by omega) _ _ _ _⟩
set_option maxRecDepth 100000 in
theorem rt1_ra (op : ByteArray) (e1 : (op.toList == [61]) = true) (e2 : (op.toList == [60, 62]) = false) (e3 : (op.toList == [60]) = false) (e4 : (op.toList == [60, 61]) = false) (e5 : (op.toList == [62]) = false) (e6 : (op.toList == [62, 61]) = false) (k n k' n' : Int) (f f' : Nat) (s s' : ByteArray) (q : Bool) (C1 : ∀ w, Calls Tryz.prog 17 #[.agg #[.int .i64 k, .int .i64 n, .float .f64 f, .string s]] w fun e w' => e = .returned (.bool false) ∧ Below w.heap.size w w') (C2 : ∀ w, Calls Tryz.prog 17 #[.agg #[.int .i64 k', .int .i64 n', .float .f64 f', .string s']] w fun e w' => e = .returned (.bool q) ∧ Below w.heap.size w w') (w : World) :
    Calls Tryz.prog 24 #[.string op, .agg #[.int .i64 k, .int .i64 n, .float .f64 f, .string s], .agg #[.int .i64 k', .int .i64 n', .float .f64 f', .string s']] w fun e w' => e = .returned (.tuple #[.agg #[.int .i64 0, .int .i64 0, .float .f64 0, .string ⟨#[]⟩], .int .i64 1]) ∧ Below w.heap.size w w' := by
  have hsf := run_store_float
  go_enter Tryz.func24, Tryz.ntmps24
  go_wp2_with fail
  refine (C1 _).mono ?_; rintro e w1 ⟨rfl, hb1⟩
  have ch1 := hb1
  obtain ⟨hc1, hf1⟩ := bcell ch1
  have hz1 : w.heap.size + 1 + 1 < w1.heap.size := by have := ch1.size; simp only [size3] at this; omega
  go_wp2_with fail
  refine (C2 _).mono ?_; rintro e w2 ⟨rfl, hb2⟩
  have ch2 := Below.chain ch1 hb2
  obtain ⟨hc2, hf2⟩ := bcell ch2
  have hz2 : w.heap.size + 1 + 1 < w2.heap.size := by have := ch2.size; simp only [size3] at this; omega
  clear hc1 hf1 hb2
  go_wp2_with fail
  refine ((fun w => rnull_any w) _).mono ?_; rintro e w3 ⟨rfl, hb3⟩
  have ch3 := Below.chain ch2 hb3
  obtain ⟨hc3, hf3⟩ := bcell ch3
  have hz3 : w.heap.size + 1 + 1 < w3.heap.size := by have := ch3.size; simp only [size3] at this; omega
  clear hc2 hf2 hb3
  go_wp2_with fail
  exact ret_ve rfl rfl rfl rfl (((null3 _ _ _ _ _ _ _).below ch3).set _ _ _ _) ⟨rfl, below_set4 (Below.chain (below_a3 _ _ _ _) ch3) (by omega) _ _ _ _⟩
set_option maxRecDepth 100000 in
theorem rt1_rb (op : ByteArray) (e1 : (op.toList == [61]) = true) (e2 : (op.toList == [60, 62]) = false) (e3 : (op.toList == [60]) = false) (e4 : (op.toList == [60, 61]) = false) (e5 : (op.toList == [62]) = false) (e6 : (op.toList == [62, 61]) = false) (k n k' n' : Int) (f f' : Nat) (s s' : ByteArray) (C1 : ∀ w, Calls Tryz.prog 17 #[.agg #[.int .i64 k, .int .i64 n, .float .f64 f, .string s]] w fun e w' => e = .returned (.bool true) ∧ Below w.heap.size w w') (C2 : ∀ w, Calls Tryz.prog 17 #[.agg #[.int .i64 k', .int .i64 n', .float .f64 f', .string s']] w fun e w' => e = .returned (.bool false) ∧ Below w.heap.size w w') (w : World) :
    Calls Tryz.prog 24 #[.string op, .agg #[.int .i64 k, .int .i64 n, .float .f64 f, .string s], .agg #[.int .i64 k', .int .i64 n', .float .f64 f', .string s']] w fun e w' => e = .returned (.tuple #[.agg #[.int .i64 0, .int .i64 0, .float .f64 0, .string ⟨#[]⟩], .int .i64 1]) ∧ Below w.heap.size w w' := by
  have hsf := run_store_float
  go_enter Tryz.func24, Tryz.ntmps24
  go_wp2_with fail
  refine (C1 _).mono ?_; rintro e w1 ⟨rfl, hb1⟩
  have ch1 := hb1
  obtain ⟨hc1, hf1⟩ := bcell ch1
  have hz1 : w.heap.size + 1 + 1 < w1.heap.size := by have := ch1.size; simp only [size3] at this; omega
  go_wp2_with fail
  refine (C2 _).mono ?_; rintro e w2 ⟨rfl, hb2⟩
  have ch2 := Below.chain ch1 hb2
  obtain ⟨hc2, hf2⟩ := bcell ch2
  have hz2 : w.heap.size + 1 + 1 < w2.heap.size := by have := ch2.size; simp only [size3] at this; omega
  clear hc1 hf1 hb2
  go_wp2_with fail
  refine ((fun w => rnull_any w) _).mono ?_; rintro e w3 ⟨rfl, hb3⟩
  have ch3 := Below.chain ch2 hb3
  obtain ⟨hc3, hf3⟩ := bcell ch3
  have hz3 : w.heap.size + 1 + 1 < w3.heap.size := by have := ch3.size; simp only [size3] at this; omega
  clear hc2 hf2 hb3
  go_wp2_with fail
  exact ret_ve rfl rfl rfl rfl (((null3 _ _ _ _ _ _ _).below ch3).set _ _ _ _) ⟨rfl, below_set4 (Below.chain (below_a3 _ _ _ _) ch3) (by omega) _ _ _ _⟩
set_option maxRecDepth 100000 in
theorem rt1_na (op : ByteArray) (e1 : (op.toList == [61]) = true) (e2 : (op.toList == [60, 62]) = false) (e3 : (op.toList == [60]) = false) (e4 : (op.toList == [60, 61]) = false) (e5 : (op.toList == [62]) = false) (e6 : (op.toList == [62, 61]) = false) (k n k' n' : Int) (f f' : Nat) (s s' : ByteArray) (C1 : ∀ w, Calls Tryz.prog 17 #[.agg #[.int .i64 k, .int .i64 n, .float .f64 f, .string s]] w fun e w' => e = .returned (.bool true) ∧ Below w.heap.size w w') (C2 : ∀ w, Calls Tryz.prog 17 #[.agg #[.int .i64 k', .int .i64 n', .float .f64 f', .string s']] w fun e w' => e = .returned (.bool true) ∧ Below w.heap.size w w') (h0 : (k == 0) = true) (w : World) :
    Calls Tryz.prog 24 #[.string op, .agg #[.int .i64 k, .int .i64 n, .float .f64 f, .string s], .agg #[.int .i64 k', .int .i64 n', .float .f64 f', .string s']] w fun e w' => e = .returned (.tuple #[.agg #[.int .i64 0, .int .i64 0, .float .f64 0, .string ⟨#[]⟩], .int .i64 0]) ∧ Below w.heap.size w w' := by
  have hsf := run_store_float
  go_enter Tryz.func24, Tryz.ntmps24
  go_wp2_with fail
  refine (C1 _).mono ?_; rintro e w1 ⟨rfl, hb1⟩
  have ch1 := hb1
  obtain ⟨hc1, hf1⟩ := bcell ch1
  have hz1 : w.heap.size + 1 + 1 < w1.heap.size := by have := ch1.size; simp only [size3] at this; omega
  go_wp2_with fail
  refine (C2 _).mono ?_; rintro e w2 ⟨rfl, hb2⟩
  have ch2 := Below.chain ch1 hb2
  obtain ⟨hc2, hf2⟩ := bcell ch2
  have hz2 : w.heap.size + 1 + 1 < w2.heap.size := by have := ch2.size; simp only [size3] at this; omega
  clear hc1 hf1 hb2
  go_wp2_with fail
  refine ((fun w => rnull_any w) _).mono ?_; rintro e w3 ⟨rfl, hb3⟩
  have ch3 := Below.chain ch2 hb3
  obtain ⟨hc3, hf3⟩ := bcell ch3
  have hz3 : w.heap.size + 1 + 1 < w3.heap.size := by have := ch3.size; simp only [size3] at this; omega
  clear hc2 hf2 hb3
  go_wp2_with fail
  exact ret_ve rfl rfl rfl rfl (((null3 _ _ _ _ _ _ _).below ch3).set _ _ _ _) ⟨rfl, below_set4 (Below.chain (below_a3 _ _ _ _) ch3) (by omega) _ _ _ _⟩
set_option maxRecDepth 100000 in
theorem rt1_nb (op : ByteArray) (e1 : (op.toList == [61]) = true) (e2 : (op.toList == [60, 62]) = false) (e3 : (op.toList == [60]) = false) (e4 : (op.toList == [60, 61]) = false) (e5 : (op.toList == [62]) = false) (e6 : (op.toList == [62, 61]) = false) (k n k' n' : Int) (f f' : Nat) (s s' : ByteArray) (C1 : ∀ w, Calls Tryz.prog 17 #[.agg #[.int .i64 k, .int .i64 n, .float .f64 f, .string s]] w fun e w' => e = .returned (.bool true) ∧ Below w.heap.size w w') (C2 : ∀ w, Calls Tryz.prog 17 #[.agg #[.int .i64 k', .int .i64 n', .float .f64 f', .string s']] w fun e w' => e = .returned (.bool true) ∧ Below w.heap.size w w') (h0 : (k == 0) = false) (h1 : (k' == 0) = true) (w : World) :
    Calls Tryz.prog 24 #[.string op, .agg #[.int .i64 k, .int .i64 n, .float .f64 f, .string s], .agg #[.int .i64 k', .int .i64 n', .float .f64 f', .string s']] w fun e w' => e = .returned (.tuple #[.agg #[.int .i64 0, .int .i64 0, .float .f64 0, .string ⟨#[]⟩], .int .i64 0]) ∧ Below w.heap.size w w' := by
  have hsf := run_store_float
  go_enter Tryz.func24, Tryz.ntmps24
  go_wp2_with fail
  refine (C1 _).mono ?_; rintro e w1 ⟨rfl, hb1⟩
  have ch1 := hb1
  obtain ⟨hc1, hf1⟩ := bcell ch1
  have hz1 : w.heap.size + 1 + 1 < w1.heap.size := by have := ch1.size; simp only [size3] at this; omega
  go_wp2_with fail
  refine (C2 _).mono ?_; rintro e w2 ⟨rfl, hb2⟩
  have ch2 := Below.chain ch1 hb2
  obtain ⟨hc2, hf2⟩ := bcell ch2
  have hz2 : w.heap.size + 1 + 1 < w2.heap.size := by have := ch2.size; simp only [size3] at this; omega
  clear hc1 hf1 hb2
  go_wp2_with fail
  refine ((fun w => rnull_any w) _).mono ?_; rintro e w3 ⟨rfl, hb3⟩
  have ch3 := Below.chain ch2 hb3
  obtain ⟨hc3, hf3⟩ := bcell ch3
  have hz3 : w.heap.size + 1 + 1 < w3.heap.size := by have := ch3.size; simp only [size3] at this; omega
  clear hc2 hf2 hb3
  go_wp2_with fail
  exact ret_ve rfl rfl rfl rfl (((null3 _ _ _ _ _ _ _).below ch3).set _ _ _ _) ⟨rfl, below_set4 (Below.chain (below_a3 _ _ _ _) ch3) (by omega) _ _ _ _⟩
set_option maxRecDepth 100000 in
theorem rt1_ta (op : ByteArray) (e1 : (op.toList == [61]) = true) (e2 : (op.toList == [60, 62]) = false) (e3 : (op.toList == [60]) = false) (e4 : (op.toList == [60, 61]) = false) (e5 : (op.toList == [62]) = false) (e6 : (op.toList == [62, 61]) = false) (k n k' n' : Int) (f f' : Nat) (s s' : ByteArray) (C1 : ∀ w, Calls Tryz.prog 17 #[.agg #[.int .i64 k, .int .i64 n, .float .f64 f, .string s]] w fun e w' => e = .returned (.bool true) ∧ Below w.heap.size w w') (C2 : ∀ w, Calls Tryz.prog 17 #[.agg #[.int .i64 k', .int .i64 n', .float .f64 f', .string s']] w fun e w' => e = .returned (.bool true) ∧ Below w.heap.size w w') (h0 : (k == 0) = false) (h1 : (k' == 0) = false) (h2 : (k != k') = true) (C3 : ∀ w, Calls Tryz.prog 53 #[.agg #[.int .i64 k, .int .i64 n, .float .f64 f, .string s]] w fun e w' => e = .returned (.bool false) ∧ Below w.heap.size w w') (w : World) :
    Calls Tryz.prog 24 #[.string op, .agg #[.int .i64 k, .int .i64 n, .float .f64 f, .string s], .agg #[.int .i64 k', .int .i64 n', .float .f64 f', .string s']] w fun e w' => e = .returned (.tuple #[.agg #[.int .i64 0, .int .i64 0, .float .f64 0, .string ⟨#[]⟩], .int .i64 4]) ∧ Below w.heap.size w w' := by
  have hsf := run_store_float
  go_enter Tryz.func24, Tryz.ntmps24
  go_wp2_with fail
  refine (C1 _).mono ?_; rintro e w1 ⟨rfl, hb1⟩
  have ch1 := hb1
  obtain ⟨hc1, hf1⟩ := bcell ch1
  have hz1 : w.heap.size + 1 + 1 < w1.heap.size := by have := ch1.size; simp only [size3] at this; omega
  go_wp2_with fail
  refine (C2 _).mono ?_; rintro e w2 ⟨rfl, hb2⟩
  have ch2 := Below.chain ch1 hb2
  obtain ⟨hc2, hf2⟩ := bcell ch2
  have hz2 : w.heap.size + 1 + 1 < w2.heap.size := by have := ch2.size; simp only [size3] at this; omega
  clear hc1 hf1 hb2
  go_wp2_with fail
  refine (C3 _).mono ?_; rintro e w3 ⟨rfl, hb3⟩
  have ch3 := Below.chain ch2 hb3
  obtain ⟨hc3, hf3⟩ := bcell ch3
  have hz3 : w.heap.size + 1 + 1 < w3.heap.size := by have := ch3.size; simp only [size3] at this; omega
  clear hc2 hf2 hb3
  go_wp2_with fail
  refine ((fun w => rnull_any w) _).mono ?_; rintro e w4 ⟨rfl, hb4⟩
  have ch4 := Below.chain ch3 hb4
  obtain ⟨hc4, hf4⟩ := bcell ch4
  have hz4 : w.heap.size + 1 + 1 < w4.heap.size := by have := ch4.size; simp only [size3] at this; omega
  clear hc3 hf3 hb4
  go_wp2_with fail
  exact ret_ve rfl rfl rfl rfl (((null3 _ _ _ _ _ _ _).below ch4).set _ _ _ _) ⟨rfl, below_set4 (Below.chain (below_a3 _ _ _ _) ch4) (by omega) _ _ _ _⟩
set_option maxRecDepth 100000 in
theorem rt1_tb (op : ByteArray) (e1 : (op.toList == [61]) = true) (e2 : (op.toList == [60, 62]) = false) (e3 : (op.toList == [60]) = false) (e4 : (op.toList == [60, 61]) = false) (e5 : (op.toList == [62]) = false) (e6 : (op.toList == [62, 61]) = false) (k n k' n' : Int) (f f' : Nat) (s s' : ByteArray) (C1 : ∀ w, Calls Tryz.prog 17 #[.agg #[.int .i64 k, .int .i64 n, .float .f64 f, .string s]] w fun e w' => e = .returned (.bool true) ∧ Below w.heap.size w w') (C2 : ∀ w, Calls Tryz.prog 17 #[.agg #[.int .i64 k', .int .i64 n', .float .f64 f', .string s']] w fun e w' => e = .returned (.bool true) ∧ Below w.heap.size w w') (h0 : (k == 0) = false) (h1 : (k' == 0) = false) (h2 : (k != k') = true) (C3 : ∀ w, Calls Tryz.prog 53 #[.agg #[.int .i64 k, .int .i64 n, .float .f64 f, .string s]] w fun e w' => e = .returned (.bool true) ∧ Below w.heap.size w w') (C4 : ∀ w, Calls Tryz.prog 53 #[.agg #[.int .i64 k', .int .i64 n', .float .f64 f', .string s']] w fun e w' => e = .returned (.bool false) ∧ Below w.heap.size w w') (w : World) :
    Calls Tryz.prog 24 #[.string op, .agg #[.int .i64 k, .int .i64 n, .float .f64 f, .string s], .agg #[.int .i64 k', .int .i64 n', .float .f64 f', .string s']] w fun e w' => e = .returned (.tuple #[.agg #[.int .i64 0, .int .i64 0, .float .f64 0, .string ⟨#[]⟩], .int .i64 4]) ∧ Below w.heap.size w w' := by
  have hsf := run_store_float
  go_enter Tryz.func24, Tryz.ntmps24
  go_wp2_with fail
  refine (C1 _).mono ?_; rintro e w1 ⟨rfl, hb1⟩
  have ch1 := hb1
  obtain ⟨hc1, hf1⟩ := bcell ch1
  have hz1 : w.heap.size + 1 + 1 < w1.heap.size := by have := ch1.size; simp only [size3] at this; omega
  go_wp2_with fail
  refine (C2 _).mono ?_; rintro e w2 ⟨rfl, hb2⟩
  have ch2 := Below.chain ch1 hb2
  obtain ⟨hc2, hf2⟩ := bcell ch2
  have hz2 : w.heap.size + 1 + 1 < w2.heap.size := by have := ch2.size; simp only [size3] at this; omega
  clear hc1 hf1 hb2
  go_wp2_with fail
  refine (C3 _).mono ?_; rintro e w3 ⟨rfl, hb3⟩
  have ch3 := Below.chain ch2 hb3
  obtain ⟨hc3, hf3⟩ := bcell ch3
  have hz3 : w.heap.size + 1 + 1 < w3.heap.size := by have := ch3.size; simp only [size3] at this; omega
  clear hc2 hf2 hb3
  go_wp2_with fail
  refine (C4 _).mono ?_; rintro e w4 ⟨rfl, hb4⟩
  have ch4 := Below.chain ch3 hb4
  obtain ⟨hc4, hf4⟩ := bcell ch4
  have hz4 : w.heap.size + 1 + 1 < w4.heap.size := by have := ch4.size; simp only [size3] at this; omega
  clear hc3 hf3 hb4
  go_wp2_with fail
  refine ((fun w => rnull_any w) _).mono ?_; rintro e w5 ⟨rfl, hb5⟩
  have ch5 := Below.chain ch4 hb5
  obtain ⟨hc5, hf5⟩ := bcell ch5
  have hz5 : w.heap.size + 1 + 1 < w5.heap.size := by have := ch5.size; simp only [size3] at this; omega
  clear hc4 hf4 hb5
  go_wp2_with fail
  exact ret_ve rfl rfl rfl rfl (((null3 _ _ _ _ _ _ _).below ch5).set _ _ _ _) ⟨rfl, below_set4 (Below.chain (below_a3 _ _ _ _) ch5) (by omega) _ _ _ _⟩
set_option maxRecDepth 100000 in
theorem rt1_e0_no (op : ByteArray) (e1 : (op.toList == [61]) = true) (e2 : (op.toList == [60, 62]) = false) (e3 : (op.toList == [60]) = false) (e4 : (op.toList == [60, 61]) = false) (e5 : (op.toList == [62]) = false) (e6 : (op.toList == [62, 61]) = false) (k n k' n' : Int) (f f' : Nat) (s s' : ByteArray) (C1 : ∀ w, Calls Tryz.prog 17 #[.agg #[.int .i64 k, .int .i64 n, .float .f64 f, .string s]] w fun e w' => e = .returned (.bool true) ∧ Below w.heap.size w w') (C2 : ∀ w, Calls Tryz.prog 17 #[.agg #[.int .i64 k', .int .i64 n', .float .f64 f', .string s']] w fun e w' => e = .returned (.bool true) ∧ Below w.heap.size w w') (h0 : (k == 0) = false) (h1 : (k' == 0) = false) (h2 : (k != k') = false) (C3 : ∀ w, Calls Tryz.prog 53 #[.agg #[.int .i64 k, .int .i64 n, .float .f64 f, .string s]] w fun e w' => e = .returned (.bool false) ∧ Below w.heap.size w w') (a b : Bool) (C5 : ∀ w, Calls Tryz.prog 54 #[.agg #[.int .i64 k, .int .i64 n, .float .f64 f, .string s], .agg #[.int .i64 k', .int .i64 n', .float .f64 f', .string s']] w fun e w' => e = .returned (.tuple #[.bool a, .bool b, .bool false]) ∧ Below w.heap.size w w') (w : World) :
    Calls Tryz.prog 24 #[.string op, .agg #[.int .i64 k, .int .i64 n, .float .f64 f, .string s], .agg #[.int .i64 k', .int .i64 n', .float .f64 f', .string s']] w fun e w' => e = .returned (.tuple #[.agg #[.int .i64 1, .int .i64 (b01 false), .float .f64 0, .string ⟨#[]⟩], .int .i64 0]) ∧ Below w.heap.size w w' := by
  have hsf := run_store_float
  go_enter Tryz.func24, Tryz.ntmps24
  go_wp2_with fail
  refine (C1 _).mono ?_; rintro e w1 ⟨rfl, hb1⟩
  have ch1 := hb1
  obtain ⟨hc1, hf1⟩ := bcell ch1
  have hz1 : w.heap.size + 1 + 1 < w1.heap.size := by have := ch1.size; simp only [size3] at this; omega
  go_wp2_with fail
  refine (C2 _).mono ?_; rintro e w2 ⟨rfl, hb2⟩
  have ch2 := Below.chain ch1 hb2
  obtain ⟨hc2, hf2⟩ := bcell ch2
  have hz2 : w.heap.size + 1 + 1 < w2.heap.size := by have := ch2.size; simp only [size3] at this; omega
  clear hc1 hf1 hb2
  go_wp2_with fail
  refine (C3 _).mono ?_; rintro e w3 ⟨rfl, hb3⟩
  have ch3 := Below.chain ch2 hb3
  obtain ⟨hc3, hf3⟩ := bcell ch3
  have hz3 : w.heap.size + 1 + 1 < w3.heap.size := by have := ch3.size; simp only [size3] at this; omega
  clear hc2 hf2 hb3
  go_wp2_with fail
  refine (C5 _).mono ?_; rintro e w4 ⟨rfl, hb4⟩
  have ch4 := Below.chain ch3 hb4
  obtain ⟨hc4, hf4⟩ := bcell ch4
  have hz4 : w.heap.size + 1 + 1 < w4.heap.size := by have := ch4.size; simp only [size3] at this; omega
  clear hc3 hf3 hb4
  go_wp2_with fail
  refine (rtruth_any _ _).mono ?_; rintro e w5 ⟨rfl, hb5⟩
  have ch5 := Below.chain ch4 hb5
  obtain ⟨hc5, hf5⟩ := bcell ch5
  have hz5 : w.heap.size + 1 + 1 < w5.heap.size := by have := ch5.size; simp only [size3] at this; omega
  clear hc4 hf4 hb5
  go_wp2_with fail
  exact ret_ve rfl rfl rfl rfl (((null3 _ _ _ _ _ _ _).below ch5).set _ _ _ _) ⟨rfl, below_set4 (Below.chain (below_a3 _ _ _ _) ch5) (by omega) _ _ _ _⟩
set_option maxRecDepth 100000 in
theorem rt1_e0_ok (op : ByteArray) (e1 : (op.toList == [61]) = true) (e2 : (op.toList == [60, 62]) = false) (e3 : (op.toList == [60]) = false) (e4 : (op.toList == [60, 61]) = false) (e5 : (op.toList == [62]) = false) (e6 : (op.toList == [62, 61]) = false) (k n k' n' : Int) (f f' : Nat) (s s' : ByteArray) (C1 : ∀ w, Calls Tryz.prog 17 #[.agg #[.int .i64 k, .int .i64 n, .float .f64 f, .string s]] w fun e w' => e = .returned (.bool true) ∧ Below w.heap.size w w') (C2 : ∀ w, Calls Tryz.prog 17 #[.agg #[.int .i64 k', .int .i64 n', .float .f64 f', .string s']] w fun e w' => e = .returned (.bool true) ∧ Below w.heap.size w w') (h0 : (k == 0) = false) (h1 : (k' == 0) = false) (h2 : (k != k') = false) (C3 : ∀ w, Calls Tryz.prog 53 #[.agg #[.int .i64 k, .int .i64 n, .float .f64 f, .string s]] w fun e w' => e = .returned (.bool false) ∧ Below w.heap.size w w') (a b : Bool) (C5 : ∀ w, Calls Tryz.prog 54 #[.agg #[.int .i64 k, .int .i64 n, .float .f64 f, .string s], .agg #[.int .i64 k', .int .i64 n', .float .f64 f', .string s']] w fun e w' => e = .returned (.tuple #[.bool a, .bool b, .bool true]) ∧ Below w.heap.size w w') (w : World) :
    Calls Tryz.prog 24 #[.string op, .agg #[.int .i64 k, .int .i64 n, .float .f64 f, .string s], .agg #[.int .i64 k', .int .i64 n', .float .f64 f', .string s']] w fun e w' => e = .returned (.tuple #[.agg #[.int .i64 1, .int .i64 (b01 b), .float .f64 0, .string ⟨#[]⟩], .int .i64 0]) ∧ Below w.heap.size w w' := by
  have hsf := run_store_float
  go_enter Tryz.func24, Tryz.ntmps24
  go_wp2_with fail
  refine (C1 _).mono ?_; rintro e w1 ⟨rfl, hb1⟩
  have ch1 := hb1
  obtain ⟨hc1, hf1⟩ := bcell ch1
  have hz1 : w.heap.size + 1 + 1 < w1.heap.size := by have := ch1.size; simp only [size3] at this; omega
  go_wp2_with fail
  refine (C2 _).mono ?_; rintro e w2 ⟨rfl, hb2⟩
  have ch2 := Below.chain ch1 hb2
  obtain ⟨hc2, hf2⟩ := bcell ch2
  have hz2 : w.heap.size + 1 + 1 < w2.heap.size := by have := ch2.size; simp only [size3] at this; omega
  clear hc1 hf1 hb2
  go_wp2_with fail
  refine (C3 _).mono ?_; rintro e w3 ⟨rfl, hb3⟩
  have ch3 := Below.chain ch2 hb3
  obtain ⟨hc3, hf3⟩ := bcell ch3
  have hz3 : w.heap.size + 1 + 1 < w3.heap.size := by have := ch3.size; simp only [size3] at this; omega
  clear hc2 hf2 hb3
  go_wp2_with fail
  refine (C5 _).mono ?_; rintro e w4 ⟨rfl, hb4⟩
  have ch4 := Below.chain ch3 hb4
  obtain ⟨hc4, hf4⟩ := bcell ch4
  have hz4 : w.heap.size + 1 + 1 < w4.heap.size := by have := ch4.size; simp only [size3] at this; omega
  clear hc3 hf3 hb4
  go_wp2_with fail
  refine (rtruth_any _ _).mono ?_; rintro e w5 ⟨rfl, hb5⟩
  have ch5 := Below.chain ch4 hb5
  obtain ⟨hc5, hf5⟩ := bcell ch5
  have hz5 : w.heap.size + 1 + 1 < w5.heap.size := by have := ch5.size; simp only [size3] at this; omega
  clear hc4 hf4 hb5
  go_wp2_with fail
  exact ret_ve rfl rfl rfl rfl (((null3 _ _ _ _ _ _ _).below ch5).set _ _ _ _) ⟨rfl, below_set4 (Below.chain (below_a3 _ _ _ _) ch5) (by omega) _ _ _ _⟩
set_option maxRecDepth 100000 in
theorem rt1_e1_no (op : ByteArray) (e1 : (op.toList == [61]) = true) (e2 : (op.toList == [60, 62]) = false) (e3 : (op.toList == [60]) = false) (e4 : (op.toList == [60, 61]) = false) (e5 : (op.toList == [62]) = false) (e6 : (op.toList == [62, 61]) = false) (k n k' n' : Int) (f f' : Nat) (s s' : ByteArray) (C1 : ∀ w, Calls Tryz.prog 17 #[.agg #[.int .i64 k, .int .i64 n, .float .f64 f, .string s]] w fun e w' => e = .returned (.bool true) ∧ Below w.heap.size w w') (C2 : ∀ w, Calls Tryz.prog 17 #[.agg #[.int .i64 k', .int .i64 n', .float .f64 f', .string s']] w fun e w' => e = .returned (.bool true) ∧ Below w.heap.size w w') (h0 : (k == 0) = false) (h1 : (k' == 0) = false) (h2 : (k != k') = false) (C3 : ∀ w, Calls Tryz.prog 53 #[.agg #[.int .i64 k, .int .i64 n, .float .f64 f, .string s]] w fun e w' => e = .returned (.bool true) ∧ Below w.heap.size w w') (C4 : ∀ w, Calls Tryz.prog 53 #[.agg #[.int .i64 k', .int .i64 n', .float .f64 f', .string s']] w fun e w' => e = .returned (.bool true) ∧ Below w.heap.size w w') (a b : Bool) (C5 : ∀ w, Calls Tryz.prog 54 #[.agg #[.int .i64 k, .int .i64 n, .float .f64 f, .string s], .agg #[.int .i64 k', .int .i64 n', .float .f64 f', .string s']] w fun e w' => e = .returned (.tuple #[.bool a, .bool b, .bool false]) ∧ Below w.heap.size w w') (w : World) :
    Calls Tryz.prog 24 #[.string op, .agg #[.int .i64 k, .int .i64 n, .float .f64 f, .string s], .agg #[.int .i64 k', .int .i64 n', .float .f64 f', .string s']] w fun e w' => e = .returned (.tuple #[.agg #[.int .i64 1, .int .i64 (b01 false), .float .f64 0, .string ⟨#[]⟩], .int .i64 0]) ∧ Below w.heap.size w w' := by
  have hsf := run_store_float
  go_enter Tryz.func24, Tryz.ntmps24
  go_wp2_with fail
  refine (C1 _).mono ?_; rintro e w1 ⟨rfl, hb1⟩
  have ch1 := hb1
  obtain ⟨hc1, hf1⟩ := bcell ch1
  have hz1 : w.heap.size + 1 + 1 < w1.heap.size := by have := ch1.size; simp only [size3] at this; omega
  go_wp2_with fail
  refine (C2 _).mono ?_; rintro e w2 ⟨rfl, hb2⟩
  have ch2 := Below.chain ch1 hb2
  obtain ⟨hc2, hf2⟩ := bcell ch2
  have hz2 : w.heap.size + 1 + 1 < w2.heap.size := by have := ch2.size; simp only [size3] at this; omega
  clear hc1 hf1 hb2
  go_wp2_with fail
  refine (C3 _).mono ?_; rintro e w3 ⟨rfl, hb3⟩
  have ch3 := Below.chain ch2 hb3
  obtain ⟨hc3, hf3⟩ := bcell ch3
  have hz3 : w.heap.size + 1 + 1 < w3.heap.size := by have := ch3.size; simp only [size3] at this; omega
  clear hc2 hf2 hb3
  go_wp2_with fail
  refine (C4 _).mono ?_; rintro e w4 ⟨rfl, hb4⟩
  have ch4 := Below.chain ch3 hb4
  obtain ⟨hc4, hf4⟩ := bcell ch4
  have hz4 : w.heap.size + 1 + 1 < w4.heap.size := by have := ch4.size; simp only [size3] at this; omega
  clear hc3 hf3 hb4
  go_wp2_with fail
  refine (C5 _).mono ?_; rintro e w5 ⟨rfl, hb5⟩
  have ch5 := Below.chain ch4 hb5
  obtain ⟨hc5, hf5⟩ := bcell ch5
  have hz5 : w.heap.size + 1 + 1 < w5.heap.size := by have := ch5.size; simp only [size3] at this; omega
  clear hc4 hf4 hb5
  go_wp2_with fail
  refine (rtruth_any _ _).mono ?_; rintro e w6 ⟨rfl, hb6⟩
  have ch6 := Below.chain ch5 hb6
  obtain ⟨hc6, hf6⟩ := bcell ch6
  have hz6 : w.heap.size + 1 + 1 < w6.heap.size := by have := ch6.size; simp only [size3] at this; omega
  clear hc5 hf5 hb6
  go_wp2_with fail
  exact ret_ve rfl rfl rfl rfl (((null3 _ _ _ _ _ _ _).below ch6).set _ _ _ _) ⟨rfl, below_set4 (Below.chain (below_a3 _ _ _ _) ch6) (by omega) _ _ _ _⟩
set_option maxRecDepth 100000 in
theorem rt1_e1_ok (op : ByteArray) (e1 : (op.toList == [61]) = true) (e2 : (op.toList == [60, 62]) = false) (e3 : (op.toList == [60]) = false) (e4 : (op.toList == [60, 61]) = false) (e5 : (op.toList == [62]) = false) (e6 : (op.toList == [62, 61]) = false) (k n k' n' : Int) (f f' : Nat) (s s' : ByteArray) (C1 : ∀ w, Calls Tryz.prog 17 #[.agg #[.int .i64 k, .int .i64 n, .float .f64 f, .string s]] w fun e w' => e = .returned (.bool true) ∧ Below w.heap.size w w') (C2 : ∀ w, Calls Tryz.prog 17 #[.agg #[.int .i64 k', .int .i64 n', .float .f64 f', .string s']] w fun e w' => e = .returned (.bool true) ∧ Below w.heap.size w w') (h0 : (k == 0) = false) (h1 : (k' == 0) = false) (h2 : (k != k') = false) (C3 : ∀ w, Calls Tryz.prog 53 #[.agg #[.int .i64 k, .int .i64 n, .float .f64 f, .string s]] w fun e w' => e = .returned (.bool true) ∧ Below w.heap.size w w') (C4 : ∀ w, Calls Tryz.prog 53 #[.agg #[.int .i64 k', .int .i64 n', .float .f64 f', .string s']] w fun e w' => e = .returned (.bool true) ∧ Below w.heap.size w w') (a b : Bool) (C5 : ∀ w, Calls Tryz.prog 54 #[.agg #[.int .i64 k, .int .i64 n, .float .f64 f, .string s], .agg #[.int .i64 k', .int .i64 n', .float .f64 f', .string s']] w fun e w' => e = .returned (.tuple #[.bool a, .bool b, .bool true]) ∧ Below w.heap.size w w') (w : World) :
    Calls Tryz.prog 24 #[.string op, .agg #[.int .i64 k, .int .i64 n, .float .f64 f, .string s], .agg #[.int .i64 k', .int .i64 n', .float .f64 f', .string s']] w fun e w' => e = .returned (.tuple #[.agg #[.int .i64 1, .int .i64 (b01 b), .float .f64 0, .string ⟨#[]⟩], .int .i64 0]) ∧ Below w.heap.size w w' := by
  have hsf := run_store_float
  go_enter Tryz.func24, Tryz.ntmps24
  go_wp2_with fail
  refine (C1 _).mono ?_; rintro e w1 ⟨rfl, hb1⟩
  have ch1 := hb1
  obtain ⟨hc1, hf1⟩ := bcell ch1
  have hz1 : w.heap.size + 1 + 1 < w1.heap.size := by have := ch1.size; simp only [size3] at this; omega
  go_wp2_with fail
  refine (C2 _).mono ?_; rintro e w2 ⟨rfl, hb2⟩
  have ch2 := Below.chain ch1 hb2
  obtain ⟨hc2, hf2⟩ := bcell ch2
  have hz2 : w.heap.size + 1 + 1 < w2.heap.size := by have := ch2.size; simp only [size3] at this; omega
  clear hc1 hf1 hb2
  go_wp2_with fail
  refine (C3 _).mono ?_; rintro e w3 ⟨rfl, hb3⟩
  have ch3 := Below.chain ch2 hb3
  obtain ⟨hc3, hf3⟩ := bcell ch3
  have hz3 : w.heap.size + 1 + 1 < w3.heap.size := by have := ch3.size; simp only [size3] at this; omega
  clear hc2 hf2 hb3
  go_wp2_with fail
  refine (C4 _).mono ?_; rintro e w4 ⟨rfl, hb4⟩
  have ch4 := Below.chain ch3 hb4
  obtain ⟨hc4, hf4⟩ := bcell ch4
  have hz4 : w.heap.size + 1 + 1 < w4.heap.size := by have := ch4.size; simp only [size3] at this; omega
  clear hc3 hf3 hb4
  go_wp2_with fail
  refine (C5 _).mono ?_; rintro e w5 ⟨rfl, hb5⟩
  have ch5 := Below.chain ch4 hb5
  obtain ⟨hc5, hf5⟩ := bcell ch5
  have hz5 : w.heap.size + 1 + 1 < w5.heap.size := by have := ch5.size; simp only [size3] at this; omega
  clear hc4 hf4 hb5
  go_wp2_with fail
  refine (rtruth_any _ _).mono ?_; rintro e w6 ⟨rfl, hb6⟩
  have ch6 := Below.chain ch5 hb6
  obtain ⟨hc6, hf6⟩ := bcell ch6
  have hz6 : w.heap.size + 1 + 1 < w6.heap.size := by have := ch6.size; simp only [size3] at this; omega
  clear hc5 hf5 hb6
  go_wp2_with fail
  exact ret_ve rfl rfl rfl rfl (((null3 _ _ _ _ _ _ _).below ch6).set _ _ _ _) ⟨rfl, below_set4 (Below.chain (below_a3 _ _ _ _) ch6) (by omega) _ _ _ _⟩
set_option maxRecDepth 100000 in
theorem rt1_nn_no (op : ByteArray) (e1 : (op.toList == [61]) = true) (e2 : (op.toList == [60, 62]) = false) (e3 : (op.toList == [60]) = false) (e4 : (op.toList == [60, 61]) = false) (e5 : (op.toList == [62]) = false) (e6 : (op.toList == [62, 61]) = false) (k n k' n' : Int) (f f' : Nat) (s s' : ByteArray) (C1 : ∀ w, Calls Tryz.prog 17 #[.agg #[.int .i64 k, .int .i64 n, .float .f64 f, .string s]] w fun e w' => e = .returned (.bool true) ∧ Below w.heap.size w w') (C2 : ∀ w, Calls Tryz.prog 17 #[.agg #[.int .i64 k', .int .i64 n', .float .f64 f', .string s']] w fun e w' => e = .returned (.bool true) ∧ Below w.heap.size w w') (h0 : (k == 0) = false) (h1 : (k' == 0) = false) (h2 : (k != k') = true) (C3 : ∀ w, Calls Tryz.prog 53 #[.agg #[.int .i64 k, .int .i64 n, .float .f64 f, .string s]] w fun e w' => e = .returned (.bool true) ∧ Below w.heap.size w w') (C4 : ∀ w, Calls Tryz.prog 53 #[.agg #[.int .i64 k', .int .i64 n', .float .f64 f', .string s']] w fun e w' => e = .returned (.bool true) ∧ Below w.heap.size w w') (a b : Bool) (C5 : ∀ w, Calls Tryz.prog 54 #[.agg #[.int .i64 k, .int .i64 n, .float .f64 f, .string s], .agg #[.int .i64 k', .int .i64 n', .float .f64 f', .string s']] w fun e w' => e = .returned (.tuple #[.bool a, .bool b, .bool false]) ∧ Below w.heap.size w w') (w : World) :
    Calls Tryz.prog 24 #[.string op, .agg #[.int .i64 k, .int .i64 n, .float .f64 f, .string s], .agg #[.int .i64 k', .int .i64 n', .float .f64 f', .string s']] w fun e w' => e = .returned (.tuple #[.agg #[.int .i64 1, .int .i64 (b01 false), .float .f64 0, .string ⟨#[]⟩], .int .i64 0]) ∧ Below w.heap.size w w' := by
  have hsf := run_store_float
  go_enter Tryz.func24, Tryz.ntmps24
  go_wp2_with fail
  refine (C1 _).mono ?_; rintro e w1 ⟨rfl, hb1⟩
  have ch1 := hb1
  obtain ⟨hc1, hf1⟩ := bcell ch1
  have hz1 : w.heap.size + 1 + 1 < w1.heap.size := by have := ch1.size; simp only [size3] at this; omega
  go_wp2_with fail
  refine (C2 _).mono ?_; rintro e w2 ⟨rfl, hb2⟩
  have ch2 := Below.chain ch1 hb2
  obtain ⟨hc2, hf2⟩ := bcell ch2
  have hz2 : w.heap.size + 1 + 1 < w2.heap.size := by have := ch2.size; simp only [size3] at this; omega
  clear hc1 hf1 hb2
  go_wp2_with fail
  refine (C3 _).mono ?_; rintro e w3 ⟨rfl, hb3⟩
  have ch3 := Below.chain ch2 hb3
  obtain ⟨hc3, hf3⟩ := bcell ch3
  have hz3 : w.heap.size + 1 + 1 < w3.heap.size := by have := ch3.size; simp only [size3] at this; omega
  clear hc2 hf2 hb3
  go_wp2_with fail
  refine (C4 _).mono ?_; rintro e w4 ⟨rfl, hb4⟩
  have ch4 := Below.chain ch3 hb4
  obtain ⟨hc4, hf4⟩ := bcell ch4
  have hz4 : w.heap.size + 1 + 1 < w4.heap.size := by have := ch4.size; simp only [size3] at this; omega
  clear hc3 hf3 hb4
  go_wp2_with fail
  refine (C5 _).mono ?_; rintro e w5 ⟨rfl, hb5⟩
  have ch5 := Below.chain ch4 hb5
  obtain ⟨hc5, hf5⟩ := bcell ch5
  have hz5 : w.heap.size + 1 + 1 < w5.heap.size := by have := ch5.size; simp only [size3] at this; omega
  clear hc4 hf4 hb5
  go_wp2_with fail
  refine (rtruth_any _ _).mono ?_; rintro e w6 ⟨rfl, hb6⟩
  have ch6 := Below.chain ch5 hb6
  obtain ⟨hc6, hf6⟩ := bcell ch6
  have hz6 : w.heap.size + 1 + 1 < w6.heap.size := by have := ch6.size; simp only [size3] at this; omega
  clear hc5 hf5 hb6
  go_wp2_with fail
  exact ret_ve rfl rfl rfl rfl (((null3 _ _ _ _ _ _ _).below ch6).set _ _ _ _) ⟨rfl, below_set4 (Below.chain (below_a3 _ _ _ _) ch6) (by omega) _ _ _ _⟩
set_option maxRecDepth 100000 in
theorem rt1_nn_ok (op : ByteArray) (e1 : (op.toList == [61]) = true) (e2 : (op.toList == [60, 62]) = false) (e3 : (op.toList == [60]) = false) (e4 : (op.toList == [60, 61]) = false) (e5 : (op.toList == [62]) = false) (e6 : (op.toList == [62, 61]) = false) (k n k' n' : Int) (f f' : Nat) (s s' : ByteArray) (C1 : ∀ w, Calls Tryz.prog 17 #[.agg #[.int .i64 k, .int .i64 n, .float .f64 f, .string s]] w fun e w' => e = .returned (.bool true) ∧ Below w.heap.size w w') (C2 : ∀ w, Calls Tryz.prog 17 #[.agg #[.int .i64 k', .int .i64 n', .float .f64 f', .string s']] w fun e w' => e = .returned (.bool true) ∧ Below w.heap.size w w') (h0 : (k == 0) = false) (h1 : (k' == 0) = false) (h2 : (k != k') = true) (C3 : ∀ w, Calls Tryz.prog 53 #[.agg #[.int .i64 k, .int .i64 n, .float .f64 f, .string s]] w fun e w' => e = .returned (.bool true) ∧ Below w.heap.size w w') (C4 : ∀ w, Calls Tryz.prog 53 #[.agg #[.int .i64 k', .int .i64 n', .float .f64 f', .string s']] w fun e w' => e = .returned (.bool true) ∧ Below w.heap.size w w') (a b : Bool) (C5 : ∀ w, Calls Tryz.prog 54 #[.agg #[.int .i64 k, .int .i64 n, .float .f64 f, .string s], .agg #[.int .i64 k', .int .i64 n', .float .f64 f', .string s']] w fun e w' => e = .returned (.tuple #[.bool a, .bool b, .bool true]) ∧ Below w.heap.size w w') (w : World) :
    Calls Tryz.prog 24 #[.string op, .agg #[.int .i64 k, .int .i64 n, .float .f64 f, .string s], .agg #[.int .i64 k', .int .i64 n', .float .f64 f', .string s']] w fun e w' => e = .returned (.tuple #[.agg #[.int .i64 1, .int .i64 (b01 b), .float .f64 0, .string ⟨#[]⟩], .int .i64 0]) ∧ Below w.heap.size w w' := by
  have hsf := run_store_float
  go_enter Tryz.func24, Tryz.ntmps24
  go_wp2_with fail
  refine (C1 _).mono ?_; rintro e w1 ⟨rfl, hb1⟩
  have ch1 := hb1
  obtain ⟨hc1, hf1⟩ := bcell ch1
  have hz1 : w.heap.size + 1 + 1 < w1.heap.size := by have := ch1.size; simp only [size3] at this; omega
  go_wp2_with fail
  refine (C2 _).mono ?_; rintro e w2 ⟨rfl, hb2⟩
  have ch2 := Below.chain ch1 hb2
  obtain ⟨hc2, hf2⟩ := bcell ch2
  have hz2 : w.heap.size + 1 + 1 < w2.heap.size := by have := ch2.size; simp only [size3] at this; omega
  clear hc1 hf1 hb2
  go_wp2_with fail
  refine (C3 _).mono ?_; rintro e w3 ⟨rfl, hb3⟩
  have ch3 := Below.chain ch2 hb3
  obtain ⟨hc3, hf3⟩ := bcell ch3
  have hz3 : w.heap.size + 1 + 1 < w3.heap.size := by have := ch3.size; simp only [size3] at this; omega
  clear hc2 hf2 hb3
  go_wp2_with fail
  refine (C4 _).mono ?_; rintro e w4 ⟨rfl, hb4⟩
  have ch4 := Below.chain ch3 hb4
  obtain ⟨hc4, hf4⟩ := bcell ch4
  have hz4 : w.heap.size + 1 + 1 < w4.heap.size := by have := ch4.size; simp only [size3] at this; omega
  clear hc3 hf3 hb4
  go_wp2_with fail
  refine (C5 _).mono ?_; rintro e w5 ⟨rfl, hb5⟩
  have ch5 := Below.chain ch4 hb5
  obtain ⟨hc5, hf5⟩ := bcell ch5
  have hz5 : w.heap.size + 1 + 1 < w5.heap.size := by have := ch5.size; simp only [size3] at this; omega
  clear hc4 hf4 hb5
  go_wp2_with fail
  refine (rtruth_any _ _).mono ?_; rintro e w6 ⟨rfl, hb6⟩
  have ch6 := Below.chain ch5 hb6
  obtain ⟨hc6, hf6⟩ := bcell ch6
  have hz6 : w.heap.size + 1 + 1 < w6.heap.size := by have := ch6.size; simp only [size3] at this; omega
  clear hc5 hf5 hb6
  go_wp2_with fail
  exact ret_ve rfl rfl rfl rfl (((null3 _ _ _ _ _ _ _).below ch6).set _ _ _ _) ⟨rfl, below_set4 (Below.chain (below_a3 _ _ _ _) ch6) (by omega) _ _ _ _⟩
end Go.Proofs.YtnjlcdemfdokoaaGreatDoor
