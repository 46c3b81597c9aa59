import Derived.Test.YtnjlcdemfdokoaaGreatDoorVo
namespace Go.Proofs.YtnjlcdemfdokoaaGreatDoor
open Go Go.RowKit
set_option linter.unusedVariables false
theorem tx_bad (k : Int) (n : Int) (f : Nat) (s : ByteArray) (C1 : ∀ w, Calls Tryz.prog 16 #[.agg #[.int .i64 k, .int .i64 n, .float .f64 f, .string s]] w fun e w' => e = .returned (.bool false) ∧ Below w.heap.size w w') (w : World) (hT : Tabs w) :
    Calls Tryz.prog 27 #[.agg #[.int .i64 k, .int .i64 n, .float .f64 f, .string s]] w fun e w' => e = .returned (.tuple #[.string ⟨#[]⟩, .int .i64 1]) ∧ Below w.heap.size w w' := by
  go_enter Tryz.func27, Tryz.ntmps27
  go_wp2_with fail
  refine (C1 _).mono ?_; rintro e w1 ⟨rfl, hb1⟩
  obtain ⟨hc1, hf1⟩ := bcell hb1
  have ch1 := Below.chain (below_a1 _ _) hb1
  go_wp2_with fail
  go_ret2
  exact ⟨rfl, ch1⟩
theorem tx0 (n : Int) (f : Nat) (s : ByteArray) (C1 : ∀ w, Calls Tryz.prog 16 #[.agg #[.int .i64 0, .int .i64 n, .float .f64 f, .string s]] w fun e w' => e = .returned (.bool true) ∧ Below w.heap.size w w') (w : World) (hT : Tabs w) :
    Calls Tryz.prog 27 #[.agg #[.int .i64 0, .int .i64 n, .float .f64 f, .string s]] w fun e w' => e = .returned (.tuple #[.string ⟨#[110, 117, 108, 108]⟩, .int .i64 0]) ∧ Below w.heap.size w w' := by
  go_enter Tryz.func27, Tryz.ntmps27
  go_wp2_with fail
  refine (C1 _).mono ?_; rintro e w1 ⟨rfl, hb1⟩
  obtain ⟨hc1, hf1⟩ := bcell hb1
  have ch1 := Below.chain (below_a1 _ _) hb1
  go_wp2_with fail
  go_ret2
  exact ⟨rfl, ch1⟩
theorem tx1 (n : Int) (f : Nat) (s : ByteArray) (C1 : ∀ w, Calls Tryz.prog 16 #[.agg #[.int .i64 1, .int .i64 n, .float .f64 f, .string s]] w fun e w' => e = .returned (.bool true) ∧ Below w.heap.size w w') (b : Bool) (hb : (n == 1) = b) (w : World) (hT : Tabs w) :
    Calls Tryz.prog 27 #[.agg #[.int .i64 1, .int .i64 n, .float .f64 f, .string s]] w fun e w' => e = .returned (.tuple #[.string ⟨(Lib.formatBool b).toArray⟩, .int .i64 0]) ∧ Below w.heap.size w w' := by
  go_enter Tryz.func27, Tryz.ntmps27
  go_wp2_with fail
  refine (C1 _).mono ?_; rintro e w1 ⟨rfl, hb1⟩
  obtain ⟨hc1, hf1⟩ := bcell hb1
  have ch1 := Below.chain (below_a1 _ _) hb1
  go_wp2_with fail
  refine (Tryz.strconv_FormatBool b _).mono ?_; rintro e w' ⟨rfl, rfl⟩
  go_wp2_with fail
  go_ret2
  exact ⟨rfl, ch1⟩
theorem tx2 (n : Int) (f : Nat) (s : ByteArray) (C1 : ∀ w, Calls Tryz.prog 16 #[.agg #[.int .i64 2, .int .i64 n, .float .f64 f, .string s]] w fun e w' => e = .returned (.bool true) ∧ Below w.heap.size w w') (n1 : -9223372036854775808 ≤ n) (n2 : n ≤ 9223372036854775807) (w : World) (hT : Tabs w) :
    Calls Tryz.prog 27 #[.agg #[.int .i64 2, .int .i64 n, .float .f64 f, .string s]] w fun e w' => e = .returned (.tuple #[.string ⟨(Lib.itoa n).toArray⟩, .int .i64 0]) ∧ Below w.heap.size w w' := by
  go_enter Tryz.func27, Tryz.ntmps27
  go_wp2_with fail
  refine (C1 _).mono ?_; rintro e w1 ⟨rfl, hb1⟩
  obtain ⟨hc1, hf1⟩ := bcell hb1
  have ch1 := Below.chain (below_a1 _ _) hb1
  go_wp2_with fail
  refine (fint_any n n1 n2 _ (hT.below ch1)).mono ?_; rintro e w2 ⟨rfl, hb2⟩
  go_wp2_with fail
  go_ret2
  exact ⟨rfl, Below.chain ch1 hb2⟩
theorem tx3 (n : Int) (f : Nat) (s : ByteArray) (C1 : ∀ w, Calls Tryz.prog 16 #[.agg #[.int .i64 3, .int .i64 n, .float .f64 f, .string s]] w fun e w' => e = .returned (.bool true) ∧ Below w.heap.size w w') (hf : f < 18446744073709551616) (w : World) (hT : Tabs w) :
    Calls Tryz.prog 27 #[.agg #[.int .i64 3, .int .i64 n, .float .f64 f, .string s]] w fun e w' => e = .returned (.tuple #[.string ⟨(Flt.text f).toArray⟩, .int .i64 0]) ∧ Below w.heap.size w w' := by
  go_enter Tryz.func27, Tryz.ntmps27
  go_wp2_with fail
  refine (C1 _).mono ?_; rintro e w1 ⟨rfl, hb1⟩
  obtain ⟨hc1, hf1⟩ := bcell hb1
  have ch1 := Below.chain (below_a1 _ _) hb1
  go_wp2_with fail
  refine (text_any f hf _ (hT.below ch1)).mono ?_; rintro e w2 ⟨rfl, hb2⟩
  go_wp2_with fail
  go_ret2
  exact ⟨rfl, Below.chain ch1 hb2⟩
theorem tx4 (n : Int) (f : Nat) (s : ByteArray) (C1 : ∀ w, Calls Tryz.prog 16 #[.agg #[.int .i64 4, .int .i64 n, .float .f64 f, .string s]] w fun e w' => e = .returned (.bool true) ∧ Below w.heap.size w w') (t : List UInt8) (CQ : ∀ w, Calls Tryz.prog 63 #[.string s] w fun e w' => e = .returned (.string ⟨t.toArray⟩) ∧ Below w.heap.size w w') (w : World) (hT : Tabs w) :
    Calls Tryz.prog 27 #[.agg #[.int .i64 4, .int .i64 n, .float .f64 f, .string s]] w fun e w' => e = .returned (.tuple #[.string ⟨t.toArray⟩, .int .i64 0]) ∧ Below w.heap.size w w' := by
  go_enter Tryz.func27, Tryz.ntmps27
  go_wp2_with fail
  refine (C1 _).mono ?_; rintro e w1 ⟨rfl, hb1⟩
  obtain ⟨hc1, hf1⟩ := bcell hb1
  have ch1 := Below.chain (below_a1 _ _) hb1
  go_wp2_with fail
  refine (CQ _).mono ?_; rintro e w2 ⟨rfl, hb2⟩
  go_wp2_with fail
  go_ret2
  exact ⟨rfl, Below.chain ch1 hb2⟩
theorem lwhole_any (n : Int) (w : World) : Calls Tryz.prog 31 #[.int .i64 n] w fun e w' => e = .returned (.agg #[.int .i64 2, .int .i64 n, .float .f64 0, .string ⟨#[]⟩]) ∧ Below w.heap.size w w' := by
  have hsf := run_store_float
  go_enter Tryz.func31, Tryz.ntmps31
  go_wp2_with fail
  refine ret_v rfl rfl rfl (lies_new _ _ _ _ _ _) ?_
  exact ⟨rfl, below_a1 _ _⟩
theorem lfloat_any (f : Nat) (w : World) : Calls Tryz.prog 32 #[.float .f64 f] w fun e w' => e = .returned (.agg #[.int .i64 3, .int .i64 0, .float .f64 f, .string ⟨#[]⟩]) ∧ Below w.heap.size w w' := by
  have hsf := run_store_float
  go_enter Tryz.func32, Tryz.ntmps32
  go_wp2_with fail
  refine ret_v rfl rfl rfl (lies_new _ _ _ _ _ _) ?_
  exact ⟨rfl, below_a1 _ _⟩
end Go.Proofs.YtnjlcdemfdokoaaGreatDoor
