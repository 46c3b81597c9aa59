import Derived.Test.YtnjlcdemfdokoaaGreatDoorWa
namespace Go.Proofs.YtnjlcdemfdokoaaGreatDoor
open Go
namespace Flt
def kbits (a : Nat) : Nat := if isNan a = true then 18446744073709551615 else if 9223372036854775808 ≤ a then 18446744073709551615 - a else a + 9223372036854775808
def cmp3 (x y : Int) : Int := if x < y then -1 else if y < x then 1 else 0
theorem kbits_nan {a : Nat} (hn : isNan a = true) : kbits a = 18446744073709551615 := by unfold kbits; rw [if_pos hn]
theorem kbits_neg {a : Nat} (hn : isNan a = false) (hs : 9223372036854775808 ≤ a) : kbits a = 18446744073709551615 - a := by unfold kbits; rw [if_neg (by simp [hn]), if_pos hs]
theorem kbits_pos {a : Nat} (hn : isNan a = false) (hs : a < 9223372036854775808) : kbits a = a + 9223372036854775808 := by unfold kbits; rw [if_neg (by simp [hn]), if_neg (by omega)]
theorem u64max : IntKind.u64.max = 18446744073709551615 := by decide
end Flt
theorem ret_tup3 {a a' b b' c c' : Value} (h : a = a') (h2 : b = b') (h3 : c = c') : Ending.returned (.tuple #[a, b, c]) = .returned (.tuple #[a', b', c']) := by rw [h, h2, h3]
theorem ret_tup2 {a a' b b' : Value} (h : a = a') (h2 : b = b') : Ending.returned (.tuple #[a, b]) = .returned (.tuple #[a', b']) := by rw [h, h2]
theorem key_nan (a : Nat) (ha : a < 18446744073709551616) (hn : Flt.isNan a = true) (w : World) :
    Calls Tryz.prog 78 #[.float .f64 a] w fun e w' => e = .returned (.int .u64 18446744073709551615) ∧ w = w' := by
  have h2 := run_bits
  go_enter Tryz.func78, Tryz.ntmps78
  go_wp2_with (go_at_call 74; refine (isnan_any _ ha _).mono ?_; rintro e w' ⟨rfl, rfl⟩)
  go_ret
  exact ⟨rfl, rfl⟩
theorem key_neg (a : Nat) (ha : a < 18446744073709551616) (hn : Flt.isNan a = false) (hs : 9223372036854775808 ≤ a) (w : World) :
    Calls Tryz.prog 78 #[.float .f64 a] w fun e w' => e = .returned (.int .u64 (18446744073709551615 - a : Nat)) ∧ w = w' := by
  have h2 := run_bits
  have h3 : (bits .and .u64 (a : Int) 9223372036854775808 != 0) = true := by rw [Flt.b_and_sign a ha, if_pos hs]; rfl
  go_enter Tryz.func78, Tryz.ntmps78
  go_wp2_with (go_at_call 74; refine (isnan_any _ ha _).mono ?_; rintro e w' ⟨rfl, rfl⟩)
  go_ret
  exact ⟨ret_int (by rw [Flt.u64max, Flt.b_not a ha]; omega), rfl⟩
theorem key_pos (a : Nat) (ha : a < 18446744073709551616) (hn : Flt.isNan a = false) (hs : a < 9223372036854775808) (w : World) :
    Calls Tryz.prog 78 #[.float .f64 a] w fun e w' => e = .returned (.int .u64 (a + 9223372036854775808 : Nat)) ∧ w = w' := by
  have h2 := run_bits
  have h3 : (bits .and .u64 (a : Int) 9223372036854775808 != 0) = false := by rw [Flt.b_and_sign a ha, if_neg (by omega)]; rfl
  go_enter Tryz.func78, Tryz.ntmps78
  go_wp2_with (go_at_call 74; refine (isnan_any _ ha _).mono ?_; rintro e w' ⟨rfl, rfl⟩)
  go_ret
  exact ⟨ret_int (Flt.b_or_sign a hs), rfl⟩
theorem key_any (a : Nat) (ha : a < 18446744073709551616) (w : World) :
    Calls Tryz.prog 78 #[.float .f64 a] w fun e w' => e = .returned (.int .u64 (Flt.kbits a : Nat)) ∧ w = w' := by
  cases hn : Flt.isNan a
  · by_cases hs : 9223372036854775808 ≤ a
    · rw [Flt.kbits_neg hn hs]; exact key_neg a ha hn hs w
    · rw [Flt.kbits_pos hn (by omega)]; exact key_pos a ha hn (by omega) w
  · rw [Flt.kbits_nan hn]; exact key_nan a ha hn w
theorem cmpu_any (x y : Int) (w : World) :
    Calls Tryz.prog 77 #[.int .u64 x, .int .u64 y] w fun e w' => e = .returned (.int .i64 (Flt.cmp3 x y)) ∧ w = w' := by
  go_enter Tryz.func77, Tryz.ntmps77
  go_wp2
  all_goals go_ret
  all_goals exact ⟨ret_int (by unfold Flt.cmp3; (repeat' split) <;> omega), rfl⟩
theorem cmpi_any (x y : Int) (w : World) :
    Calls Tryz.prog 45 #[.int .i64 x, .int .i64 y] w fun e w' => e = .returned (.int .i64 (Flt.cmp3 x y)) ∧ w = w' := by
  go_enter Tryz.func45, Tryz.ntmps45
  go_wp2
  all_goals go_ret
  all_goals exact ⟨ret_int (by unfold Flt.cmp3; (repeat' split) <;> omega), rfl⟩
theorem order_any (a b : Nat) (ha : a < 18446744073709551616) (hb : b < 18446744073709551616) (w : World) :
    Calls Tryz.prog 46 #[.float .f64 a, .float .f64 b] w fun e w' => e = .returned (.int .i64 (Flt.cmp3 (Flt.kbits a : Nat) (Flt.kbits b : Nat))) ∧ w = w' := by
  go_enter Tryz.func46, Tryz.ntmps46
  go_wp2_with fail
  refine (key_any a ha _).mono ?_; rintro e w' ⟨rfl, rfl⟩
  go_wp2_with fail
  refine (key_any b hb _).mono ?_; rintro e w' ⟨rfl, rfl⟩
  go_wp2_with fail
  refine (cmpu_any _ _ _).mono ?_; rintro e w' ⟨rfl, rfl⟩
  go_wp2_with fail
  go_ret
  exact ⟨rfl, rfl⟩
namespace Flt
def field (a : Nat) : Nat := a / 4503599627370496 % 2048
def frac (a : Nat) : Nat := a % 4503599627370496
theorem isNan_iff (a : Nat) : isNan a = true ↔ field a = 2047 ∧ frac a ≠ 0 := by
  unfold isNan field frac rung
  rw [decide_eq_true_eq]
  omega
end Flt
theorem parts_any (a : Nat) (ha : a < 18446744073709551616) (w : World) :
    Calls Tryz.prog 106 #[.float .f64 a] w fun e w' => e = .returned (.tuple #[.bool (Flt.neg a), .int .i64 (Flt.field a : Nat), .int .i64 (Flt.frac a : Nat)]) ∧ w = w' := by
  have h2 := run_bits
  go_enter Tryz.func106, Tryz.ntmps106
  go_wp2
  go_ret3
  have e0 : (((a : Int) / 9223372036854775808 == 1) : Bool) = Flt.neg a := by unfold Flt.neg; rw [Bool.eq_iff_iff]; simp only [beq_iff_eq, decide_eq_true_eq]; omega
  have e1 : RowKit.wrap64 (bits BinOp.and IntKind.u64 ((a : Int) / 4503599627370496) 2047) = ((Flt.field a : Nat) : Int) := by
    unfold Flt.field
    have h := Flt.b_and_2047 (a / 4503599627370496) (by omega)
    rw [show (((a / 4503599627370496 : Nat) : Int)) = (a : Int) / 4503599627370496 from by omega] at h
    rw [h]; unfold RowKit.wrap64; omega
  have e2 : RowKit.wrap64 (bits BinOp.and IntKind.u64 (a : Int) 4503599627370495) = ((Flt.frac a : Nat) : Int) := by
    unfold Flt.frac
    rw [Flt.b_and_frac a ha]; unfold RowKit.wrap64; omega
  exact ⟨ret_tup3 (by rw [← e0]; rfl) (by rw [← e1]; rfl) (by rw [← e2]; rfl), rfl⟩

theorem rnan_any (a : Nat) (ha : a < 18446744073709551616) (w : World) :
    Calls Tryz.prog 73 #[.float .f64 a] w fun e w' => e = .returned (.bool (Flt.isNan a)) ∧ w = w' := by
  have HI := Lib.hid (Flt.isNan_iff a)
  by_cases h1 : Flt.field a = 2047
  · have h2 : (((Flt.field a : Nat) : Int) == 2047) = true := by simp; omega
    have H1 := Lib.hid h1
    clear h1
    go_enter Tryz.func73, Tryz.ntmps73
    go_wp2_with (go_at_call 106; refine (parts_any _ ha _).mono ?_; rintro e w' ⟨rfl, rfl⟩)
    go_ret
    refine ⟨ret_bool ?_, rfl⟩
    have h1' := H1.out
    rw [Bool.eq_iff_iff, HI.out]
    simp
    omega
  · have h2 : (((Flt.field a : Nat) : Int) == 2047) = false := by simp; omega
    have H1 := Lib.hid h1
    clear h1
    go_enter Tryz.func73, Tryz.ntmps73
    go_wp2_with (go_at_call 106; refine (parts_any _ ha _).mono ?_; rintro e w' ⟨rfl, rfl⟩)
    go_ret
    refine ⟨ret_bool ?_, rfl⟩
    have h1' := H1.out
    rw [Bool.eq_iff_iff, HI.out]
    simp
    omega
theorem rbits_any (a : Nat) (ha : a < 18446744073709551616) (w : World) :
    Calls Tryz.prog 41 #[.float .f64 a] w fun e w' => e = .returned (.int .u64 (Flt.canon a : Nat)) ∧ w = w' := by
  have h1 := run_bits
  cases hn : Flt.isNan a
  · have hc : Flt.canon a = a := by unfold Flt.canon; rw [hn]; rfl
    rw [hc]
    clear hc
    go_enter Tryz.func41, Tryz.ntmps41
    go_wp2_with (go_at_call 73; refine (rnan_any _ ha _).mono ?_; rintro e w' ⟨rfl, rfl⟩)
    go_ret
    exact ⟨rfl, rfl⟩
  · have hc : Flt.canon a = 9221120237041090561 := by unfold Flt.canon; rw [hn]; rfl
    rw [hc]
    clear hc
    go_enter Tryz.func41, Tryz.ntmps41
    go_wp2_with (go_at_call 73; refine (rnan_any _ ha _).mono ?_; rintro e w' ⟨rfl, rfl⟩)
    go_ret
    exact ⟨rfl, rfl⟩
end Go.Proofs.YtnjlcdemfdokoaaGreatDoor
