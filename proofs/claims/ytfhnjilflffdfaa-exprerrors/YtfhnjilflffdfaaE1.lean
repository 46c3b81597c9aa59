import Derived.Test.YtfhnjilflffdfaaRows
import Derived.Test.YtfhnjilflffdfaaBits
import Derived.WalkKit
import Derived.WalkSpells
import Derived.WalkLawsBesides
import Derived.Laws.Externs
import Derived.Laws.FloatArith
import Derived.Lib.Hide
import Derived.Laws.BytesArg
import Derived.ChangeAlike
import Derived.RegionTactic
namespace Go.Proofs.Ytfhnjilflffdfaa
open Go

theorem run_frombits (a : Int) (w : World) : (callFunc 62 #[.int .u64 a]).run Try.prog w = .ok (.value (.float .f64 a.toNat)) w := by
  rw [run_callFunc_extern (e := Extern.MathFloatBits.float64frombits) Try.func62 (by kernel_rfl) (by kernel_rfl) (by kernel_rfl) (by kernel_rfl)]
  rfl
theorem run_bits (a : Nat) (w : World) : (callFunc 34 #[.float .f64 a]).run Try.prog w = .ok (.value (.int .u64 a)) w := by
  rw [run_callFunc_extern (e := Extern.MathFloatBits.float64bits) Try.func34 (by kernel_rfl) (by kernel_rfl) (by kernel_rfl) (by kernel_rfl)]
  rfl

namespace Flt
theorem ord_self {a : Nat} (ha : a < 18446744073709551616) : (FloatKind.f64.format.order a a != some Ordering.eq) = isNan a := by
  show (Ieee.double.order a a != some Ordering.eq) = isNan a
  cases h : isNan a
  · rw [order_eq ha ha h h]; simp
  · rw [order_nan_l ha h]; rfl
theorem ord_eq {a b : Nat} (ha : a < 18446744073709551616) (hb : b < 18446744073709551616) : (FloatKind.f64.format.order a b == some Ordering.eq) = (!isNan a && !isNan b && decide (key a = key b)) := by
  show (Ieee.double.order a b == some Ordering.eq) = _
  cases h : isNan a
  · cases h' : isNan b
    · rw [order_eq ha hb h h']
      by_cases h1 : key a < key b
      · rw [if_pos h1]; simp; omega
      · rw [if_neg h1]
        by_cases h2 : key a = key b <;> simp [h2]
    · rw [order_nan_r hb h']; rfl
  · rw [order_nan_l ha h]; rfl
theorem ord_lt {a b : Nat} (ha : a < 18446744073709551616) (hb : b < 18446744073709551616) : (FloatKind.f64.format.order a b == some Ordering.lt) = (!isNan a && !isNan b && decide (key a < key b)) := by
  show (Ieee.double.order a b == some Ordering.lt) = _
  cases h : isNan a
  · cases h' : isNan b
    · rw [order_eq ha hb h h']
      by_cases h1 : key a < key b
      · rw [if_pos h1]; simp [h1]
      · rw [if_neg h1]
        by_cases h2 : key a = key b <;> simp [h2, h1]
    · rw [order_nan_r hb h']; rfl
  · rw [order_nan_l ha h]; rfl
theorem ord_gt {a b : Nat} (ha : a < 18446744073709551616) (hb : b < 18446744073709551616) : (FloatKind.f64.format.order a b == some Ordering.gt) = (!isNan a && !isNan b && decide (key b < key a)) := by
  show (Ieee.double.order a b == some Ordering.gt) = _
  cases h : isNan a
  · cases h' : isNan b
    · rw [order_eq ha hb h h']
      by_cases h1 : key a < key b
      · rw [if_pos h1]; simp; omega
      · rw [if_neg h1]
        by_cases h2 : key a = key b
        · simp [h2]
        · simp [h2]; omega
    · rw [order_nan_r hb h']; rfl
  · rw [order_nan_l ha h]; rfl
def canon (a : Nat) : Nat := if isNan a = true then 9221120237041090561 else a
def copysign (a b : Nat) : Nat := if 9223372036854775808 ≤ b then rung a + 9223372036854775808 else rung a
end Flt

theorem ret_bool {a b : Bool} (h : a = b) : Ending.returned (.bool a) = .returned (.bool b) := by rw [h]
theorem ret_float {a b : Nat} (h : a = b) : Ending.returned (.float .f64 a) = .returned (.float .f64 b) := by rw [h]
theorem ret_int {k : IntKind} {a b : Int} (h : a = b) : Ending.returned (.int k a) = .returned (.int k b) := by rw [h]

theorem isnan_any (a : Nat) (ha : a < 18446744073709551616) (w : World) :
    Calls Try.prog 61 #[.float .f64 a] w fun e w' => e = .returned (.bool (Flt.isNan a)) ∧ w = w' := by
  go_enter Try.func61, Try.ntmps61
  go_wp2
  go_ret
  exact ⟨ret_bool (Flt.ord_self ha), rfl⟩
theorem abs_any (a : Nat) (ha : a < 18446744073709551616) (w : World) :
    Calls Try.prog 90 #[.float .f64 a] w fun e w' => e = .returned (.float .f64 (Flt.rung a)) ∧ w = w' := by
  have h1 := run_frombits
  have h2 := run_bits
  go_enter Try.func90, Try.ntmps90
  go_wp2
  go_ret
  exact ⟨ret_float (by rw [Flt.b_andNot_sign a ha]; rfl), rfl⟩
theorem copysign_any (a b : Nat) (ha : a < 18446744073709551616) (hb : b < 18446744073709551616) (w : World) :
    Calls Try.prog 91 #[.float .f64 a, .float .f64 b] w fun e w' => e = .returned (.float .f64 (Flt.copysign a b)) ∧ w = w' := by
  have h1 := run_frombits
  have h2 := run_bits
  go_enter Try.func91, Try.ntmps91
  go_wp2
  go_ret
  refine ⟨ret_float ?_, rfl⟩
  have hr : Flt.rung a < 9223372036854775808 := Nat.mod_lt _ (by decide)
  unfold Flt.copysign
  rw [Flt.b_andNot_sign a ha, Flt.b_and_sign b hb]
  by_cases h : 9223372036854775808 ≤ b
  · rw [if_pos h, if_pos h, Flt.b_or_sign _ hr]; rfl
  · rw [if_neg h, if_neg h, Flt.b_or_zero _ (by omega)]; rfl
theorem canon_any (a : Nat) (ha : a < 18446744073709551616) (w : World) :
    Calls Try.prog 54 #[.float .f64 a] w fun e w' => e = .returned (.float .f64 (Flt.canon a)) ∧ w = w' := by
  have h1 := run_frombits
  cases hn : Flt.isNan a
  · have hc : Flt.canon a = a := by unfold Flt.canon; rw [hn]; rfl
    rw [hc]
    clear hc
    go_enter Try.func54, Try.ntmps54
    go_wp2_with (go_at_call 61; refine (isnan_any _ ha _).mono ?_; rintro e w' ⟨rfl, rfl⟩)
    go_ret
    exact ⟨rfl, rfl⟩
  · have hc : Flt.canon a = 9221120237041090561 := by unfold Flt.canon; rw [hn]; rfl
    rw [hc]
    clear hc
    go_enter Try.func54, Try.ntmps54
    go_wp2_with (go_at_call 61; refine (isnan_any _ ha _).mono ?_; rintro e w' ⟨rfl, rfl⟩)
    go_ret
    exact ⟨rfl, rfl⟩
end Go.Proofs.Ytfhnjilflffdfaa

namespace Go.Proofs.Ytfhnjilflffdfaa
open Go
namespace Flt
def kbits (a : Nat) : Nat := if isNan a = true then 18446744073709551615 else if 9223372036854775808 ≤ a then 18446744073709551615 - a else a + 9223372036854775808
def cmp3 (x y : Int) : Int := if x < y then -1 else if y < x then 1 else 0
theorem kbits_nan {a : Nat} (hn : isNan a = true) : kbits a = 18446744073709551615 := by unfold kbits; rw [if_pos hn]
theorem kbits_neg {a : Nat} (hn : isNan a = false) (hs : 9223372036854775808 ≤ a) : kbits a = 18446744073709551615 - a := by unfold kbits; rw [if_neg (by simp [hn]), if_pos hs]
theorem kbits_pos {a : Nat} (hn : isNan a = false) (hs : a < 9223372036854775808) : kbits a = a + 9223372036854775808 := by unfold kbits; rw [if_neg (by simp [hn]), if_neg (by omega)]
theorem u64max : IntKind.u64.max = 18446744073709551615 := by decide
end Flt
theorem ret_tup3 {a a' b b' c c' : Value} (h : a = a') (h2 : b = b') (h3 : c = c') : Ending.returned (.tuple #[a, b, c]) = .returned (.tuple #[a', b', c']) := by rw [h, h2, h3]
theorem ret_tup2 {a a' b b' : Value} (h : a = a') (h2 : b = b') : Ending.returned (.tuple #[a, b]) = .returned (.tuple #[a', b']) := by rw [h, h2]
theorem cmpi_any (x y : Int) (w : World) :
    Calls Try.prog 79 #[.int .i64 x, .int .i64 y] w fun e w' => e = .returned (.int .i64 (Flt.cmp3 x y)) ∧ w = w' := by
  go_enter Try.func79, Try.ntmps79
  go_wp2
  all_goals go_ret
  all_goals exact ⟨ret_int (by unfold Flt.cmp3; (repeat' split) <;> omega), rfl⟩
namespace Flt
def field (a : Nat) : Nat := a / 4503599627370496 % 2048
def frac (a : Nat) : Nat := a % 4503599627370496
theorem isNan_iff (a : Nat) : isNan a = true ↔ field a = 2047 ∧ frac a ≠ 0 := by
  unfold isNan field frac rung
  rw [decide_eq_true_eq]
  omega
end Flt
theorem parts_any (a : Nat) (ha : a < 18446744073709551616) (w : World) :
    Calls Try.prog 53 #[.float .f64 a] w fun e w' => e = .returned (.tuple #[.bool (Flt.neg a), .int .i64 (Flt.field a : Nat), .int .i64 (Flt.frac a : Nat)]) ∧ w = w' := by
  have h2 := run_bits
  go_enter Try.func53, Try.ntmps53
  go_wp2
  go_ret3
  have e0 : (((a : Int) / 9223372036854775808 == 1) : Bool) = Flt.neg a := by unfold Flt.neg; rw [Bool.eq_iff_iff]; simp only [beq_iff_eq, decide_eq_true_eq]; omega
  have e1 : RowKit.wrap64 (bits BinOp.and IntKind.u64 ((a : Int) / 4503599627370496) 2047) = ((Flt.field a : Nat) : Int) := by
    unfold Flt.field
    have h := Flt.b_and_2047 (a / 4503599627370496) (by omega)
    rw [show (((a / 4503599627370496 : Nat) : Int)) = (a : Int) / 4503599627370496 from by omega] at h
    rw [h]; unfold RowKit.wrap64; omega
  have e2 : RowKit.wrap64 (bits BinOp.and IntKind.u64 (a : Int) 4503599627370495) = ((Flt.frac a : Nat) : Int) := by
    unfold Flt.frac
    rw [Flt.b_and_frac a ha]; unfold RowKit.wrap64; omega
  exact ⟨ret_tup3 (by rw [← e0]; rfl) (by rw [← e1]; rfl) (by rw [← e2]; rfl), rfl⟩

theorem rnan_any (a : Nat) (ha : a < 18446744073709551616) (w : World) :
    Calls Try.prog 38 #[.float .f64 a] w fun e w' => e = .returned (.bool (Flt.isNan a)) ∧ w = w' := by
  have HI := Lib.hid (Flt.isNan_iff a)
  by_cases h1 : Flt.field a = 2047
  · have h2 : (((Flt.field a : Nat) : Int) == 2047) = true := by simp; omega
    have H1 := Lib.hid h1
    clear h1
    go_enter Try.func38, Try.ntmps38
    go_wp2_with (go_at_call 53; refine (parts_any _ ha _).mono ?_; rintro e w' ⟨rfl, rfl⟩)
    go_ret
    refine ⟨ret_bool ?_, rfl⟩
    have h1' := H1.out
    rw [Bool.eq_iff_iff, HI.out]
    simp
    omega
  · have h2 : (((Flt.field a : Nat) : Int) == 2047) = false := by simp; omega
    have H1 := Lib.hid h1
    clear h1
    go_enter Try.func38, Try.ntmps38
    go_wp2_with (go_at_call 53; refine (parts_any _ ha _).mono ?_; rintro e w' ⟨rfl, rfl⟩)
    go_ret
    refine ⟨ret_bool ?_, rfl⟩
    have h1' := H1.out
    rw [Bool.eq_iff_iff, HI.out]
    simp
    omega
theorem rbits_any (a : Nat) (ha : a < 18446744073709551616) (w : World) :
    Calls Try.prog 26 #[.float .f64 a] w fun e w' => e = .returned (.int .u64 (Flt.canon a : Nat)) ∧ w = w' := by
  have h1 := run_bits
  cases hn : Flt.isNan a
  · have hc : Flt.canon a = a := by unfold Flt.canon; rw [hn]; rfl
    rw [hc]
    clear hc
    go_enter Try.func26, Try.ntmps26
    go_wp2_with (go_at_call 38; refine (rnan_any _ ha _).mono ?_; rintro e w' ⟨rfl, rfl⟩)
    go_ret
    exact ⟨rfl, rfl⟩
  · have hc : Flt.canon a = 9221120237041090561 := by unfold Flt.canon; rw [hn]; rfl
    rw [hc]
    clear hc
    go_enter Try.func26, Try.ntmps26
    go_wp2_with (go_at_call 38; refine (rnan_any _ ha _).mono ?_; rintro e w' ⟨rfl, rfl⟩)
    go_ret
    exact ⟨rfl, rfl⟩
end Go.Proofs.Ytfhnjilflffdfaa

namespace Go.Proofs.Ytfhnjilflffdfaa
open Go
namespace Flt
theorem canon_num {a : Nat} (hn : isNan a = false) : canon a = a := by unfold canon; rw [hn]; rfl
theorem canon_nan {a : Nat} (hn : isNan a = true) : canon a = 9221120237041090561 := by unfold canon; rw [hn]; rfl
theorem isNan_canon {a : Nat} : isNan (canon a) = isNan a := by
  cases hn : isNan a
  · rw [canon_num hn, hn]
  · rw [canon_nan hn]; decide
theorem canon_lt {a : Nat} (ha : a < 18446744073709551616) : canon a < 18446744073709551616 := by
  unfold canon; split
  · decide
  · exact ha
theorem kbits_lt (a : Nat) (ha : a < 18446744073709551616) : kbits a < 18446744073709551616 := by
  unfold kbits; (repeat' split) <;> omega
/-- the document's order, by bits -/
def rord (a b : Nat) : Int := if canon a = canon b then 0 else if isNan a = true then 1 else if isNan b = true then -1 else
  if 9223372036854775808 ≤ a then (if 9223372036854775808 ≤ b then (if a < b then 1 else -1) else -1) else (if 9223372036854775808 ≤ b then 1 else if a < b then -1 else 1)
theorem rord_eq (a b : Nat) (ha : a < 18446744073709551616) (hb : b < 18446744073709551616) : rord a b = cmp3 (kbits a : Nat) (kbits b : Nat) := by
  unfold rord
  cases hn : isNan a <;> cases hm : isNan b
  · rw [canon_num hn, canon_num hm]
    unfold cmp3 kbits
    simp only [hn, hm, Bool.false_eq_true, if_false]
    (repeat' split) <;> omega
  · rw [canon_num hn, canon_nan hm, kbits_nan hm]
    have hne : a ≠ 9221120237041090561 := by intro e; subst e; revert hn; decide
    have hk : kbits a < 18446744073709551615 := by
      unfold kbits
      simp only [hn, Bool.false_eq_true, if_false]
      unfold isNan rung at hn
      simp only [decide_eq_false_iff_not] at hn
      split <;> omega
    rw [if_neg hne, if_neg (by decide), if_pos rfl]
    unfold cmp3
    rw [if_pos (by omega)]
  · rw [canon_nan hn, canon_num hm, kbits_nan hn]
    have hne : ¬ 9221120237041090561 = b := by intro e; subst e; revert hm; decide
    have hk : kbits b < 18446744073709551615 := by
      unfold kbits
      simp only [hm, Bool.false_eq_true, if_false]
      unfold isNan rung at hm
      simp only [decide_eq_false_iff_not] at hm
      split <;> omega
    rw [if_neg hne, if_pos rfl]
    unfold cmp3
    rw [if_neg (by omega), if_pos (by omega)]
  · rw [canon_nan hn, canon_nan hm, kbits_nan hn, kbits_nan hm]
    rfl
end Flt
end Go.Proofs.Ytfhnjilflffdfaa

namespace Go.Proofs.Ytfhnjilflffdfaa
open Go
namespace Flt
theorem rung_small {a : Nat} (ha : a < 9223372036854775808) : rung a = a := Nat.mod_eq_of_lt ha
theorem key_small {a : Nat} (ha : a < 9223372036854775808) : key a = a := by unfold key; rw [if_neg (by omega), rung_small ha]
theorem num_small {a : Nat} (ha : a ≤ 9218868437227405312) : isNan a = false := by unfold isNan; rw [rung_small (by omega)]; simp; omega
theorem nan_rung (a : Nat) : isNan (rung a) = isNan a := by unfold isNan rung; rw [Nat.mod_mod]
def negBits (a : Nat) : Nat := if 9223372036854775808 ≤ a then a - 9223372036854775808 else a + 9223372036854775808
theorem negFloat_eq (a : Nat) (ha : a < 18446744073709551616) : Op.negFloat .f64 a = negBits a := by
  unfold Op.negFloat negBits
  show a ^^^ 2 ^ (11 + 52) = _
  rw [show (2 ^ (11 + 52) : Nat) = 9223372036854775808 from by decide]
  have h1 : (a ^^^ 9223372036854775808) % 2 ^ 63 = a % 2 ^ 63 := by rw [Nat.xor_mod_two_pow]; simp
  have h2 : (a ^^^ 9223372036854775808) / 2 ^ 63 = (a / 2 ^ 63) ^^^ 1 := by rw [Nat.xor_div_two_pow]
  rw [show (2 ^ 63 : Nat) = 9223372036854775808 from by decide] at h1 h2
  have h3 : a / 9223372036854775808 = 0 ∨ a / 9223372036854775808 = 1 := by omega
  rcases h3 with h3 | h3
  · rw [h3, show (0 ^^^ 1 : Nat) = 1 from rfl] at h2
    rw [if_neg (by omega)]; omega
  · rw [h3, show (1 ^^^ 1 : Nat) = 0 from rfl] at h2
    rw [if_pos (by omega)]; omega
theorem gt_max {a : Nat} (ha : a < 18446744073709551616) : (FloatKind.f64.format.order a 9218868437227405311 == some Ordering.gt) = decide (a = 9218868437227405312) := by
  rw [ord_gt ha (by decide), key_small (a := 9218868437227405311) (by decide), Bool.eq_iff_iff]
  simp only [show isNan 9218868437227405311 = false from by decide, Bool.not_false, Bool.and_true, Bool.and_eq_true, Bool.not_eq_true', decide_eq_true_eq]
  unfold isNan key rung
  rw [decide_eq_false_iff_not]
  split <;> omega
end Flt

theorem Flt.mul52 {a : Nat} (h1 : 0 < a) (h2 : a < 4503599627370496) : Ieee.double.mul a 4841369599423283200 = some (Flt.rungOf a 52) := by
  have hr : Flt.rung a = a := Flt.rung_small (by omega)
  have hl := Flt.log2_le52 (m := a) h1 (by omega)
  have ra := Flt.read_fin (a := a) (by omega) (by rw [hr]; omega)
  have rb : Ieee.double.read 4841369599423283200 = .number false 4503599627370496 0 := by decide +kernel
  rw [hr] at ra
  have e1 : Flt.xp a = 0 := by unfold Flt.xp; omega
  have e2 : Flt.mant a = a := by unfold Flt.mant; rw [if_pos h2]
  have e3 : Flt.neg a = false := by unfold Flt.neg; simp; omega
  rw [e1, e2, e3] at ra
  have h := Flt.mul_exact ra rb (Flt.rungOf a 52) 0 0 (Flt.rungOf_lt h1 (by omega) (by omega)) (Flt.rungOf_pos 52 h1 (by omega)) (by decide) (by
      rw [Flt.V_rungOf 52 h1 (by omega), show (2 : Nat) ^ 52 = 4503599627370496 from by decide])
  simp only [Bool.xor_self, Bool.false_eq_true, if_false] at h
  exact h
end Go.Proofs.Ytfhnjilflffdfaa

namespace Go.Proofs.Ytfhnjilflffdfaa
open Go
theorem val_int {k : IntKind} {a b : Int} (h : a = b) : Value.int k a = Value.int k b := by rw [h]
theorem val_float {a b : Nat} (h : a = b) : Value.float .f64 a = Value.float .f64 b := by rw [h]
theorem eq0_false {a : Nat} (h1 : 0 < a) (h2 : a < 9218868437227405312) : (FloatKind.f64.format.order a 0 == some Ordering.eq) = false := by
  rw [Flt.ord_eq (by omega) (by decide), Flt.key_small (a := a) (by omega), Flt.key_small (a := 0) (by decide)]
  simp; omega
theorem lt0_false {a : Nat} (h2 : a < 9218868437227405312) : (FloatKind.f64.format.order a 0 == some Ordering.lt) = false := by
  rw [Flt.ord_lt (by omega) (by decide), Flt.key_small (a := a) (by omega), Flt.key_small (a := 0) (by decide)]
  simp
theorem Flt.bi_and_2047 (q : Nat) (h : q < 2048) : bits .and .i64 (q : Int) 2047 = (q : Int) := by
  have h := bits_mask .i64 63 (by decide) (fun n h0 h1 => by rw [IntKind.wrap_i64]; omega) 11 (by decide) (q : Int) (by omega) (by omega)
  refine h.trans ?_
  omega

theorem Flt.neg_small {a : Nat} (h : a < 9223372036854775808) : Flt.neg a = false := by unfold Flt.neg; simp; omega
theorem Flt.mul_one {z : Nat} (h1 : 0 < z) (h2 : z < 9218868437227405312) : Ieee.double.mul 4607182418800017408 z = some z := by
  have hr : Flt.rung z = z := Flt.rung_small (by omega)
  have rz := Flt.read_fin (a := z) (by omega) (by rw [hr]; omega)
  have ro : Ieee.double.read 4607182418800017408 = .number false 4503599627370496 (-52) := by decide +kernel
  rw [hr, Flt.neg_small (by omega)] at rz
  have h := Flt.mul_exact ro rz z (Flt.xp z) 52 h2 h1 (by omega) (by
    unfold Flt.V
    rw [show (2 : Nat) ^ 52 = 4503599627370496 from by decide, Nat.mul_assoc 4503599627370496, Nat.mul_comm 4503599627370496])
  simp only [Bool.xor_self, Bool.false_eq_true, if_false] at h
  exact h

/-- 2 to the power of -53, times: there is one answer -/
theorem Flt.mul_tiny {z : Nat} (h2 : z < 9218868437227405312) : ∃ v, Ieee.double.mul 4368491638549381120 z = some v ∧ v < 18446744073709551616 := by
  have hr : Flt.rung z = z := Flt.rung_small (by omega)
  have rz := Flt.read_fin (a := z) (by omega) (by rw [hr]; omega)
  have ro : Ieee.double.read 4368491638549381120 = .number false 4503599627370496 (-105) := by decide +kernel
  have hm : Ieee.double.mul 4368491638549381120 z = some (Ieee.double.write (.number (false ^^ Flt.neg z) (4503599627370496 * Flt.mant (Flt.rung z)) (-105 + (-1074 + (Flt.xp (Flt.rung z) : Nat))))) := by
    unfold Ieee.Format.mul
    rw [ro, rz]
    rfl
  exact ⟨_, hm, Ieee.double.mul_lt hm⟩
def Flt.tiny (z : Nat) : Nat := (Ieee.double.mul 4368491638549381120 z).getD 0

end Go.Proofs.Ytfhnjilflffdfaa

namespace Go.Proofs.Ytfhnjilflffdfaa.Flt
open Go Ieee
/-- 1074, under a name -/
@[irreducible] def K : Nat := 1074
theorem K_eq : K = 1074 := by unfold K; rfl
/-- the whole part of a finite float, without its sign -/
def whole (r : Nat) : Nat := V r / 2 ^ K
theorem cut_zero (s : Bool) (n d : Nat) : Toward.zero.cut s n d = n / 2 ^ d := by
  unfold Toward.cut
  simp only [Nat.one_shiftLeft, Bool.toNat_false, Nat.add_zero]
  by_cases h : d ≤ n.log2 + 2
  · rw [Nat.min_eq_left h]
  · rw [Nat.min_eq_right (by omega)]
    have l2 := @Nat.lt_log2_self n
    have h1 : n < 2 ^ (n.log2 + 2) := Nat.lt_of_lt_of_le l2 (Nat.pow_le_pow_right (by decide) (by omega))
    have h2 : n < 2 ^ d := Nat.lt_of_lt_of_le l2 (Nat.pow_le_pow_right (by decide) (by omega))
    rw [Nat.div_eq_of_lt h1, Nat.div_eq_of_lt h2]
theorem integral_fin {a : Nat} (ha : a < 18446744073709551616) (h : rung a < 9218868437227405312) :
    (Ieee.double.read a).integral .zero = .number (neg a) (whole (rung a)) 0 := by
  rw [read_fin ha h]
  simp only [Datum.integral]
  congr 1
  rw [cut_zero, Nat.shiftLeft_eq]
  unfold whole V
  by_cases hx : 1074 ≤ xp (rung a)
  · have e1 : (-1074 + (xp (rung a) : Int)).toNat = xp (rung a) - 1074 := by omega
    have e2 : (-(-1074 + (xp (rung a) : Int))).toNat = 0 := by omega
    rw [e1, e2, Nat.pow_zero, Nat.div_one]
    obtain ⟨k, hk⟩ : ∃ k, xp (rung a) = k + K := ⟨xp (rung a) - K, by rw [K_eq]; omega⟩
    rw [← K_eq, hk, Nat.add_sub_cancel, Nat.pow_add, ← Nat.mul_assoc, Nat.mul_div_cancel _ (Nat.pow_pos (by decide))]
  · have e1 : (-1074 + (xp (rung a) : Int)).toNat = 0 := by omega
    have e2 : (-(-1074 + (xp (rung a) : Int))).toNat = 1074 - xp (rung a) := by omega
    rw [e1, e2, Nat.pow_zero, Nat.mul_one]
    have e3 : (2 : Nat) ^ K = 2 ^ (K - xp (rung a)) * 2 ^ xp (rung a) := by rw [← Nat.pow_add]; congr 1; have := K_eq; omega
    rw [← K_eq, e3, Nat.mul_div_mul_right _ _ (Nat.pow_pos (by decide))]
/-- the rung of the whole part -/
def wrung (r : Nat) : Nat := if 1074 ≤ xp r then r else if whole r = 0 then 0 else rungOf (whole r) K
theorem whole_small {r : Nat} (hx : ¬ 1074 ≤ xp r) : whole r < 9007199254740992 := by
  unfold whole V
  have h1 : mant r * 2 ^ xp r / 2 ^ K ≤ mant r := by
    rw [show (2 : Nat) ^ K = 2 ^ (K - xp r) * 2 ^ xp r from by rw [← Nat.pow_add]; congr 1; have := K_eq; omega, Nat.mul_div_mul_right _ _ (Nat.pow_pos (by decide))]
    exact Nat.div_le_self _ _
  have := mant_lt r
  omega
theorem V_wrung (r : Nat) : V (wrung r) = whole r * 2 ^ K := by
  unfold wrung
  by_cases hx : 1074 ≤ xp r
  · rw [if_pos hx]
    unfold whole V
    obtain ⟨k, hk⟩ : ∃ k, xp r = k + K := ⟨xp r - K, by rw [K_eq]; omega⟩
    rw [hk, Nat.pow_add, ← Nat.mul_assoc, Nat.mul_div_cancel _ (Nat.pow_pos (by decide))]
  · rw [if_neg hx]
    by_cases h0 : whole r = 0
    · rw [if_pos h0, h0, V_zero, Nat.zero_mul]
    · rw [if_neg h0, V_rungOf K (by omega) (whole_small hx)]
theorem wrung_lt {r : Nat} (hr : r < 9218868437227405312) : wrung r < 9218868437227405312 := by
  unfold wrung
  by_cases hx : 1074 ≤ xp r
  · rw [if_pos hx]; exact hr
  · rw [if_neg hx]
    by_cases h0 : whole r = 0
    · rw [if_pos h0]; decide
    · rw [if_neg h0]
      have := log2_le52 (m := whole r) (by omega) (whole_small hx)
      exact rungOf_lt (by omega) (whole_small hx) (by rw [K_eq]; omega)
/-- the whole part of a finite float, as a float -/
def trunc (a : Nat) : Nat := if neg a = true then 9223372036854775808 + wrung (rung a) else wrung (rung a)
theorem trunc_eq {a : Nat} (ha : a < 18446744073709551616) (h : rung a < 9218868437227405312) :
    FloatKind.f64.encode ((FloatKind.f64.decode a).integral .zero) = trunc a := by
  have h1 : FloatKind.f64.encode ((FloatKind.f64.decode a).integral .zero) = Ieee.double.write ((Ieee.double.read a).integral .zero) := rfl
  rw [h1, integral_fin ha h]
  show Ieee.double.nearest (neg a) (whole (rung a)) 0 = _
  unfold trunc
  by_cases h0 : wrung (rung a) = 0
  · have : whole (rung a) = 0 := by
      have := V_wrung (rung a)
      rw [h0, V_zero] at this
      have hp : 0 < 2 ^ K := Nat.pow_pos (by decide)
      rcases Nat.eq_zero_or_pos (whole (rung a)) with e | e
      · exact e
      · have := Nat.mul_pos e hp
        omega
    rw [this, h0]
    unfold Format.nearest
    rw [if_pos rfl, word_eq]
  · rw [nearest_exact (neg a) _ 0 (wrung (rung a)) K 0 (wrung_lt h) (by omega) (by rw [K_eq]; omega) (by rw [V_wrung, Nat.pow_zero, Nat.mul_one]), word_eq]
theorem trunc_lt {a : Nat} (h : rung a < 9218868437227405312) : trunc a < 18446744073709551616 := by
  have := wrung_lt h
  unfold trunc; split <;> omega
theorem rung_trunc {a : Nat} (h : rung a < 9218868437227405312) : rung (trunc a) = wrung (rung a) := by
  have := wrung_lt h
  unfold trunc rung at *
  split <;> omega
theorem neg_trunc {a : Nat} (h : rung a < 9218868437227405312) : neg (trunc a) = neg a := by
  have := wrung_lt h
  unfold trunc
  cases hn : neg a
  · rw [if_neg (by decide)]; unfold neg; simp; omega
  · rw [if_pos rfl]; unfold neg; simp
theorem whole_wrung (r : Nat) : whole (wrung r) = whole r := by
  unfold whole
  rw [V_wrung]
  unfold whole
  rw [Nat.mul_div_cancel _ (Nat.pow_pos (by decide))]
/-- the whole part with its sign -/
def wholeInt (a : Nat) : Int := if neg a = true then -((whole (rung a) : Nat) : Int) else (whole (rung a) : Nat)
theorem toInt_fin {a : Nat} (ha : a < 18446744073709551616) (h : rung a < 9218868437227405312) : (FloatKind.f64.decode a).toInt .zero = some (wholeInt a) := by
  show (Ieee.double.read a).toInt .zero = _
  unfold Datum.toInt
  rw [integral_fin ha h]
  simp only [signed, Nat.shiftLeft_zero]
  unfold wholeInt
  cases neg a <;> simp
theorem toInt_i64 {a : Nat} (ha : a < 18446744073709551616) (h : rung a < 9218868437227405312) (h1 : -9223372036854775808 ≤ wholeInt a) (h2 : wholeInt a ≤ 9223372036854775807) :
    floatToIntVal .f64 a .i64 = some (wholeInt a) := by
  unfold floatToIntVal
  rw [toInt_fin ha h]
  simp only []
  rw [if_pos]
  have u1 : IntKind.i64.min = -9223372036854775808 := by decide
  have u2 : IntKind.i64.max = 9223372036854775807 := by decide
  rw [u1, u2]
  exact ⟨h1, h2⟩
/-- 2 to the power of 63 has this rung -/
theorem whole_lt {r : Nat} (h : r < 4890909195324358656) : whole r < 9223372036854775808 := by
  have h1 : V r < V 4890909195324358656 := V_lt h
  have h2 : V 4890909195324358656 = 9223372036854775808 * 2 ^ K := by
    have e1 : mant 4890909195324358656 = 4503599627370496 := by decide
    have e2 : xp 4890909195324358656 = 1085 := by decide
    unfold V
    rw [e1, e2, show (1085 : Nat) = 11 + K from by rw [K_eq], Nat.pow_add, ← Nat.mul_assoc]
  unfold whole
  rw [h2] at h1
  exact Nat.div_lt_of_lt_mul (by rw [Nat.mul_comm]; exact h1)
theorem whole_63 : whole 4890909195324358656 = 9223372036854775808 := by
  have h2 : V 4890909195324358656 = 9223372036854775808 * 2 ^ K := by
    have e1 : mant 4890909195324358656 = 4503599627370496 := by decide
    have e2 : xp 4890909195324358656 = 1085 := by decide
    unfold V
    rw [e1, e2, show (1085 : Nat) = 11 + K from by rw [K_eq], Nat.pow_add, ← Nat.mul_assoc]
  unfold whole
  rw [h2, Nat.mul_div_cancel _ (Nat.pow_pos (by decide))]
end Go.Proofs.Ytfhnjilflffdfaa.Flt

namespace Go.Proofs.Ytfhnjilflffdfaa
open Go
theorem trunc_entry (a : Nat) (s : Bool) (m : Nat) (i : Int) (hd : FloatKind.f64.decode a = .number s m i) : Extern.MathFloor.toIntegral "math.archTrunc" .zero #[.float .f64 a] = pure (.float .f64 (FloatKind.f64.encode ((FloatKind.f64.decode a).integral .zero))) := by
  delta Extern.MathFloor.toIntegral
  delta Extern.MathFloor.toIntegral.match_2
  dsimp only
  refine (dif_pos (show #[Value.float FloatKind.f64 a].size = 1 from rfl)).trans ?_
  delta Extern.MathFloor.toIntegral._sparseCasesOn_2 Extern.MathFloor.toIntegral._sparseCasesOn_3
  dsimp only [Array.getLit]
  simp only [List.getElem_toArray, List.getElem_cons_zero]
  rw [hd]
theorem run_trunc {a : Nat} (ha : a < 18446744073709551616) (h : Flt.rung a < 9218868437227405312) (w : World) : (callFunc 87 #[.float .f64 a]).run Try.prog w = .ok (.value (.float .f64 (Flt.trunc a))) w := by
  rw [run_callFunc_extern (e := Extern.MathFloor.toIntegral "math.archTrunc" .zero) Try.func87 (by kernel_rfl) (by kernel_rfl) (by kernel_rfl) (by kernel_rfl)]
  rw [trunc_entry a _ _ _ (Flt.read_fin ha h), Flt.trunc_eq ha h]
  rfl
theorem Trunc_any (a : Nat) (ha : a < 18446744073709551616) (h : Flt.rung a < 9218868437227405312) (w : World) :
    Calls Try.prog 85 #[.float .f64 a] w fun e w' => e = .returned (.float .f64 (Flt.trunc a)) ∧ w = w' := by
  have hr := fun w => run_trunc ha h w
  go_enter Try.func85, Try.ntmps85
  go_wp2
  go_ret
  exact ⟨rfl, rfl⟩
theorem cmpf_any (a b : Nat) (ha : a < 18446744073709551616) (hb : b < 18446744073709551616) (na : Flt.isNan a = false) (nb : Flt.isNan b = false) (w : World) :
    Calls Try.prog 86 #[.float .f64 a, .float .f64 b] w fun e w' => e = .returned (.int .i64 (Flt.cmp3 (Flt.key a) (Flt.key b))) ∧ w = w' := by
  have h1 := Flt.ord_self ha
  have h2 := Flt.ord_self hb
  rw [na] at h1
  rw [nb] at h2
  have h3 := Flt.ord_lt ha hb
  have h4 := Flt.ord_gt ha hb
  rw [na, nb] at h3 h4
  simp only [Bool.not_false, Bool.true_and] at h3 h4
  by_cases t1 : Flt.key a < Flt.key b
  · rw [show Flt.cmp3 (Flt.key a) (Flt.key b) = -1 from by unfold Flt.cmp3; rw [if_pos t1]]
    rw [show decide (Flt.key a < Flt.key b) = true from by simpa using t1] at h3
    clear h4 t1
    go_enter Try.func86, Try.ntmps86
    go_wp2
    go_ret
    exact ⟨rfl, rfl⟩
  · rw [show decide (Flt.key a < Flt.key b) = false from by simpa using t1] at h3
    by_cases t2 : Flt.key b < Flt.key a
    · rw [show Flt.cmp3 (Flt.key a) (Flt.key b) = 1 from by unfold Flt.cmp3; rw [if_neg t1, if_pos t2]]
      rw [show decide (Flt.key b < Flt.key a) = true from by simpa using t2] at h4
      clear t1 t2
      go_enter Try.func86, Try.ntmps86
      go_wp2
      go_ret
      exact ⟨rfl, rfl⟩
    · rw [show Flt.cmp3 (Flt.key a) (Flt.key b) = 0 from by unfold Flt.cmp3; rw [if_neg t1, if_neg t2]]
      rw [show decide (Flt.key b < Flt.key a) = false from by simpa using t2] at h4
      clear t1 t2
      go_enter Try.func86, Try.ntmps86
      go_wp2
      go_ret
      exact ⟨rfl, rfl⟩
theorem against_nan (n : Int) (a : Nat) (ha : a < 18446744073709551616) (hn : Flt.isNan a = true) (w : World) :
    Calls Try.prog 83 #[.int .i64 n, .float .f64 a] w fun e w' => e = .returned (.tuple #[.int .i64 0, .bool false]) ∧ w = w' := by
  go_enter Try.func83, Try.ntmps83
  go_wp2_with (go_at_call 61; refine (isnan_any _ ha _).mono ?_; rintro e w' ⟨rfl, rfl⟩)
  go_ret2
  exact ⟨rfl, rfl⟩
theorem against_high (n : Int) (a : Nat) (ha : a < 18446744073709551616) (hn : Flt.isNan a = false) (hk : 4890909195324358656 ≤ Flt.key a) (w : World) :
    Calls Try.prog 83 #[.int .i64 n, .float .f64 a] w fun e w' => e = .returned (.tuple #[.int .i64 (-1), .bool true]) ∧ w = w' := by
  have h1 := Flt.ord_gt ha (show 4890909195324358656 < 18446744073709551616 by decide)
  have h2 := Flt.ord_eq ha (show 4890909195324358656 < 18446744073709551616 by decide)
  rw [hn, Flt.key_small (a := 4890909195324358656) (by decide), show Flt.isNan 4890909195324358656 = false from by decide] at h1 h2
  simp only [Bool.not_false, Bool.true_and] at h1 h2
  have HM := isnan_any a ha
  rw [hn] at HM
  by_cases t : Flt.key a = 4890909195324358656
  · rw [show decide (Flt.key a = ((4890909195324358656 : Nat) : Int)) = true from by simpa using t] at h2
    rw [show decide (((4890909195324358656 : Nat) : Int) < Flt.key a) = false from by simp; omega] at h1
    clear t hk hn
    go_enter Try.func83, Try.ntmps83
    go_wp2_with (go_at_call 61; refine (HM _).mono ?_; rintro e w' ⟨rfl, rfl⟩)
    go_ret2
    exact ⟨rfl, rfl⟩
  · rw [show decide (((4890909195324358656 : Nat) : Int) < Flt.key a) = true from by simp; omega] at h1
    clear t hk hn h2
    go_enter Try.func83, Try.ntmps83
    go_wp2_with (go_at_call 61; refine (HM _).mono ?_; rintro e w' ⟨rfl, rfl⟩)
    go_ret2
    exact ⟨rfl, rfl⟩
theorem key_m63 : Flt.key 14114281232179134464 = -4890909195324358656 := by decide
theorem against_low (n : Int) (a : Nat) (ha : a < 18446744073709551616) (hn : Flt.isNan a = false) (hk : Flt.key a < -4890909195324358656) (w : World) :
    Calls Try.prog 83 #[.int .i64 n, .float .f64 a] w fun e w' => e = .returned (.tuple #[.int .i64 1, .bool true]) ∧ w = w' := by
  have h1 := Flt.ord_gt ha (show 4890909195324358656 < 18446744073709551616 by decide)
  have h2 := Flt.ord_eq ha (show 4890909195324358656 < 18446744073709551616 by decide)
  have h3 := Flt.ord_lt ha (show 14114281232179134464 < 18446744073709551616 by decide)
  rw [hn, Flt.key_small (a := 4890909195324358656) (by decide), show Flt.isNan 4890909195324358656 = false from by decide] at h1 h2
  rw [hn, key_m63, show Flt.isNan 14114281232179134464 = false from by decide] at h3
  simp only [Bool.not_false, Bool.true_and] at h1 h2 h3
  have HM := isnan_any a ha
  rw [hn] at HM
  rw [show decide (Flt.key a = ((4890909195324358656 : Nat) : Int)) = false from by simp; omega] at h2
  rw [show decide (((4890909195324358656 : Nat) : Int) < Flt.key a) = false from by simp; omega] at h1
  rw [show decide (Flt.key a < -4890909195324358656) = true from by simpa using hk] at h3
  clear hk hn
  go_enter Try.func83, Try.ntmps83
  go_wp2_with (go_at_call 61; refine (HM _).mono ?_; rintro e w' ⟨rfl, rfl⟩)
  go_ret2
  exact ⟨rfl, rfl⟩
/-- what Against answers of a number that an int64 has room for -/
def agn (n : Int) (a : Nat) : Int := if Flt.cmp3 n (Flt.wholeInt a) = 0 then Flt.cmp3 (Flt.key (Flt.trunc a)) (Flt.key a) else Flt.cmp3 n (Flt.wholeInt a)
theorem whole_bounds {a : Nat} (h1 : -4890909195324358656 ≤ Flt.key a) (h2 : Flt.key a < 4890909195324358656) :
    Flt.rung a < 9218868437227405312 ∧ -9223372036854775808 ≤ Flt.wholeInt a ∧ Flt.wholeInt a ≤ 9223372036854775807 := by
  unfold Flt.key at h1 h2
  unfold Flt.wholeInt Flt.neg
  by_cases hs : 9223372036854775808 ≤ a
  · rw [if_pos hs] at h1 h2
    rw [decide_eq_true hs, if_pos rfl]
    refine ⟨by omega, ?_, by omega⟩
    by_cases e : Flt.rung a = 4890909195324358656
    · rw [e, Flt.whole_63]; omega
    · have := Flt.whole_lt (r := Flt.rung a) (by omega)
      omega
  · rw [if_neg hs] at h1 h2
    rw [decide_eq_false hs, if_neg (by decide)]
    have := Flt.whole_lt (r := Flt.rung a) (by omega)
    exact ⟨by omega, by omega, by omega⟩
theorem against_mid (n : Int) (a : Nat) (ha : a < 18446744073709551616) (hn : Flt.isNan a = false) (k1 : -4890909195324358656 ≤ Flt.key a) (k2 : Flt.key a < 4890909195324358656) (w : World) :
    Calls Try.prog 83 #[.int .i64 n, .float .f64 a] w fun e w' => e = .returned (.tuple #[.int .i64 (agn n a), .bool true]) ∧ w = w' := by
  obtain ⟨hr, w1, w2⟩ := whole_bounds k1 k2
  have h1 := Flt.ord_gt ha (show 4890909195324358656 < 18446744073709551616 by decide)
  have h2 := Flt.ord_eq ha (show 4890909195324358656 < 18446744073709551616 by decide)
  have h3 := Flt.ord_lt ha (show 14114281232179134464 < 18446744073709551616 by decide)
  rw [hn, Flt.key_small (a := 4890909195324358656) (by decide), show Flt.isNan 4890909195324358656 = false from by decide] at h1 h2
  rw [hn, key_m63, show Flt.isNan 14114281232179134464 = false from by decide] at h3
  simp only [Bool.not_false, Bool.true_and] at h1 h2 h3
  have HM := isnan_any a ha
  rw [hn] at HM
  rw [show decide (Flt.key a = ((4890909195324358656 : Nat) : Int)) = false from by simp; omega] at h2
  rw [show decide (((4890909195324358656 : Nat) : Int) < Flt.key a) = false from by simp; omega] at h1
  rw [show decide (Flt.key a < -4890909195324358656) = false from by simp; omega] at h3
  have HT := Trunc_any a ha hr
  have tl := Flt.trunc_lt hr
  have wt : Flt.wholeInt (Flt.trunc a) = Flt.wholeInt a := by unfold Flt.wholeInt; rw [Flt.neg_trunc hr, Flt.rung_trunc hr, Flt.whole_wrung]
  have hv := Flt.toInt_i64 tl (by rw [Flt.rung_trunc hr]; exact Flt.wrung_lt hr) (by rw [wt]; exact w1) (by rw [wt]; exact w2)
  rw [wt] at hv
  have hrun := fun W => run_convert_float_int (P := Try.prog) W 22 2 .f64 .i64 _ _ (by rw [Try.underlying22]; rfl) Try.underlying2 hv
  have nt : Flt.isNan (Flt.trunc a) = false := by unfold Flt.isNan; rw [Flt.rung_trunc hr]; have := Flt.wrung_lt hr; simp; omega
  have HC := cmpf_any (Flt.trunc a) a tl ha nt hn
  have HI := cmpi_any n (Flt.wholeInt a)
  unfold agn
  generalize Flt.cmp3 (Flt.key (Flt.trunc a)) (Flt.key a) = c2 at *
  generalize Flt.cmp3 n (Flt.wholeInt a) = c1 at *
  generalize Flt.wholeInt a = wi at *
  generalize Flt.trunc a = ta at *
  clear hr k1 k2 wt hv nt hn w1 w2
  by_cases hc : c1 = 0
  · rw [if_pos hc]
    subst hc
    go_enter Try.func83, Try.ntmps83
    go_wp2_with (first | (go_at_call 61; refine (HM _).mono ?_; rintro e w' ⟨rfl, rfl⟩) | (go_at_call 85; refine (HT _).mono ?_; rintro e w' ⟨rfl, rfl⟩) | (go_at_call 79; refine (HI _).mono ?_; rintro e w' ⟨rfl, rfl⟩) | (go_at_call 86; refine (HC _).mono ?_; rintro e w' ⟨rfl, rfl⟩))
    go_ret2
    exact ⟨rfl, rfl⟩
  · rw [if_neg hc]
    have hb : (c1 == 0) = false := by simpa using hc
    have hb' : (c1 != 0) = true := by simpa using hc
    clear hc
    go_enter Try.func83, Try.ntmps83
    go_wp2_with (first | (go_at_call 61; refine (HM _).mono ?_; rintro e w' ⟨rfl, rfl⟩) | (go_at_call 85; refine (HT _).mono ?_; rintro e w' ⟨rfl, rfl⟩) | (go_at_call 79; refine (HI _).mono ?_; rintro e w' ⟨rfl, rfl⟩) | (go_at_call 86; refine (HC _).mono ?_; rintro e w' ⟨rfl, rfl⟩))
    go_ret2
    exact ⟨rfl, rfl⟩
end Go.Proofs.Ytfhnjilflffdfaa

namespace Go.Proofs.Ytfhnjilflffdfaa
open Go
namespace Flt
/-- the bits that a key is turned back to -/
def okb (k : Nat) : Nat := if 9223372036854775808 ≤ k then k - 9223372036854775808 else 18446744073709551615 - k
theorem okb_lt {k : Nat} (hk : k < 18446744073709551616) : okb k < 18446744073709551616 := by unfold okb; split <;> omega
theorem okb_kbits {a : Nat} (ha : a < 18446744073709551616) : canon (okb (kbits a)) = canon a := by
  cases hn : isNan a
  · unfold kbits
    simp only [hn, Bool.false_eq_true, if_false]
    unfold okb
    congr 1
    (repeat' split) <;> omega
  · rw [kbits_nan hn, canon_nan hn]; decide
theorem kbits_canon (a : Nat) : kbits (canon a) = kbits a := by
  cases hn : isNan a
  · rw [canon_num hn]
  · rw [canon_nan hn, kbits_nan hn]; decide
theorem kbits_okb {k : Nat} (hk : k < 18446744073709551616) (hn : isNan (okb k) = false) : kbits (canon (okb k)) = k := by
  rw [kbits_canon]
  unfold kbits
  simp only [hn, Bool.false_eq_true, if_false]
  unfold okb
  (repeat' split) <;> omega
theorem okb_far {k : Nat} (hk : k < 18446744073709551616) (h : kbits (canon (okb k)) ≠ k) : k < 4503599627370496 ∨ 18442240474082181119 < k := by
  cases hn : isNan (okb k)
  · exact absurd (kbits_okb hk hn) h
  · unfold isNan rung okb at hn
    simp only [decide_eq_true_eq] at hn
    split at hn <;> omega
end Flt
end Go.Proofs.Ytfhnjilflffdfaa

namespace Go.Proofs.Ytfhnjilflffdfaa
open Go Go.RowKit
/-- against a number that is not whole -/
def btw (n : Int) (s : Bool) (l : Nat) : Int := if n ≤ (if s = true then -(l : Int) - 1 else (l : Int)) then -1 else 1
theorem btw_f (n : Int) (l : Nat) : btw n false l = if n ≤ (l : Int) then -1 else 1 := by unfold btw; simp
theorem btw_t (n : Int) (l : Nat) : btw n true l = if n ≤ -(l : Int) - 1 then -1 else 1 := by unfold btw; simp
end Go.Proofs.Ytfhnjilflffdfaa

namespace Go.Proofs.Ytfhnjilflffdfaa
open Go Go.RowKit
set_option linter.unusedVariables false
end Go.Proofs.Ytfhnjilflffdfaa

namespace Go.Proofs.Ytfhnjilflffdfaa
open Go Go.RowKit
theorem trunc_whole {a : Nat} (ha : a < 18446744073709551616) (h : Flt.V (Flt.rung a) = Flt.whole (Flt.rung a) * 2 ^ Flt.K) : Flt.trunc a = a := by
  have e : Flt.wrung (Flt.rung a) = Flt.rung a := Flt.V_inj (by rw [Flt.V_wrung, h])
  unfold Flt.trunc Flt.neg
  rw [e]
  unfold Flt.rung
  by_cases hs : 9223372036854775808 ≤ a
  · rw [decide_eq_true hs, if_pos rfl]; omega
  · rw [decide_eq_false hs, if_neg (by decide)]; omega
theorem agn_whole (n : Int) {a : Nat} (ha : a < 18446744073709551616) (h : Flt.V (Flt.rung a) = Flt.whole (Flt.rung a) * 2 ^ Flt.K) : agn n a = Flt.cmp3 n (Flt.wholeInt a) := by
  unfold agn
  rw [trunc_whole ha h]
  split
  · rename_i h0
    rw [h0]
    unfold Flt.cmp3
    rw [if_neg (by omega), if_neg (by omega)]
  · rfl
theorem agn_part (n : Int) {a : Nat} (hr : Flt.rung a < 9218868437227405312) (h : Flt.V (Flt.rung a) ≠ Flt.whole (Flt.rung a) * 2 ^ Flt.K) : agn n a = btw n (Flt.neg a) (Flt.whole (Flt.rung a)) := by
  have h1 : Flt.wrung (Flt.rung a) < Flt.rung a := by
    apply Flt.V_lt_iff.1
    rw [Flt.V_wrung]
    have : Flt.whole (Flt.rung a) * 2 ^ Flt.K ≤ Flt.V (Flt.rung a) := Nat.div_mul_le_self _ _
    omega
  have hwl := Flt.wrung_lt hr
  have hrt := Flt.rung_trunc hr
  have hnt := Flt.neg_trunc hr
  have hk : Flt.key (Flt.trunc a) = if Flt.neg a = true then -((Flt.wrung (Flt.rung a) : Nat) : Int) else (Flt.wrung (Flt.rung a) : Nat) := by
    unfold Flt.key
    rw [hrt]
    unfold Flt.neg at hnt ⊢
    by_cases hs : 9223372036854775808 ≤ a
    · rw [decide_eq_true hs] at hnt ⊢
      rw [if_pos (of_decide_eq_true hnt), if_pos rfl]
    · rw [decide_eq_false hs] at hnt ⊢
      rw [if_neg (of_decide_eq_false hnt), if_neg (by decide)]
  have hka : Flt.key a = if Flt.neg a = true then -((Flt.rung a : Nat) : Int) else (Flt.rung a : Nat) := by
    unfold Flt.key Flt.neg
    by_cases hs : 9223372036854775808 ≤ a
    · rw [if_pos hs, decide_eq_true hs, if_pos rfl]
    · rw [if_neg hs, decide_eq_false hs, if_neg (by decide)]
  unfold agn
  rw [hk, hka]
  unfold Flt.wholeInt
  generalize Flt.whole (Flt.rung a) = l
  cases Flt.neg a
  · rw [btw_f]
    simp only [Bool.false_eq_true, if_false]
    unfold Flt.cmp3
    (repeat' split) <;> omega
  · rw [btw_t]
    simp only [if_true]
    unfold Flt.cmp3
    (repeat' split) <;> omega
end Go.Proofs.Ytfhnjilflffdfaa

namespace Go.Proofs.Ytfhnjilflffdfaa
open Go Go.RowKit
namespace Flt
/-- what a float stands for, with its sign, in units of the least place -/
def sv (a : Nat) : Int := if neg a = true then -((V (rung a) : Nat) : Int) else (V (rung a) : Nat)
theorem cmp3_lt {x y : Int} (h : x < y) : cmp3 x y = -1 := by unfold cmp3; rw [if_pos h]
theorem cmp3_gt {x y : Int} (h : y < x) : cmp3 x y = 1 := by unfold cmp3; rw [if_neg (by omega), if_pos h]
theorem cmp3_scale (x y : Int) (c : Nat) (hc : 0 < c) : cmp3 (x * c) (y * c) = cmp3 x y := by
  have hc' : (0 : Int) < (c : Int) := Int.ofNat_lt.2 hc
  have i1 : ∀ x y : Int, x * (c : Int) < y * (c : Int) ↔ x < y := fun x y => ⟨fun h => Int.lt_of_mul_lt_mul_right h (Int.le_of_lt hc'), fun h => Int.mul_lt_mul_of_pos_right h hc'⟩
  unfold cmp3
  simp only [i1]
theorem le_scale {x y : Int} (c : Nat) (h : x ≤ y) : x * (c : Int) ≤ y * (c : Int) := Int.mul_le_mul_of_nonneg_right h (by omega)
theorem V_mod (r : Nat) : whole r * 2 ^ K ≤ V r ∧ V r < (whole r + 1) * 2 ^ K := by
  unfold whole
  have hp : 0 < 2 ^ K := Nat.pow_pos (by decide)
  have h1 := Nat.div_mul_le_self (V r) (2 ^ K)
  have h2 := Nat.lt_div_mul_add hp (a := V r)
  refine ⟨h1, ?_⟩
  rw [Nat.add_mul]
  omega
theorem V_63 : V 4890909195324358656 = 9223372036854775808 * 2 ^ K := by
  have e1 : mant 4890909195324358656 = 4503599627370496 := by decide
  have e2 : xp 4890909195324358656 = 1085 := by decide
  unfold V
  rw [e1, e2, show (1085 : Nat) = 11 + K from by rw [K_eq], Nat.pow_add, ← Nat.mul_assoc]
theorem key_eq (a : Nat) : key a = if neg a = true then -((rung a : Nat) : Int) else (rung a : Nat) := by
  unfold key neg
  by_cases hs : 9223372036854775808 ≤ a
  · rw [if_pos hs, decide_eq_true hs, if_pos rfl]
  · rw [if_neg hs, decide_eq_false hs, if_neg (by decide)]
theorem sv_mono {a b : Nat} (h : key a ≤ key b) : sv a ≤ sv b := by
  rw [key_eq, key_eq] at h
  unfold sv
  have m : ∀ r s : Nat, r ≤ s → V r ≤ V s := fun r s h => by
    rcases Nat.lt_or_eq_of_le h with h | h
    · exact Nat.le_of_lt (V_lt h)
    · rw [h]; exact Nat.le_refl _
  generalize neg a = p at *
  generalize neg b = q at *
  cases p <;> cases q <;> simp only [Bool.false_eq_true, if_false, if_true] at h ⊢
  · have := m (rung a) (rung b) (by omega); omega
  · have e1 : rung a = 0 := by omega
    have e2 : rung b = 0 := by omega
    rw [e1, e2, V_zero]; omega
  · omega
  · have := m (rung b) (rung a) (by omega); omega
theorem cmp3_mono {x y z : Int} (h : y ≤ z) : cmp3 x z ≤ cmp3 x y := by
  unfold cmp3
  (repeat' split) <;> omega
end Flt
theorem agn_sv (n : Int) {a : Nat} (ha : a < 18446744073709551616) (hr : Flt.rung a < 9218868437227405312) : agn n a = Flt.cmp3 (n * ((2 ^ Flt.K : Nat) : Int)) (Flt.sv a) := by
  have hp : 0 < 2 ^ Flt.K := Nat.pow_pos (by decide)
  have ⟨v1, v2⟩ := Flt.V_mod (Flt.rung a)
  by_cases h : Flt.V (Flt.rung a) = Flt.whole (Flt.rung a) * 2 ^ Flt.K
  · rw [agn_whole n ha h]
    have e : Flt.sv a = Flt.wholeInt a * ((2 ^ Flt.K : Nat) : Int) := by
      unfold Flt.sv Flt.wholeInt
      rw [h]
      generalize 2 ^ Flt.K = c
      split
      · rw [Int.neg_mul]; push_cast; rfl
      · push_cast; rfl
    rw [e, Flt.cmp3_scale _ _ _ hp]
  · rw [agn_part n hr h]
    unfold Flt.sv
    generalize Flt.V (Flt.rung a) = v at *
    generalize Flt.whole (Flt.rung a) = l at *
    generalize 2 ^ Flt.K = c at *
    have hl1 : ((l : Int) * (c : Int)) < (v : Int) := by
      have : l * c < v := by omega
      have := Int.ofNat_lt.2 this
      push_cast at this
      exact this
    have hl2 : (v : Int) < ((l : Int) + 1) * (c : Int) := by
      have := Int.ofNat_lt.2 v2
      push_cast at this
      exact this
    cases Flt.neg a
    · rw [btw_f]
      simp only [Bool.false_eq_true, if_false]
      by_cases hn : n ≤ (l : Int)
      · rw [if_pos hn, Flt.cmp3_lt]
        have := Flt.le_scale c hn
        omega
      · rw [if_neg hn, Flt.cmp3_gt]
        have := Flt.le_scale c (show (l : Int) + 1 ≤ n by omega)
        omega
    · rw [btw_t]
      simp only [if_true]
      by_cases hn : n ≤ -(l : Int) - 1
      · rw [if_pos hn, Flt.cmp3_lt]
        have h3 := Flt.le_scale c (show n ≤ -((l : Int) + 1) by omega)
        rw [Int.neg_mul] at h3
        omega
      · rw [if_neg hn, Flt.cmp3_gt]
        have h3 := Flt.le_scale c (show -(l : Int) ≤ n by omega)
        rw [Int.neg_mul] at h3
        omega
theorem against_all (n : Int) (a : Nat) (n1 : -9223372036854775808 ≤ n) (n2 : n ≤ 9223372036854775807) (ha : a < 18446744073709551616) (hn : Flt.isNan a = false) (w : World) :
    Calls Try.prog 83 #[.int .i64 n, .float .f64 a] w fun e w' => e = .returned (.tuple #[.int .i64 (Flt.cmp3 (n * ((2 ^ Flt.K : Nat) : Int)) (Flt.sv a)), .bool true]) ∧ w = w' := by
  have hp : 0 < 2 ^ Flt.K := Nat.pow_pos (by decide)
  have hkey := Flt.key_eq a
  by_cases k1 : 4890909195324358656 ≤ Flt.key a
  · have hs : Flt.neg a = false := by
      cases h : Flt.neg a
      · rfl
      · rw [h, if_pos rfl] at hkey; omega
    rw [hs, if_neg (by decide)] at hkey
    have hV : Flt.V 4890909195324358656 ≤ Flt.V (Flt.rung a) := by
      rcases Nat.lt_or_eq_of_le (show 4890909195324358656 ≤ Flt.rung a by omega) with h | h
      · exact Nat.le_of_lt (Flt.V_lt h)
      · rw [← h]; exact Nat.le_refl _
    rw [Flt.V_63] at hV
    have e : Flt.cmp3 (n * ((2 ^ Flt.K : Nat) : Int)) (Flt.sv a) = -1 := by
      apply Flt.cmp3_lt
      unfold Flt.sv
      rw [hs, if_neg (by decide)]
      generalize Flt.V (Flt.rung a) = v at *
      generalize 2 ^ Flt.K = c at *
      have h3 := Flt.le_scale c (show n ≤ 9223372036854775807 from n2)
      omega
    rw [e]
    exact against_high n a ha hn k1 w
  · by_cases k2 : Flt.key a < -4890909195324358656
    · have hs : Flt.neg a = true := by
        cases h : Flt.neg a
        · rw [h, if_neg (by decide)] at hkey; omega
        · rfl
      rw [hs, if_pos rfl] at hkey
      have hV : Flt.V 4890909195324358656 < Flt.V (Flt.rung a) := Flt.V_lt (by omega)
      rw [Flt.V_63] at hV
      have e : Flt.cmp3 (n * ((2 ^ Flt.K : Nat) : Int)) (Flt.sv a) = 1 := by
        apply Flt.cmp3_gt
        unfold Flt.sv
        rw [hs, if_pos rfl]
        generalize Flt.V (Flt.rung a) = v at *
        generalize 2 ^ Flt.K = c at *
        have h3 := Flt.le_scale c (show -9223372036854775808 ≤ n from n1)
        omega
      rw [e]
      exact against_low n a ha hn k2 w
    · have hr := (whole_bounds (a := a) (by omega) (by omega)).1
      rw [← agn_sv n ha hr]
      exact against_mid n a ha hn (by omega) (by omega) w
/-! the next float -/
end Go.Proofs.Ytfhnjilflffdfaa

