import Derived.Test.YtnjlcdemfdokoaaGreatDoorWd
namespace Go.Proofs.YtnjlcdemfdokoaaGreatDoor.Flt
open Go Ieee
/-- 1074, under a name -/
@[irreducible] def K : Nat := 1074
theorem K_eq : K = 1074 := by unfold K; rfl
/-- the whole part of a finite float, without its sign -/
def whole (r : Nat) : Nat := V r / 2 ^ K
theorem cut_zero (s : Bool) (n d : Nat) : Toward.zero.cut s n d = n / 2 ^ d := by
  unfold Toward.cut
  simp only [Nat.one_shiftLeft, Bool.toNat_false, Nat.add_zero]
  by_cases h : d ≤ n.log2 + 2
  · rw [Nat.min_eq_left h]
  · rw [Nat.min_eq_right (by omega)]
    have l2 := @Nat.lt_log2_self n
    have h1 : n < 2 ^ (n.log2 + 2) := Nat.lt_of_lt_of_le l2 (Nat.pow_le_pow_right (by decide) (by omega))
    have h2 : n < 2 ^ d := Nat.lt_of_lt_of_le l2 (Nat.pow_le_pow_right (by decide) (by omega))
    rw [Nat.div_eq_of_lt h1, Nat.div_eq_of_lt h2]
theorem integral_fin {a : Nat} (ha : a < 18446744073709551616) (h : rung a < 9218868437227405312) :
    (Ieee.double.read a).integral .zero = .number (neg a) (whole (rung a)) 0 := by
  rw [read_fin ha h]
  simp only [Datum.integral]
  congr 1
  rw [cut_zero, Nat.shiftLeft_eq]
  unfold whole V
  by_cases hx : 1074 ≤ xp (rung a)
  · have e1 : (-1074 + (xp (rung a) : Int)).toNat = xp (rung a) - 1074 := by omega
    have e2 : (-(-1074 + (xp (rung a) : Int))).toNat = 0 := by omega
    rw [e1, e2, Nat.pow_zero, Nat.div_one]
    obtain ⟨k, hk⟩ : ∃ k, xp (rung a) = k + K := ⟨xp (rung a) - K, by rw [K_eq]; omega⟩
    rw [← K_eq, hk, Nat.add_sub_cancel, Nat.pow_add, ← Nat.mul_assoc, Nat.mul_div_cancel _ (Nat.pow_pos (by decide))]
  · have e1 : (-1074 + (xp (rung a) : Int)).toNat = 0 := by omega
    have e2 : (-(-1074 + (xp (rung a) : Int))).toNat = 1074 - xp (rung a) := by omega
    rw [e1, e2, Nat.pow_zero, Nat.mul_one]
    have e3 : (2 : Nat) ^ K = 2 ^ (K - xp (rung a)) * 2 ^ xp (rung a) := by rw [← Nat.pow_add]; congr 1; have := K_eq; omega
    rw [← K_eq, e3, Nat.mul_div_mul_right _ _ (Nat.pow_pos (by decide))]
/-- the rung of the whole part -/
def wrung (r : Nat) : Nat := if 1074 ≤ xp r then r else if whole r = 0 then 0 else rungOf (whole r) K
theorem whole_small {r : Nat} (hx : ¬ 1074 ≤ xp r) : whole r < 9007199254740992 := by
  unfold whole V
  have h1 : mant r * 2 ^ xp r / 2 ^ K ≤ mant r := by
    rw [show (2 : Nat) ^ K = 2 ^ (K - xp r) * 2 ^ xp r from by rw [← Nat.pow_add]; congr 1; have := K_eq; omega, Nat.mul_div_mul_right _ _ (Nat.pow_pos (by decide))]
    exact Nat.div_le_self _ _
  have := mant_lt r
  omega
theorem V_wrung (r : Nat) : V (wrung r) = whole r * 2 ^ K := by
  unfold wrung
  by_cases hx : 1074 ≤ xp r
  · rw [if_pos hx]
    unfold whole V
    obtain ⟨k, hk⟩ : ∃ k, xp r = k + K := ⟨xp r - K, by rw [K_eq]; omega⟩
    rw [hk, Nat.pow_add, ← Nat.mul_assoc, Nat.mul_div_cancel _ (Nat.pow_pos (by decide))]
  · rw [if_neg hx]
    by_cases h0 : whole r = 0
    · rw [if_pos h0, h0, V_zero, Nat.zero_mul]
    · rw [if_neg h0, V_rungOf K (by omega) (whole_small hx)]
theorem wrung_lt {r : Nat} (hr : r < 9218868437227405312) : wrung r < 9218868437227405312 := by
  unfold wrung
  by_cases hx : 1074 ≤ xp r
  · rw [if_pos hx]; exact hr
  · rw [if_neg hx]
    by_cases h0 : whole r = 0
    · rw [if_pos h0]; decide
    · rw [if_neg h0]
      have := log2_le52 (m := whole r) (by omega) (whole_small hx)
      exact rungOf_lt (by omega) (whole_small hx) (by rw [K_eq]; omega)
/-- the whole part of a finite float, as a float -/
def trunc (a : Nat) : Nat := if neg a = true then 9223372036854775808 + wrung (rung a) else wrung (rung a)
theorem trunc_eq {a : Nat} (ha : a < 18446744073709551616) (h : rung a < 9218868437227405312) :
    FloatKind.f64.encode ((FloatKind.f64.decode a).integral .zero) = trunc a := by
  have h1 : FloatKind.f64.encode ((FloatKind.f64.decode a).integral .zero) = Ieee.double.write ((Ieee.double.read a).integral .zero) := rfl
  rw [h1, integral_fin ha h]
  show Ieee.double.nearest (neg a) (whole (rung a)) 0 = _
  unfold trunc
  by_cases h0 : wrung (rung a) = 0
  · have : whole (rung a) = 0 := by
      have := V_wrung (rung a)
      rw [h0, V_zero] at this
      have hp : 0 < 2 ^ K := Nat.pow_pos (by decide)
      rcases Nat.eq_zero_or_pos (whole (rung a)) with e | e
      · exact e
      · have := Nat.mul_pos e hp
        omega
    rw [this, h0]
    unfold Format.nearest
    rw [if_pos rfl, word_eq]
  · rw [nearest_exact (neg a) _ 0 (wrung (rung a)) K 0 (wrung_lt h) (by omega) (by rw [K_eq]; omega) (by rw [V_wrung, Nat.pow_zero, Nat.mul_one]), word_eq]
theorem trunc_lt {a : Nat} (h : rung a < 9218868437227405312) : trunc a < 18446744073709551616 := by
  have := wrung_lt h
  unfold trunc; split <;> omega
theorem rung_trunc {a : Nat} (h : rung a < 9218868437227405312) : rung (trunc a) = wrung (rung a) := by
  have := wrung_lt h
  unfold trunc rung at *
  split <;> omega
theorem neg_trunc {a : Nat} (h : rung a < 9218868437227405312) : neg (trunc a) = neg a := by
  have := wrung_lt h
  unfold trunc
  cases hn : neg a
  · rw [if_neg (by decide)]; unfold neg; simp; omega
  · rw [if_pos rfl]; unfold neg; simp
theorem whole_wrung (r : Nat) : whole (wrung r) = whole r := by
  unfold whole
  rw [V_wrung]
  unfold whole
  rw [Nat.mul_div_cancel _ (Nat.pow_pos (by decide))]
/-- the whole part with its sign -/
def wholeInt (a : Nat) : Int := if neg a = true then -((whole (rung a) : Nat) : Int) else (whole (rung a) : Nat)
theorem toInt_fin {a : Nat} (ha : a < 18446744073709551616) (h : rung a < 9218868437227405312) : (FloatKind.f64.decode a).toInt .zero = some (wholeInt a) := by
  show (Ieee.double.read a).toInt .zero = _
  unfold Datum.toInt
  rw [integral_fin ha h]
  simp only [signed, Nat.shiftLeft_zero]
  unfold wholeInt
  cases neg a <;> simp
theorem toInt_i64 {a : Nat} (ha : a < 18446744073709551616) (h : rung a < 9218868437227405312) (h1 : -9223372036854775808 ≤ wholeInt a) (h2 : wholeInt a ≤ 9223372036854775807) :
    floatToIntVal .f64 a .i64 = some (wholeInt a) := by
  unfold floatToIntVal
  rw [toInt_fin ha h]
  simp only []
  rw [if_pos]
  have u1 : IntKind.i64.min = -9223372036854775808 := by decide
  have u2 : IntKind.i64.max = 9223372036854775807 := by decide
  rw [u1, u2]
  exact ⟨h1, h2⟩
/-- 2 to the power of 63 has this rung -/
theorem whole_lt {r : Nat} (h : r < 4890909195324358656) : whole r < 9223372036854775808 := by
  have h1 : V r < V 4890909195324358656 := V_lt h
  have h2 : V 4890909195324358656 = 9223372036854775808 * 2 ^ K := by
    have e1 : mant 4890909195324358656 = 4503599627370496 := by decide
    have e2 : xp 4890909195324358656 = 1085 := by decide
    unfold V
    rw [e1, e2, show (1085 : Nat) = 11 + K from by rw [K_eq], Nat.pow_add, ← Nat.mul_assoc]
  unfold whole
  rw [h2] at h1
  exact Nat.div_lt_of_lt_mul (by rw [Nat.mul_comm]; exact h1)
theorem whole_63 : whole 4890909195324358656 = 9223372036854775808 := by
  have h2 : V 4890909195324358656 = 9223372036854775808 * 2 ^ K := by
    have e1 : mant 4890909195324358656 = 4503599627370496 := by decide
    have e2 : xp 4890909195324358656 = 1085 := by decide
    unfold V
    rw [e1, e2, show (1085 : Nat) = 11 + K from by rw [K_eq], Nat.pow_add, ← Nat.mul_assoc]
  unfold whole
  rw [h2, Nat.mul_div_cancel _ (Nat.pow_pos (by decide))]
end Go.Proofs.YtnjlcdemfdokoaaGreatDoor.Flt
