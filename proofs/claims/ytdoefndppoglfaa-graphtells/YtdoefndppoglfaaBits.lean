import Derived.Test.YtdoefndppoglfaaFlt
import Derived.Laws.BitsAllLaws
import Derived.Laws.Entries
namespace Go.Proofs.Ytdoefndppoglfaa.Flt
open Go

theorem b_andNot_sign (a : Nat) (ha : a < 18446744073709551616) : bits .andNot .u64 (a : Int) 9223372036854775808 = ((rung a : Nat) : Int) := by
  have h := u64_andNot_nat a 9223372036854775808 ha (by decide)
  have e : a &&& (18446744073709551615 - 9223372036854775808) = rung a := by
    have := Nat.and_two_pow_sub_one_eq_mod a 63
    simpa [rung] using this
  rw [e] at h
  exact h

theorem nat_and_sign (a : Nat) (ha : a < 18446744073709551616) : a &&& 9223372036854775808 = if 9223372036854775808 ≤ a then 9223372036854775808 else 0 := by
  have h1 : (a &&& 9223372036854775808) % 2 ^ 63 = 0 := by
    rw [Nat.and_mod_two_pow]; simp
  have h2 : (a &&& 9223372036854775808) / 2 ^ 63 = a / 2 ^ 63 &&& 1 := by
    rw [Nat.and_div_two_pow]
  have h3 : a / 2 ^ 63 &&& 1 = a / 2 ^ 63 := by
    have := Nat.and_two_pow_sub_one_eq_mod (a / 2 ^ 63) 1
    simp only [Nat.pow_one] at this
    rw [show (2 - 1 : Nat) = 1 from rfl] at this
    rw [this]; omega
  split <;> omega

theorem b_and_sign (a : Nat) (ha : a < 18446744073709551616) : bits .and .u64 (a : Int) 9223372036854775808 = if 9223372036854775808 ≤ a then 9223372036854775808 else 0 := by
  have h := u64_and_nat a 9223372036854775808 ha (by decide)
  rw [nat_and_sign a ha] at h
  refine h.trans ?_
  split <;> rfl

theorem nat_or_sign (a : Nat) (ha : a < 9223372036854775808) : a ||| 9223372036854775808 = a + 9223372036854775808 := by
  have := Nat.two_pow_add_eq_or_of_lt (i := 63) (b := a) (by simpa using ha) 1
  rw [Nat.or_comm]
  simp only [Nat.mul_one] at this
  rw [show (2 ^ 63 : Nat) = 9223372036854775808 from by decide] at this
  omega

theorem b_or_sign (a : Nat) (ha : a < 9223372036854775808) : bits .or .u64 (a : Int) 9223372036854775808 = ((a + 9223372036854775808 : Nat) : Int) := by
  have h := u64_or_nat a 9223372036854775808 (by omega) (by decide)
  rw [nat_or_sign a ha] at h
  exact h

theorem b_or_zero (a : Nat) (ha : a < 18446744073709551616) : bits .or .u64 (a : Int) 0 = (a : Int) := by
  have h := u64_or_nat a 0 ha (by decide)
  rw [Nat.or_zero] at h
  exact h

theorem b_not (a : Nat) (ha : a < 18446744073709551616) : bits .xor .u64 18446744073709551615 (a : Int) = 18446744073709551615 - (a : Int) := by
  have h := u64_xor_nat 18446744073709551615 a (by decide) ha
  have e : 18446744073709551615 ^^^ a = 18446744073709551615 - a := by
    have e1 : (18446744073709551615 ^^^ a) % 2 ^ 64 = 18446744073709551615 ^^^ a := Nat.mod_eq_of_lt (Nat.xor_lt_two_pow (by decide) (by simpa using ha))
    have e2 : (18446744073709551615 - a) % 2 ^ 64 = 18446744073709551615 - a := Nat.mod_eq_of_lt (by simp; omega)
    apply Nat.eq_of_testBit_eq
    intro i
    rw [Nat.testBit_xor]
    have := Nat.testBit_two_pow_sub_succ (x := a) (n := 64) (by simpa using ha) i
    rw [show (2 ^ 64 - (a + 1) : Nat) = 18446744073709551615 - a from by simp] at this
    rw [this]
    have := Nat.testBit_two_pow_sub_one 64 i
    rw [show (2 ^ 64 - 1 : Nat) = 18446744073709551615 from by decide] at this
    rw [this]
    by_cases hi : i < 64
    · simp [hi]
    · simp only [hi, decide_false, Bool.false_bne, Bool.false_and]
      exact Nat.testBit_lt_two_pow (Nat.lt_of_lt_of_le (show a < 2 ^ 64 by simpa using ha) (Nat.pow_le_pow_right (by decide) (by omega)))
  rw [e] at h
  refine h.trans ?_
  omega

/-- the field of the exponent struck out of a float that is not below 0 -/
theorem nat_andNot_exp (a : Nat) (ha : a < 9223372036854775808) : a &&& (18446744073709551615 - 9218868437227405312) = a % 4503599627370496 := by
  have h1 : (a &&& (18446744073709551615 - 9218868437227405312)) % 2 ^ 52 = a % 2 ^ 52 := by
    rw [Nat.and_mod_two_pow]
    have := Nat.and_two_pow_sub_one_eq_mod (a % 2 ^ 52) 52
    rw [show (18446744073709551615 - 9218868437227405312) % 2 ^ 52 = 2 ^ 52 - 1 from by decide, this, Nat.mod_mod]
  have h2 : (a &&& (18446744073709551615 - 9218868437227405312)) / 2 ^ 52 = 0 := by
    rw [Nat.and_div_two_pow, show (18446744073709551615 - 9218868437227405312) / 2 ^ 52 = 2 ^ 11 from by decide]
    have hq : a / 2 ^ 52 < 2 ^ 11 := by simp; omega
    have := Nat.testBit_lt_two_pow hq
    apply Nat.eq_of_testBit_eq
    intro i
    rw [Nat.testBit_and, Nat.testBit_two_pow]
    by_cases hi : 11 = i
    · subst hi; rw [this]; rfl
    · simp [hi]
  rw [show (2 ^ 52 : Nat) = 4503599627370496 from by decide] at h1 h2
  omega

theorem b_andNot_exp (a : Nat) (ha : a < 9223372036854775808) : bits .andNot .u64 (a : Int) 9218868437227405312 = ((a % 4503599627370496 : Nat) : Int) := by
  have h := u64_andNot_nat a 9218868437227405312 (by omega) (by decide)
  rw [nat_andNot_exp a ha] at h
  exact h

theorem nat_or_exp (q f : Nat) (hf : f < 4503599627370496) : f ||| q * 4503599627370496 = q * 4503599627370496 + f := by
  have := Nat.two_pow_add_eq_or_of_lt (i := 52) (b := f) (by simpa using hf) q
  rw [show (2 ^ 52 : Nat) = 4503599627370496 from by decide] at this
  rw [Nat.or_comm, Nat.mul_comm q, this]

theorem b_or_exp (q f : Nat) (hq : q < 4096) (hf : f < 4503599627370496) : bits .or .u64 (f : Int) ((q * 4503599627370496 : Nat) : Int) = ((q * 4503599627370496 + f : Nat) : Int) := by
  have h := u64_or_nat f (q * 4503599627370496) (by omega) (by omega)
  rw [nat_or_exp q f hf] at h
  exact h

theorem nat_and_2047 (a : Nat) : a &&& 2047 = a % 2048 := by
  have := Nat.and_two_pow_sub_one_eq_mod a 11
  simpa using this

theorem b_and_2047 (a : Nat) (ha : a < 18446744073709551616) : bits .and .u64 (a : Int) 2047 = ((a % 2048 : Nat) : Int) := by
  have h := u64_and_nat a 2047 ha (by decide)
  rw [nat_and_2047] at h
  exact h

theorem b_and_frac (a : Nat) (ha : a < 18446744073709551616) : bits .and .u64 (a : Int) 4503599627370495 = ((a % 4503599627370496 : Nat) : Int) := by
  have h := u64_and_nat a 4503599627370495 ha (by decide)
  have := Nat.and_two_pow_sub_one_eq_mod a 52
  rw [show (2 ^ 52 - 1 : Nat) = 4503599627370495 from by decide, show (2 ^ 52 : Nat) = 4503599627370496 from by decide] at this
  rw [this] at h
  exact h
end Go.Proofs.Ytdoefndppoglfaa.Flt
