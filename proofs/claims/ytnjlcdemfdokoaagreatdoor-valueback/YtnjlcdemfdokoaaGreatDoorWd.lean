import Derived.Test.YtnjlcdemfdokoaaGreatDoorWc
namespace Go.Proofs.YtnjlcdemfdokoaaGreatDoor
open Go
namespace Flt
theorem rung_small {a : Nat} (ha : a < 9223372036854775808) : rung a = a := Nat.mod_eq_of_lt ha
theorem key_small {a : Nat} (ha : a < 9223372036854775808) : key a = a := by unfold key; rw [if_neg (by omega), rung_small ha]
theorem num_small {a : Nat} (ha : a ≤ 9218868437227405312) : isNan a = false := by unfold isNan; rw [rung_small (by omega)]; simp; omega
theorem nan_rung (a : Nat) : isNan (rung a) = isNan a := by unfold isNan rung; rw [Nat.mod_mod]
def negBits (a : Nat) : Nat := if 9223372036854775808 ≤ a then a - 9223372036854775808 else a + 9223372036854775808
theorem negFloat_eq (a : Nat) (ha : a < 18446744073709551616) : Op.negFloat .f64 a = negBits a := by
  unfold Op.negFloat negBits
  show a ^^^ 2 ^ (11 + 52) = _
  rw [show (2 ^ (11 + 52) : Nat) = 9223372036854775808 from by decide]
  have h1 : (a ^^^ 9223372036854775808) % 2 ^ 63 = a % 2 ^ 63 := by rw [Nat.xor_mod_two_pow]; simp
  have h2 : (a ^^^ 9223372036854775808) / 2 ^ 63 = (a / 2 ^ 63) ^^^ 1 := by rw [Nat.xor_div_two_pow]
  rw [show (2 ^ 63 : Nat) = 9223372036854775808 from by decide] at h1 h2
  have h3 : a / 9223372036854775808 = 0 ∨ a / 9223372036854775808 = 1 := by omega
  rcases h3 with h3 | h3
  · rw [h3, show (0 ^^^ 1 : Nat) = 1 from rfl] at h2
    rw [if_neg (by omega)]; omega
  · rw [h3, show (1 ^^^ 1 : Nat) = 0 from rfl] at h2
    rw [if_pos (by omega)]; omega
theorem gt_max {a : Nat} (ha : a < 18446744073709551616) : (FloatKind.f64.format.order a 9218868437227405311 == some Ordering.gt) = decide (a = 9218868437227405312) := by
  rw [ord_gt ha (by decide), key_small (a := 9218868437227405311) (by decide), Bool.eq_iff_iff]
  simp only [show isNan 9218868437227405311 = false from by decide, Bool.not_false, Bool.and_true, Bool.and_eq_true, Bool.not_eq_true', decide_eq_true_eq]
  unfold isNan key rung
  rw [decide_eq_false_iff_not]
  split <;> omega
end Flt

theorem isinf0_any (a : Nat) (ha : a < 18446744073709551616) (w : World) :
    Calls Tryz.prog 97 #[.float .f64 a, .int .i64 0] w fun e w' => e = .returned (.bool (decide (Flt.rung a = 9218868437227405312))) ∧ w = w' := by
  have hr : Flt.rung a < 9223372036854775808 := Nat.mod_lt _ (by decide)
  go_enter Tryz.func97, Tryz.ntmps97
  go_wp2_with (go_at_call 100; refine (abs_any _ ha _).mono ?_; rintro e w' ⟨rfl, rfl⟩)
  go_ret
  exact ⟨ret_bool (Flt.gt_max (by omega)), rfl⟩
theorem isinf1_any (a : Nat) (ha : a < 18446744073709551616) (w : World) :
    Calls Tryz.prog 97 #[.float .f64 a, .int .i64 1] w fun e w' => e = .returned (.bool (decide (a = 9218868437227405312))) ∧ w = w' := by
  go_enter Tryz.func97, Tryz.ntmps97
  go_wp2_with fail
  go_ret
  exact ⟨ret_bool (Flt.gt_max ha), rfl⟩
theorem isinfm_any (a : Nat) (ha : a < 18446744073709551616) (w : World) :
    Calls Tryz.prog 97 #[.float .f64 a, .int .i64 (-1)] w fun e w' => e = .returned (.bool (decide (a = 18442240474082181120))) ∧ w = w' := by
  have hn : Flt.negBits a < 18446744073709551616 := by unfold Flt.negBits; split <;> omega
  have hu : ∀ (W : World), (Op.unary .neg (.float .f64 a)).run Tryz.prog W = .ok (.float .f64 (Op.negFloat .f64 a)) W := fun _ => rfl
  go_enter Tryz.func97, Tryz.ntmps97
  go_wp2_with fail
  go_ret
  refine ⟨ret_bool ?_, rfl⟩
  rw [Flt.negFloat_eq a ha, Flt.gt_max hn, Bool.eq_iff_iff, decide_eq_true_eq, decide_eq_true_eq]
  unfold Flt.negBits
  split <;> omega
/-- normalize, of a positive number that is normal -/
theorem normalize_n (a : Nat) (h1 : 4503599627370496 ≤ a) (h2 : a < 9218868437227405312) (w : World) :
    Calls Tryz.prog 161 #[.float .f64 a] w fun e w' => e = .returned (.tuple #[.float .f64 a, .int .i64 0]) ∧ w = w' := by
  have hr : Flt.rung a = a := Flt.rung_small (by omega)
  have ho : (FloatKind.f64.format.order a 4503599627370496 == some Ordering.lt) = false := by
    rw [Flt.ord_lt (by omega) (by decide), Flt.key_small (a := a) (by omega), Flt.key_small (a := 4503599627370496) (by decide)]
    simp; omega
  have HA := abs_any a (by omega)
  rw [hr] at HA
  clear hr
  go_enter Tryz.func161, Tryz.ntmps161
  go_wp2_with (go_at_call 100; refine (HA _).mono ?_; rintro e w' ⟨rfl, rfl⟩)
  go_ret2
  exact ⟨rfl, rfl⟩
theorem Flt.mul52 {a : Nat} (h1 : 0 < a) (h2 : a < 4503599627370496) : Ieee.double.mul a 4841369599423283200 = some (Flt.rungOf a 52) := by
  have hr : Flt.rung a = a := Flt.rung_small (by omega)
  have hl := Flt.log2_le52 (m := a) h1 (by omega)
  have ra := Flt.read_fin (a := a) (by omega) (by rw [hr]; omega)
  have rb : Ieee.double.read 4841369599423283200 = .number false 4503599627370496 0 := by decide +kernel
  rw [hr] at ra
  have e1 : Flt.xp a = 0 := by unfold Flt.xp; omega
  have e2 : Flt.mant a = a := by unfold Flt.mant; rw [if_pos h2]
  have e3 : Flt.neg a = false := by unfold Flt.neg; simp; omega
  rw [e1, e2, e3] at ra
  have h := Flt.mul_exact ra rb (Flt.rungOf a 52) 0 0 (Flt.rungOf_lt h1 (by omega) (by omega)) (Flt.rungOf_pos 52 h1 (by omega)) (by decide) (by
      rw [Flt.V_rungOf 52 h1 (by omega), show (2 : Nat) ^ 52 = 4503599627370496 from by decide])
  simp only [Bool.xor_self, Bool.false_eq_true, if_false] at h
  exact h
/-- .. of one that is not -/
theorem normalize_s (a : Nat) (h1 : 0 < a) (h2 : a < 4503599627370496) (w : World) :
    Calls Tryz.prog 161 #[.float .f64 a] w fun e w' => e = .returned (.tuple #[.float .f64 (Flt.rungOf a 52), .int .i64 (-52)]) ∧ w = w' := by
  have hr : Flt.rung a = a := Flt.rung_small (by omega)
  have ho : (FloatKind.f64.format.order a 4503599627370496 == some Ordering.lt) = true := by
    rw [Flt.ord_lt (by omega) (by decide), Flt.key_small (a := a) (by omega), Flt.key_small (a := 4503599627370496) (by decide), Flt.num_small (by omega), Flt.num_small (by decide)]
    simp; omega
  have hm : floatBits .mul .f64 a 4841369599423283200 = some (Flt.rungOf a 52) := Flt.mul52 h1 h2
  have hrun := fun W => run_float_arith (P := Tryz.prog) W .mul 26 .f64 a 4841369599423283200 _ hm
  have HA := abs_any a (by omega)
  rw [hr] at HA
  clear hr hm
  go_enter Tryz.func161, Tryz.ntmps161
  go_wp2_with (go_at_call 100; refine (HA _).mono ?_; rintro e w' ⟨rfl, rfl⟩)
  go_ret2
  exact ⟨rfl, rfl⟩
end Go.Proofs.YtnjlcdemfdokoaaGreatDoor
