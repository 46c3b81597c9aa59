import Derived.Test.YtnjlcdemfdokoaaGreatDoorWe
import Derived.Test.YtnjlcdemfdokoaaGreatDoorShelf
namespace Go.Proofs.YtnjlcdemfdokoaaGreatDoor
open Go
namespace Flt
/-- the significand of a positive finite float, moved up to fifty-three bits -/
def nm (a : Nat) : Nat := mant a * 2 ^ (52 - (mant a).log2)
def fe (a : Nat) : Int := (xp a : Int) + (mant a).log2 - 1073
theorem nm_bounds {a : Nat} (h1 : 0 < a) : 4503599627370496 ≤ nm a ∧ nm a < 9007199254740992 := norm_mant (mant_pos h1) (mant_lt a)
theorem mant_norm {a : Nat} (h : 4503599627370496 ≤ a) : mant a = 4503599627370496 + a % 4503599627370496 := by unfold mant; rw [if_neg (by omega)]
theorem log2_norm {m : Nat} (h1 : 4503599627370496 ≤ m) (h2 : m < 9007199254740992) : m.log2 = 52 := by
  have := log2_le52 (by omega) h2
  have h3 : 52 ≤ m.log2 := (Nat.le_log2 (by omega)).2 (by simpa using h1)
  omega
theorem nm_norm {a : Nat} (h : 4503599627370496 ≤ a) : nm a = 4503599627370496 + a % 4503599627370496 := by
  unfold nm
  rw [log2_norm (m := mant a) (by rw [mant_norm h]; omega) (mant_lt a), mant_norm h]
  simp
theorem sub_facts {a : Nat} (h1 : 0 < a) (h2 : a < 4503599627370496) :
    mant a = a ∧ xp a = 0 ∧ rungOf a 52 / 4503599627370496 = a.log2 + 1 ∧ rungOf a 52 % 4503599627370496 = nm a - 4503599627370496 ∧ 4503599627370496 ≤ rungOf a 52 ∧ rungOf a 52 < 9218868437227405312 := by
  have e1 : mant a = a := by unfold mant; rw [if_pos h2]
  have e2 : xp a = 0 := by unfold xp; omega
  have ⟨b1, b2⟩ := nm_bounds h1
  have hl := log2_le52 (m := a) h1 (by omega)
  have e3 : rungOf a 52 = (a.log2 + 1) * 4503599627370496 + (nm a - 4503599627370496) := by
    unfold rungOf nm
    rw [if_neg (by omega), e1, show 52 + a.log2 - 51 = a.log2 + 1 from by omega]
  refine ⟨e1, e2, ?_, ?_, ?_, ?_⟩ <;> rw [e3] <;> omega
end Flt
theorem frexp_any (a : Nat) (h1 : 0 < a) (h2 : a < 9218868437227405312) (w : World) :
    Calls Tryz.prog 143 #[.float .f64 a] w fun e w' => e = .returned (.tuple #[.float .f64 (4602678819172646912 + (Flt.nm a - 4503599627370496)), .int .i64 (Flt.fe a)]) ∧ w = w' := by
  by_cases hs : a < 4503599627370496
  · obtain ⟨e1, e2, e3, e4, e5, e6⟩ := Flt.sub_facts h1 hs
    have h := frexp_core a (Flt.rungOf a 52) (-52) h1 h2 e5 e6 (by omega) (by omega) (fun w => normalize_s a h1 hs w) w
    rw [e3, e4] at h
    have e7 : (-52 : Int) + ((a.log2 + 1 : Nat) : Int) - 1022 = Flt.fe a := by unfold Flt.fe; rw [e1, e2]; omega
    rw [e7] at h
    exact h
  · have h := frexp_core a a 0 h1 h2 (by omega) h2 (by omega) (by omega) (fun w => normalize_n a (by omega) h2 w) w
    have e7 : (0 : Int) + ((a / 4503599627370496 : Nat) : Int) - 1022 = Flt.fe a := by
      unfold Flt.fe
      rw [Flt.log2_norm (m := Flt.mant a) (by rw [Flt.mant_norm (by omega)]; omega) (Flt.mant_lt a)]
      unfold Flt.xp; omega
    have e8 : a % 4503599627370496 = Flt.nm a - 4503599627370496 := by rw [Flt.nm_norm (by omega)]; omega
    rw [e7, e8] at h
    exact h
theorem Frexp_any (a : Nat) (h1 : 0 < a) (h2 : a < 9218868437227405312) (w : World) :
    Calls Tryz.prog 125 #[.float .f64 a] w fun e w' => e = .returned (.tuple #[.float .f64 (4602678819172646912 + (Flt.nm a - 4503599627370496)), .int .i64 (Flt.fe a)]) ∧ w = w' := by
  have H := frexp_any a h1 h2
  generalize 4602678819172646912 + (Flt.nm a - 4503599627370496) = z at *
  go_enter Tryz.func125, Tryz.ntmps125
  go_wp2_with (go_at_call 143; refine (H _).mono ?_; rintro e w' ⟨rfl, rfl⟩)
  go_ret2
  exact ⟨rfl, rfl⟩
/-- a half to one, times 2 to the power of 53 -/
theorem Ldexp_53 (f : Nat) (hf : f < 4503599627370496) (w : World) :
    Calls Tryz.prog 126 #[.float .f64 (4602678819172646912 + f), .int .i64 53] w fun e w' => e = .returned (.float .f64 (4841369599423283200 + f)) ∧ w = w' := by
  have H : ∀ w, Calls Tryz.prog 145 #[.float .f64 (4602678819172646912 + f), .int .i64 53] w fun e w' => e = .returned (.float .f64 (4841369599423283200 + f)) ∧ w = w' := by
    intro w
    have e1 : (4602678819172646912 + f) / 4503599627370496 = 1022 := by omega
    have e2 : (4602678819172646912 + f) % 4503599627370496 = f := by omega
    have h := ldexp_mid (4602678819172646912 + f) (4602678819172646912 + f) 0 53 (by omega) (by omega) (by omega) (by omega) (by omega) (by omega) (by omega) (by omega) (fun w => normalize_n _ (by omega) (by omega) w) (by rw [e1]; decide) (by rw [e1]; decide) w
    rw [e1, e2] at h
    exact h
  generalize 4602678819172646912 + f = z at *
  generalize 4841369599423283200 + f = y at *
  clear hf
  go_enter Tryz.func126, Tryz.ntmps126
  go_wp2_with (go_at_call 145; refine (H _).mono ?_; rintro e w' ⟨rfl, rfl⟩)
  go_ret
  exact ⟨rfl, rfl⟩
theorem Flt.toInt_1075 {f : Nat} (hf : f < 4503599627370496) : floatToIntVal .f64 (4841369599423283200 + f) .u64 = some ((4503599627370496 + f : Nat) : Int) := by
  have hr : Flt.rung (4841369599423283200 + f) = 4841369599423283200 + f := Flt.rung_small (by omega)
  have h := Flt.read_fin (a := 4841369599423283200 + f) (by omega) (by rw [hr]; omega)
  rw [hr, Flt.neg_small (by omega), Flt.mant_norm (by omega)] at h
  have e1 : Flt.xp (4841369599423283200 + f) = 1074 := by unfold Flt.xp; omega
  rw [e1] at h
  unfold floatToIntVal
  have h' : FloatKind.f64.decode (4841369599423283200 + f) = .number false (4503599627370496 + (4841369599423283200 + f) % 4503599627370496) 0 := h
  rw [h', show 4503599627370496 + (4841369599423283200 + f) % 4503599627370496 = 4503599627370496 + f from by omega]
  have h2 : (Ieee.Datum.number false (4503599627370496 + f) 0).toInt .zero = some ((4503599627370496 + f : Nat) : Int) := by
    simp only [Ieee.Datum.toInt, Ieee.Datum.integral, Ieee.Toward.cut, Ieee.signed]
    simp
  rw [h2]
  simp only []
  rw [if_pos]
  have u1 : IntKind.u64.min = 0 := by decide
  rw [u1, Flt.u64max]
  omega
end Go.Proofs.YtnjlcdemfdokoaaGreatDoor
