import Derived.Test.YtnjlcdemfdokoaaGreatDoorWb
namespace Go.Proofs.YtnjlcdemfdokoaaGreatDoor
open Go
namespace Flt
theorem canon_num {a : Nat} (hn : isNan a = false) : canon a = a := by unfold canon; rw [hn]; rfl
theorem canon_nan {a : Nat} (hn : isNan a = true) : canon a = 9221120237041090561 := by unfold canon; rw [hn]; rfl
theorem isNan_canon {a : Nat} : isNan (canon a) = isNan a := by
  cases hn : isNan a
  · rw [canon_num hn, hn]
  · rw [canon_nan hn]; decide
theorem canon_lt {a : Nat} (ha : a < 18446744073709551616) : canon a < 18446744073709551616 := by
  unfold canon; split
  · decide
  · exact ha
theorem kbits_lt (a : Nat) (ha : a < 18446744073709551616) : kbits a < 18446744073709551616 := by
  unfold kbits; (repeat' split) <;> omega
/-- the document's order, by bits -/
def rord (a b : Nat) : Int := if canon a = canon b then 0 else if isNan a = true then 1 else if isNan b = true then -1 else
  if 9223372036854775808 ≤ a then (if 9223372036854775808 ≤ b then (if a < b then 1 else -1) else -1) else (if 9223372036854775808 ≤ b then 1 else if a < b then -1 else 1)
theorem rord_eq (a b : Nat) (ha : a < 18446744073709551616) (hb : b < 18446744073709551616) : rord a b = cmp3 (kbits a : Nat) (kbits b : Nat) := by
  unfold rord
  cases hn : isNan a <;> cases hm : isNan b
  · rw [canon_num hn, canon_num hm]
    unfold cmp3 kbits
    simp only [hn, hm, Bool.false_eq_true, if_false]
    (repeat' split) <;> omega
  · rw [canon_num hn, canon_nan hm, kbits_nan hm]
    have hne : a ≠ 9221120237041090561 := by intro e; subst e; revert hn; decide
    have hk : kbits a < 18446744073709551615 := by
      unfold kbits
      simp only [hn, Bool.false_eq_true, if_false]
      unfold isNan rung at hn
      simp only [decide_eq_false_iff_not] at hn
      split <;> omega
    rw [if_neg hne, if_neg (by decide), if_pos rfl]
    unfold cmp3
    rw [if_pos (by omega)]
  · rw [canon_nan hn, canon_num hm, kbits_nan hn]
    have hne : ¬ 9221120237041090561 = b := by intro e; subst e; revert hm; decide
    have hk : kbits b < 18446744073709551615 := by
      unfold kbits
      simp only [hm, Bool.false_eq_true, if_false]
      unfold isNan rung at hm
      simp only [decide_eq_false_iff_not] at hm
      split <;> omega
    rw [if_neg hne, if_pos rfl]
    unfold cmp3
    rw [if_neg (by omega), if_pos (by omega)]
  · rw [canon_nan hn, canon_nan hm, kbits_nan hn, kbits_nan hm]
    rfl
end Flt
theorem rorder_any (a b : Nat) (ha : a < 18446744073709551616) (hb : b < 18446744073709551616) (w : World) :
    Calls Tryz.prog 48 #[.float .f64 a, .float .f64 b] w fun e w' => e = .returned (.int .i64 (Flt.rord a b)) ∧ w = w' := by
  by_cases h0 : Flt.canon a = Flt.canon b
  · have hr : Flt.rord a b = 0 := by unfold Flt.rord; rw [if_pos h0]
    rw [hr]
    have hb2 : (((Flt.canon a : Nat) : Int) == (Flt.canon b : Nat)) = true := by simp; omega
    clear hr h0
    go_enter Tryz.func48, Tryz.ntmps48
    go_wp2_with fail
    refine (rbits_any a ha _).mono ?_; rintro e w' ⟨rfl, rfl⟩
    go_wp2_with fail
    refine (rbits_any b hb _).mono ?_; rintro e w' ⟨rfl, rfl⟩
    go_wp2_with fail
    go_ret
    exact ⟨rfl, rfl⟩
  have hb2 : (((Flt.canon a : Nat) : Int) == (Flt.canon b : Nat)) = false := by simp; omega
  cases hn : Flt.isNan a
  · cases hm : Flt.isNan b
    · have ea := Flt.canon_num hn
      have eb := Flt.canon_num hm
      rw [ea, eb] at h0 hb2
      have hr : Flt.rord a b = if 9223372036854775808 ≤ a then (if 9223372036854775808 ≤ b then (if a < b then 1 else -1) else -1) else (if 9223372036854775808 ≤ b then 1 else if a < b then -1 else 1) := by
        unfold Flt.rord; rw [ea, eb, if_neg h0]; simp [hn, hm]
      have HR := Lib.hid hr
      have HA := Lib.hid ea
      have HB := Lib.hid eb
      clear hr ea eb h0
      have t1 : (((a : Int) / 9223372036854775808 == 1) : Bool) = decide (9223372036854775808 ≤ a) := by rw [Bool.eq_iff_iff]; simp; omega
      have t2 : (((b : Int) / 9223372036854775808 == 1) : Bool) = decide (9223372036854775808 ≤ b) := by rw [Bool.eq_iff_iff]; simp; omega
      by_cases s1 : 9223372036854775808 ≤ a
      all_goals by_cases s2 : 9223372036854775808 ≤ b
      all_goals by_cases s3 : a < b
      all_goals
        simp only [s1, s2, decide_true, decide_false] at t1 t2
        go_enter Tryz.func48, Tryz.ntmps48
        go_wp2_with fail
        refine (rbits_any a ha _).mono ?_; rintro e w' ⟨rfl, rfl⟩
        rw [HA.out]
        go_wp2_with fail
        refine (rbits_any b hb _).mono ?_; rintro e w' ⟨rfl, rfl⟩
        rw [HB.out]
        go_wp2_with fail
        refine (rnan_any a ha _).mono ?_; rintro e w' ⟨rfl, rfl⟩
        go_wp2_with fail
        refine (rnan_any b hb _).mono ?_; rintro e w' ⟨rfl, rfl⟩
        go_wp2_with fail
        go_ret
        exact ⟨ret_int (by rw [HR.out]; (repeat' split) <;> first | rfl | omega), rfl⟩
    · have hr : Flt.rord a b = -1 := by unfold Flt.rord; rw [if_neg h0]; simp [hn, hm]
      rw [hr]
      clear hr h0
      go_enter Tryz.func48, Tryz.ntmps48
      go_wp2_with fail
      refine (rbits_any a ha _).mono ?_; rintro e w' ⟨rfl, rfl⟩
      go_wp2_with fail
      refine (rbits_any b hb _).mono ?_; rintro e w' ⟨rfl, rfl⟩
      go_wp2_with fail
      refine (rnan_any a ha _).mono ?_; rintro e w' ⟨rfl, rfl⟩
      go_wp2_with fail
      refine (rnan_any b hb _).mono ?_; rintro e w' ⟨rfl, rfl⟩
      go_wp2_with fail
      go_ret
      exact ⟨rfl, rfl⟩
  · have hr : Flt.rord a b = 1 := by unfold Flt.rord; rw [if_neg h0]; simp [hn]
    rw [hr]
    clear hr h0
    go_enter Tryz.func48, Tryz.ntmps48
    go_wp2_with fail
    refine (rbits_any a ha _).mono ?_; rintro e w' ⟨rfl, rfl⟩
    go_wp2_with fail
    refine (rbits_any b hb _).mono ?_; rintro e w' ⟨rfl, rfl⟩
    go_wp2_with fail
    refine (rnan_any a ha _).mono ?_; rintro e w' ⟨rfl, rfl⟩
    go_wp2_with fail
    refine (rnan_any b hb _).mono ?_; rintro e w' ⟨rfl, rfl⟩
    go_wp2_with fail
    go_ret
    exact ⟨rfl, rfl⟩
end Go.Proofs.YtnjlcdemfdokoaaGreatDoor
