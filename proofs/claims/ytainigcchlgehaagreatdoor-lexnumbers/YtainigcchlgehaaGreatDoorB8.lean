import Derived.Test.YtainigcchlgehaaGreatDoorB7
import Derived.Test.YtainigcchlgehaaGreatDoorB5
namespace Go.Proofs.YtainigcchlgehaaGreatDoor
open Go Go.RowKit
set_option linter.unusedVariables false
/-- what less tells of an order -/
def LessT (o : Int) (a b ok : Bool) : Prop := (ok = false ∧ (o = 2 ∨ o = -2)) ∨ (ok = true ∧ a = (o == -1) ∧ b = (o == 0) ∧ (o = -1 ∨ o = 0 ∨ o = 1))
theorem cmp3_three (x y : Int) : Flt.cmp3 x y = -1 ∨ Flt.cmp3 x y = 0 ∨ Flt.cmp3 x y = 1 := by
  have := cmp3_bd x y; omega
theorem lessT_c (c : Int) (h : c = -1 ∨ c = 0 ∨ c = 1) : LessT c (decide (c < 0)) (c == 0) true := by
  rcases h with rfl | rfl | rfl <;> exact .inr ⟨rfl, by decide, by decide, by decide⟩
theorem lessT_n (c : Int) (h : c = -1 ∨ c = 0 ∨ c = 1) : LessT (-c) (decide (0 < c)) (c == 0) true := by
  rcases h with rfl | rfl | rfl <;> exact .inr ⟨rfl, by decide, by decide, by decide⟩
theorem lessT_s (s s' : ByteArray) : LessT (cmpS s s') (Op.bytesLess s.toList s'.toList) (s.toList == s'.toList) true := by
  refine .inr ⟨rfl, ?_⟩
  unfold cmpS
  rcases bl_tri s.toList s'.toList with ⟨h1, h2, h3⟩ | ⟨h1, h2, h3⟩ | ⟨h1, h2, h3⟩
  · simp [h1, h3]
  · simp [h1, h3]
  · simp [h3, bl_irr]
theorem shl1 (x : Nat) (hx : x < 18446744073709551616) : (IntKind.u64.wrap ((x : Int) * 2) == 0) = decide (x = 0 ∨ x = 9223372036854775808) := by
  rw [IntKind.wrap_u64, Bool.eq_iff_iff]
  simp only [beq_iff_eq, decide_eq_true_eq]
  omega
theorem cmp3_lt0 (x y : Int) : decide (Flt.cmp3 x y < 0) = decide (x < y) := by
  unfold Flt.cmp3; rw [decide_eq_decide]; (repeat' split) <;> omega
theorem cmp3_eq0 (x y : Int) : (Flt.cmp3 x y == 0) = decide (x = y) := by
  unfold Flt.cmp3; rw [Bool.eq_iff_iff, beq_iff_eq, decide_eq_true_iff]; (repeat' split) <;> omega
theorem cmp3_m1 (x y : Int) : (Flt.cmp3 x y == -1) = decide (x < y) := by
  unfold Flt.cmp3; rw [Bool.eq_iff_iff, beq_iff_eq, decide_eq_true_iff]; (repeat' split) <;> omega
theorem lessT_cmp (x y : Int) : LessT (Flt.cmp3 x y) (decide (x < y)) (x == y) true :=
  .inr ⟨rfl, (cmp3_m1 x y).symm, (cmp3_eq0 x y).symm, cmp3_three x y⟩
theorem keys_zero (f f' : Nat) (hf : f < 18446744073709551616) (hf' : f' < 18446744073709551616) (hn : Flt.isNan f = false) (hm : Flt.isNan f' = false) :
    ((f = 0 ∨ f = 9223372036854775808) ∧ (f' = 0 ∨ f' = 9223372036854775808) → Flt.key f = Flt.key f') ∧
    (¬ ((f = 0 ∨ f = 9223372036854775808) ∧ (f' = 0 ∨ f' = 9223372036854775808)) → (((Flt.kbits f : Nat) : Int) < (Flt.kbits f' : Nat) ↔ Flt.key f < Flt.key f') ∧ (((Flt.kbits f : Nat) : Int) = (Flt.kbits f' : Nat) ↔ Flt.key f = Flt.key f')) := by
  have hkf : Flt.kbits f = if 9223372036854775808 ≤ f then 18446744073709551615 - f else f + 9223372036854775808 := by unfold Flt.kbits; rw [if_neg (by simp [hn])]
  have hkf' : Flt.kbits f' = if 9223372036854775808 ≤ f' then 18446744073709551615 - f' else f' + 9223372036854775808 := by unfold Flt.kbits; rw [if_neg (by simp [hm])]
  rw [hkf, hkf']
  unfold Flt.key Flt.rung
  constructor
  · intro h
    by_cases a1 : 9223372036854775808 ≤ f <;> by_cases a2 : 9223372036854775808 ≤ f' <;> simp only [a1, a2, if_true, if_false] <;> omega
  · intro h
    by_cases a1 : 9223372036854775808 ≤ f <;> by_cases a2 : 9223372036854775808 ≤ f' <;> simp only [a1, a2, if_true, if_false] <;> omega
theorem lessT_f (f f' : Nat) (hf : f < 18446744073709551616) (hf' : f' < 18446744073709551616) (zx zy c1 c2 : Bool) (hx : (IntKind.u64.wrap ((Flt.canon f : Nat) * 2 : Int) == 0) = zx) (hy : (IntKind.u64.wrap ((Flt.canon f' : Nat) * 2 : Int) == 0) = zy)
    (h1 : decide (Flt.rord f f' < 0) = c1) (h2 : (Flt.rord f f' == 0) = c2) : LessT (fOrd f f') (c1 && !(zx && zy)) (c2 || (zx && zy)) (!Flt.isNan f && !Flt.isNan f') := by
  unfold fOrd
  cases hn : Flt.isNan f
  · cases hm : Flt.isNan f'
    · rw [if_neg (by simp)]
      rw [shl1 _ (Flt.canon_lt hf), Flt.canon_num hn] at hx
      rw [shl1 _ (Flt.canon_lt hf'), Flt.canon_num hm] at hy
      rw [Flt.rord_eq f f' hf hf', cmp3_lt0] at h1
      rw [Flt.rord_eq f f' hf hf', cmp3_eq0] at h2
      obtain ⟨k1, k2⟩ := keys_zero f f' hf hf' hn hm
      refine .inr ⟨rfl, ?_, ?_, cmp3_three _ _⟩
      · rw [cmp3_m1, ← hx, ← hy, ← h1]
        by_cases hz : (f = 0 ∨ f = 9223372036854775808) ∧ (f' = 0 ∨ f' = 9223372036854775808)
        · rw [k1 hz, decide_eq_true hz.1, decide_eq_true hz.2]; simp
        · have e : (decide (f = 0 ∨ f = 9223372036854775808) && decide (f' = 0 ∨ f' = 9223372036854775808)) = false := by
            rw [← Bool.decide_and]; exact decide_eq_false hz
          rw [e, Bool.not_false, Bool.and_true, decide_eq_decide]
          exact (k2 hz).1
      · rw [cmp3_eq0, ← hx, ← hy, ← h2]
        by_cases hz : (f = 0 ∨ f = 9223372036854775808) ∧ (f' = 0 ∨ f' = 9223372036854775808)
        · rw [k1 hz, decide_eq_true hz.1, decide_eq_true hz.2]; simp
        · have e : (decide (f = 0 ∨ f = 9223372036854775808) && decide (f' = 0 ∨ f' = 9223372036854775808)) = false := by
            rw [← Bool.decide_and]; exact decide_eq_false hz
          rw [e, Bool.or_false, decide_eq_decide]
          exact (k2 hz).2
    · rw [if_pos (by simp)]; exact .inl ⟨by simp, .inl rfl⟩
  · rw [if_pos (by simp)]; exact .inl ⟨by simp, .inl rfl⟩
end Go.Proofs.YtainigcchlgehaaGreatDoor


