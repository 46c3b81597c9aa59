import Derived.Test.YtnjlcdemfdokoaaGreatDoorBK
import Derived.Test.YtnjlcdemfdokoaaGreatDoorB5
namespace Go.Proofs.YtnjlcdemfdokoaaGreatDoor
open Go Go.RowKit
set_option linter.unusedVariables false
theorem cmp3_neg (x y : Int) : Flt.cmp3 y x = -Flt.cmp3 x y := by unfold Flt.cmp3; (repeat' split) <;> omega
theorem cmp3_all (x y : Int) : Flt.cmp3 x y = -1 ∨ Flt.cmp3 x y = 0 ∨ Flt.cmp3 x y = 1 := by
  have := cmp3_bd x y; omega
theorem cmpS_neg (s s' : ByteArray) : cmpS s' s = -cmpS s s' := by
  unfold cmpS
  rcases bl_tri s.toList s'.toList with ⟨h1, h2, h3⟩ | ⟨h1, h2, h3⟩ | ⟨h1, h2, h3⟩
  · have h4 : ¬ s'.toList = s.toList := fun e => h3 e.symm
    rw [h1, h2, if_neg (by decide), if_neg h4, if_pos rfl]
    rfl
  · rw [h1, h2, if_pos rfl, if_neg (by decide), if_neg h3]
  · rw [h1, h2, h3]; simp
theorem cmpS_all (s s' : ByteArray) : cmpS s s' = -1 ∨ cmpS s s' = 0 ∨ cmpS s s' = 1 := by unfold cmpS; (repeat' split) <;> simp
/-- how two values are to each other: nans, the others; and turned round -/
theorem ord_all (k n k' n' : Int) (f f' : Nat) (s s' : ByteArray) (hk : k = k' ∨ (numB k && numB k') = true) :
    (((k = 3 ∧ Flt.isNan f = true) ∨ (k' = 3 ∧ Flt.isNan f' = true)) ∧ (ordI k n f s k' n' f' s' = 2 ∨ ordI k n f s k' n' f' s' = -2) ∧ (ordI k' n' f' s' k n f s = 2 ∨ ordI k' n' f' s' k n f s = -2)) ∨
    ((¬ (k = 3 ∧ Flt.isNan f = true) ∧ ¬ (k' = 3 ∧ Flt.isNan f' = true)) ∧ (ordI k n f s k' n' f' s' = -1 ∨ ordI k n f s k' n' f' s' = 0 ∨ ordI k n f s k' n' f' s' = 1) ∧ ordI k' n' f' s' k n f s = -ordI k n f s k' n' f' s') := by
  unfold ordI
  by_cases h4 : k = 4
  · subst h4
    have h4' : k' = 4 := by
      rcases hk with h | h
      · exact h.symm
      · simp [numB] at h
    subst h4'
    refine .inr ⟨⟨by omega, by omega⟩, ?_⟩
    simp only [if_true]
    exact ⟨cmpS_all s s', cmpS_neg s s'⟩
  by_cases h3 : k = 3
  · subst h3
    by_cases h3' : k' = 3
    · subst h3'
      simp only [show ¬ ((3 : Int) = 4) by decide, if_false, and_self, if_true, true_and]
      unfold fOrd
      cases hn : Flt.isNan f <;> cases hm : Flt.isNan f'
      · refine .inr ⟨by simp, ?_⟩
        simp only [Bool.false_eq_true, or_self, if_false]
        exact ⟨cmp3_all _ _, cmp3_neg _ _⟩
      · exact .inl ⟨by simp, by simp, by simp⟩
      · exact .inl ⟨by simp, by simp, by simp⟩
      · exact .inl ⟨by simp, by simp, by simp⟩
    · have h2 : k' = 2 := by
        rcases hk with h | h
        · exact absurd h.symm h3'
        · simp [numB] at h; rcases h with h | h
          · exact h
          · exact absurd h h3'
      subst h2
      simp only [show ¬ ((3 : Int) = 4) by decide, show ¬ ((2 : Int) = 4) by decide, show ¬ ((2 : Int) = 3) by decide, and_false, false_and, if_false, if_true, true_and, or_false, not_false_eq_true, and_true]
      unfold mOrd
      cases hn : Flt.isNan f
      · refine .inr ⟨by simp, ?_⟩
        simp only [Bool.false_eq_true, if_false]
        have := cmp3_all (n' * ((2 ^ Flt.K : Nat) : Int)) (Flt.sv f)
        generalize Flt.cmp3 (n' * ((2 ^ Flt.K : Nat) : Int)) (Flt.sv f) = c at *
        omega
      · exact .inl ⟨by simp, by simp, by simp⟩
  · by_cases h3' : k' = 3
    · subst h3'
      have h2 : k = 2 := by
        rcases hk with h | h
        · exact absurd h h3
        · simp [numB] at h; rcases h with h | h
          · exact h
          · exact absurd h h3
      subst h2
      simp only [show ¬ ((3 : Int) = 4) by decide, show ¬ ((2 : Int) = 4) by decide, show ¬ ((2 : Int) = 3) by decide, and_false, false_and, if_false, if_true, true_and, false_or, not_false_eq_true]
      unfold mOrd
      cases hn : Flt.isNan f'
      · refine .inr ⟨by simp, ?_⟩
        simp only [Bool.false_eq_true, if_false]
        first | exact ⟨cmp3_all _ _, rfl⟩ | exact ⟨cmp3_all _ _, trivial⟩ | exact cmp3_all _ _
      · exact .inl ⟨by simp, by simp, by simp⟩
    · have h4' : ¬ k' = 4 := by
        rcases hk with h | h
        · rw [← h]; exact h4
        · intro e; rw [e] at h; simp [numB] at h
      refine .inr ⟨⟨fun h => h3 h.1, fun h => h3' h.1⟩, ?_⟩
      simp only [h4, h4', h3, h3', and_self, if_false]
      exact ⟨cmp3_all _ _, cmp3_neg _ _⟩
theorem opI_six (j : Nat) (h : j < 6) : opI (opAt j) = j + 1 := by
  have e : j = 0 ∨ j = 1 ∨ j = 2 ∨ j = 3 ∨ j = 4 ∨ j = 5 := by omega
  rcases e with rfl | rfl | rfl | rfl | rfl | rfl <;> simp [opAt, opsL, opI, Lib.toList_data]
theorem opI_gt : opI ⟨#[62]⟩ = 5 := by simp [opI, Lib.toList_data]
end Go.Proofs.YtnjlcdemfdokoaaGreatDoor
