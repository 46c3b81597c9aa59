import Derived.Test.YtnjlcdemfdokoaaGreatDoorVe
import Derived.Test.YtnjlcdemfdokoaaGreatDoorWp
namespace Go.Proofs.YtnjlcdemfdokoaaGreatDoor
open Go Go.RowKit
set_option linter.unusedVariables false
theorem bl_irr : ∀ x : List UInt8, Op.bytesLess x x = false
  | [] => rfl
  | a :: x => by simp [Op.bytesLess, bl_irr x]
theorem bl_tri : ∀ x y : List UInt8, (Op.bytesLess x y = true ∧ Op.bytesLess y x = false ∧ x ≠ y) ∨ (Op.bytesLess x y = false ∧ Op.bytesLess y x = true ∧ x ≠ y) ∨ (Op.bytesLess x y = false ∧ Op.bytesLess y x = false ∧ x = y)
  | [], [] => by simp [Op.bytesLess]
  | [], _ :: _ => by simp [Op.bytesLess]
  | _ :: _, [] => by simp [Op.bytesLess]
  | a :: x, b :: y => by
    have h := bl_tri x y
    by_cases e : a = b
    · subst e
      simp [Op.bytesLess]
      rcases h with h | h | h <;> simp [h, bl_irr]
    · have e' : ¬ b = a := fun q => e q.symm
      simp [Op.bytesLess, e, e']
      have : a.toNat ≠ b.toNat := fun q => e (UInt8.toNat_inj.1 q)
      simp only [UInt8.lt_iff_toNat_lt, UInt8.le_iff_toNat_le]
      omega
theorem bl_trans : ∀ x y z : List UInt8, Op.bytesLess x y = true → Op.bytesLess y z = true → Op.bytesLess x z = true
  | x, [], z, h, _ => by cases x <;> simp [Op.bytesLess] at h
  | x, b :: y, [], _, h => by simp [Op.bytesLess] at h
  | [], b :: y, c :: z, _, _ => by simp [Op.bytesLess]
  | a :: x, b :: y, c :: z, h1, h2 => by
    have ih := bl_trans x y z
    simp only [Op.bytesLess, Bool.or_eq_true, Bool.and_eq_true, decide_eq_true_eq, beq_iff_eq] at h1 h2 ⊢
    rcases h1 with h1 | ⟨rfl, h1⟩
    · rcases h2 with h2 | ⟨rfl, h2⟩
      · left
        simp only [UInt8.lt_iff_toNat_lt] at *
        omega
      · left; exact h1
    · rcases h2 with h2 | ⟨rfl, h2⟩
      · left; exact h2
      · right; exact ⟨rfl, ih h1 h2⟩
theorem kb_inj {a b : Nat} (ha : a < 18446744073709551616) (hb : b < 18446744073709551616) (h : Flt.kbits a = Flt.kbits b) : Flt.canon a = Flt.canon b := by
  rw [← Flt.okb_kbits ha, ← Flt.okb_kbits hb, h]
theorem kb_eq {a b : Nat} (ha : a < 18446744073709551616) (hb : b < 18446744073709551616) : Flt.kbits a = Flt.kbits b ↔ Flt.canon a = Flt.canon b :=
  ⟨kb_inj ha hb, fun h => by rw [← Flt.kbits_canon a, ← Flt.kbits_canon b, h]⟩
/-- one of two is less, or they are the same -/
theorem less_tri (k n : Int) (f : Nat) (s : ByteArray) (k' n' : Int) (f' : Nat) (s' : ByteArray) (hf : f < 18446744073709551616) (hf' : f' < 18446744073709551616) :
    (lessB k n f s k' n' f' s' = true ∧ lessB k' n' f' s' k n f s = false ∧ idB k n (Flt.canon f) s k' n' (Flt.canon f') s' = false) ∨ (lessB k n f s k' n' f' s' = false ∧ lessB k' n' f' s' k n f s = true ∧ idB k n (Flt.canon f) s k' n' (Flt.canon f') s' = false) ∨ (lessB k n f s k' n' f' s' = false ∧ lessB k' n' f' s' k n f s = false ∧ idB k n (Flt.canon f) s k' n' (Flt.canon f') s' = true) := by
  have hk := kb_eq hf hf'
  have hs := bl_tri s.toList s'.toList
  unfold lessB idB
  by_cases e1 : k = k'
  · subst e1
    by_cases e2 : n = n'
    · subst e2
      by_cases e3 : Flt.kbits f = Flt.kbits f'
      · have e4 := hk.1 e3
        simp only [e3, e4, if_true, beq_self_eq_true, Bool.true_and]
        rcases hs with h | h | h <;> simp [h, bl_irr]
      · have e4 : ¬ Flt.canon f = Flt.canon f' := fun q => e3 (hk.2 q)
        have e3' : ¬ Flt.kbits f' = Flt.kbits f := fun q => e3 q.symm
        simp [e3, e3', e4]; omega
    · have e2' : ¬ n' = n := fun q => e2 q.symm
      simp [e2, e2']; omega
  · have e1' : ¬ k' = k := fun q => e1 q.symm
    simp [e1, e1']; omega
theorem less_irr (k n : Int) (f : Nat) (s : ByteArray) : lessB k n f s k n f s = false := by simp [lessB, bl_irr]
theorem less_trans (k n : Int) (f : Nat) (s : ByteArray) (k' n' : Int) (f' : Nat) (s' : ByteArray) (k'' n'' : Int) (f'' : Nat) (s'' : ByteArray) (h1 : lessB k n f s k' n' f' s' = true) (h2 : lessB k' n' f' s' k'' n'' f'' s'' = true) : lessB k n f s k'' n'' f'' s'' = true := by
  have ht := bl_trans s.toList s'.toList s''.toList
  unfold lessB at *
  (repeat' split at h1) <;> (repeat' split at h2) <;> (repeat' split) <;> simp_all <;> omega
end Go.Proofs.YtnjlcdemfdokoaaGreatDoor
