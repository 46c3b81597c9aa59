import Derived.Test.YtcbogapnhabhkaaPL
namespace Go.Proofs.Ytcbogapnhabhkaa
open Go Go.RowKit
set_option linter.unusedVariables false
theorem dig_mod (k n : Nat) : dig k (n % 256 ^ k) = dig k n := by
  have key : ∀ (k m n : Nat), n % 256 ^ k = m % 256 ^ k → dig k n = dig k m := by
    intro k
    induction k with
    | zero => intros; rfl
    | succ k ih =>
      intro m n h
      have h1 : n % 256 ^ k = m % 256 ^ k := by
        have := congrArg (· % 256 ^ k) h
        simp only [Nat.pow_succ, Nat.mod_mul_right_mod] at this
        exact this
      have h2 : n / 256 ^ k % 256 = m / 256 ^ k % 256 := by
        have := congrArg (· / 256 ^ k) h
        simp only [Nat.pow_succ, Nat.mod_mul_right_div_self] at this
        exact this
      simp only [dig]
      rw [ih m n h1]
      congr 1
      apply UInt8.toNat_inj.1
      simp [h2]
  exact key k n _ (Nat.mod_mod _ _)
theorem dig_less : ∀ (k a b : Nat), a < 256 ^ k → b < 256 ^ k → Op.bytesLess (dig k a) (dig k b) = decide (a < b) := by
  intro k
  induction k with
  | zero => intro a b ha hb; simp at ha hb; subst ha; subst hb; rfl
  | succ k ih =>
    intro a b ha hb
    have hp : 0 < 256 ^ k := Nat.pow_pos (by decide)
    have qa : a / 256 ^ k < 256 := by rw [Nat.div_lt_iff_lt_mul hp]; rw [Nat.pow_succ, Nat.mul_comm] at ha; exact ha
    have qb : b / 256 ^ k < 256 := by rw [Nat.div_lt_iff_lt_mul hp]; rw [Nat.pow_succ, Nat.mul_comm] at hb; exact hb
    have ea := Nat.div_add_mod a (256 ^ k)
    have eb := Nat.div_add_mod b (256 ^ k)
    have ra := Nat.mod_lt a hp
    have rb := Nat.mod_lt b hp
    have ih' := ih (a % 256 ^ k) (b % 256 ^ k) ra rb
    rw [dig_mod, dig_mod] at ih'
    have ta : (UInt8.ofNat (a / 256 ^ k)).toNat = a / 256 ^ k := by simp; omega
    have tb : (UInt8.ofNat (b / 256 ^ k)).toNat = b / 256 ^ k := by simp; omega
    show Op.bytesLess (UInt8.ofNat (a / 256 ^ k) :: dig k a) (UInt8.ofNat (b / 256 ^ k) :: dig k b) = _
    simp only [Op.bytesLess, ih', UInt8.lt_iff_toNat_lt, ta, tb]
    have hq : (UInt8.ofNat (a / 256 ^ k) == UInt8.ofNat (b / 256 ^ k)) = decide (a / 256 ^ k = b / 256 ^ k) := by
      rw [Bool.eq_iff_iff, beq_iff_eq, ← UInt8.toNat_inj, ta, tb, decide_eq_true_eq]
    rw [hq]
    generalize 256 ^ k = P at *
    generalize a / P = A at *
    generalize b / P = B at *
    generalize a % P = x at *
    generalize b % P = y at *
    rcases Nat.lt_trichotomy A B with h | h | h
    · have := Nat.mul_le_mul_left P (show A + 1 ≤ B from h)
      rw [Nat.mul_add, Nat.mul_one] at this
      have hlt : a < b := by omega
      simp [h, hlt]
    · subst h
      have : (x < y) = (a < b) := propext ⟨fun _ => by omega, fun _ => by omega⟩
      simp [this]
    · have := Nat.mul_le_mul_left P (show B + 1 ≤ A from h)
      rw [Nat.mul_add, Nat.mul_one] at this
      have h1 : ¬ a < b := by omega
      have h2 : ¬ A < B := by omega
      have h3 : ¬ A = B := by omega
      simp [h1, h2, h3]
theorem numB_less (a b : Nat) (ha : a < 18446744073709551616) (hb : b < 18446744073709551616) : Op.bytesLess (numB a) (numB b) = decide (a < b) := by
  have ca := cnt_le a ha
  have cb := cnt_le b hb
  have sa := cnt_spec _ a ha rfl
  have sb := cnt_spec _ b hb rfl
  unfold numB
  have ta : (UInt8.ofNat (cntB a)).toNat = cntB a := by simp; omega
  have tb : (UInt8.ofNat (cntB b)).toNat = cntB b := by simp; omega
  have hq : (UInt8.ofNat (cntB a) == UInt8.ofNat (cntB b)) = decide (cntB a = cntB b) := by
    rw [Bool.eq_iff_iff, beq_iff_eq, ← UInt8.toNat_inj, ta, tb, decide_eq_true_eq]
  simp only [Op.bytesLess, UInt8.lt_iff_toNat_lt, ta, tb]
  rw [hq]
  rcases Nat.lt_trichotomy (cntB a) (cntB b) with h | h | h
  · have h1 : a < b := by
      rcases sb.2 with h0 | h0
      · omega
      · exact Nat.lt_of_lt_of_le sa.1 (Nat.le_trans (Nat.pow_le_pow_right (by decide) (by omega)) h0)
    simp [h, h1]
  · rw [← h] at sb ⊢
    rw [dig_less _ a b sa.1 sb.1]
    simp
  · have h1 : b < a := by
      rcases sa.2 with h0 | h0
      · omega
      · exact Nat.lt_of_lt_of_le sb.1 (Nat.le_trans (Nat.pow_le_pow_right (by decide) (by omega)) h0)
    have h2 : ¬ a < b := by omega
    have h3 : ¬ cntB a < cntB b := by omega
    have h4 : ¬ cntB a = cntB b := by omega
    simp [h2, h3, h4]
theorem numB_inj {a b : Nat} (ha : a < 18446744073709551616) (hb : b < 18446744073709551616) (h : numB a = numB b) : a = b := by
  have h1 := numR_put a ha []
  rw [h, numR_put b hb] at h1
  simp only [Option.some.injEq, Prod.mk.injEq] at h1
  exact h1.1.symm
theorem numB_eq (a b : Nat) (ha : a < 18446744073709551616) (hb : b < 18446744073709551616) : (numB a == numB b) = ((a : Int) == (b : Int)) := by
  rw [Bool.eq_iff_iff, beq_iff_eq, beq_iff_eq]
  exact ⟨fun h => by rw [numB_inj ha hb h], fun h => by rw [show a = b by omega]⟩
end Go.Proofs.Ytcbogapnhabhkaa
