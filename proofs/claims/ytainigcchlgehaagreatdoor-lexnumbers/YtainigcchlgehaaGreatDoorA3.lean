import Derived.Test.YtainigcchlgehaaGreatDoorA1
import Derived.Test.YtainigcchlgehaaGreatDoorA2
namespace Go.Proofs.YtainigcchlgehaaGreatDoor
open Go Go.RowKit
/-- against a number that is not whole -/
def btw (n : Int) (s : Bool) (l : Nat) : Int := if n ≤ (if s = true then -(l : Int) - 1 else (l : Int)) then -1 else 1
theorem btw_f (n : Int) (l : Nat) : btw n false l = if n ≤ (l : Int) then -1 else 1 := by unfold btw; simp
theorem btw_t (n : Int) (l : Nat) : btw n true l = if n ≤ -(l : Int) - 1 then -1 else 1 := by unfold btw; simp
end Go.Proofs.YtainigcchlgehaaGreatDoor
namespace Go.Proofs.YtainigcchlgehaaGreatDoor
open Go Go.RowKit
set_option linter.unusedVariables false
end Go.Proofs.YtainigcchlgehaaGreatDoor
namespace Go.Proofs.YtainigcchlgehaaGreatDoor
open Go Go.RowKit
theorem trunc_whole {a : Nat} (ha : a < 18446744073709551616) (h : Flt.V (Flt.rung a) = Flt.whole (Flt.rung a) * 2 ^ Flt.K) : Flt.trunc a = a := by
  have e : Flt.wrung (Flt.rung a) = Flt.rung a := Flt.V_inj (by rw [Flt.V_wrung, h])
  unfold Flt.trunc Flt.neg
  rw [e]
  unfold Flt.rung
  by_cases hs : 9223372036854775808 ≤ a
  · rw [decide_eq_true hs, if_pos rfl]; omega
  · rw [decide_eq_false hs, if_neg (by decide)]; omega
theorem agn_whole (n : Int) {a : Nat} (ha : a < 18446744073709551616) (h : Flt.V (Flt.rung a) = Flt.whole (Flt.rung a) * 2 ^ Flt.K) : agn n a = Flt.cmp3 n (Flt.wholeInt a) := by
  unfold agn
  rw [trunc_whole ha h]
  split
  · rename_i h0
    rw [h0]
    unfold Flt.cmp3
    rw [if_neg (by omega), if_neg (by omega)]
  · rfl
theorem agn_part (n : Int) {a : Nat} (hr : Flt.rung a < 9218868437227405312) (h : Flt.V (Flt.rung a) ≠ Flt.whole (Flt.rung a) * 2 ^ Flt.K) : agn n a = btw n (Flt.neg a) (Flt.whole (Flt.rung a)) := by
  have h1 : Flt.wrung (Flt.rung a) < Flt.rung a := by
    apply Flt.V_lt_iff.1
    rw [Flt.V_wrung]
    have : Flt.whole (Flt.rung a) * 2 ^ Flt.K ≤ Flt.V (Flt.rung a) := Nat.div_mul_le_self _ _
    omega
  have hwl := Flt.wrung_lt hr
  have hrt := Flt.rung_trunc hr
  have hnt := Flt.neg_trunc hr
  have hk : Flt.key (Flt.trunc a) = if Flt.neg a = true then -((Flt.wrung (Flt.rung a) : Nat) : Int) else (Flt.wrung (Flt.rung a) : Nat) := by
    unfold Flt.key
    rw [hrt]
    unfold Flt.neg at hnt ⊢
    by_cases hs : 9223372036854775808 ≤ a
    · rw [decide_eq_true hs] at hnt ⊢
      rw [if_pos (of_decide_eq_true hnt), if_pos rfl]
    · rw [decide_eq_false hs] at hnt ⊢
      rw [if_neg (of_decide_eq_false hnt), if_neg (by decide)]
  have hka : Flt.key a = if Flt.neg a = true then -((Flt.rung a : Nat) : Int) else (Flt.rung a : Nat) := by
    unfold Flt.key Flt.neg
    by_cases hs : 9223372036854775808 ≤ a
    · rw [if_pos hs, decide_eq_true hs, if_pos rfl]
    · rw [if_neg hs, decide_eq_false hs, if_neg (by decide)]
  unfold agn
  rw [hk, hka]
  unfold Flt.wholeInt
  generalize Flt.whole (Flt.rung a) = l
  cases Flt.neg a
  · rw [btw_f]
    simp only [Bool.false_eq_true, if_false]
    unfold Flt.cmp3
    (repeat' split) <;> omega
  · rw [btw_t]
    simp only [if_true]
    unfold Flt.cmp3
    (repeat' split) <;> omega
end Go.Proofs.YtainigcchlgehaaGreatDoor
namespace Go.Proofs.YtainigcchlgehaaGreatDoor
open Go Go.RowKit
namespace Flt
/-- what a float stands for, with its sign, in units of the least place -/
def sv (a : Nat) : Int := if neg a = true then -((V (rung a) : Nat) : Int) else (V (rung a) : Nat)
theorem cmp3_lt {x y : Int} (h : x < y) : cmp3 x y = -1 := by unfold cmp3; rw [if_pos h]
theorem cmp3_gt {x y : Int} (h : y < x) : cmp3 x y = 1 := by unfold cmp3; rw [if_neg (by omega), if_pos h]
theorem cmp3_scale (x y : Int) (c : Nat) (hc : 0 < c) : cmp3 (x * c) (y * c) = cmp3 x y := by
  have hc' : (0 : Int) < (c : Int) := Int.ofNat_lt.2 hc
  have i1 : ∀ x y : Int, x * (c : Int) < y * (c : Int) ↔ x < y := fun x y => ⟨fun h => Int.lt_of_mul_lt_mul_right h (Int.le_of_lt hc'), fun h => Int.mul_lt_mul_of_pos_right h hc'⟩
  unfold cmp3
  simp only [i1]
theorem le_scale {x y : Int} (c : Nat) (h : x ≤ y) : x * (c : Int) ≤ y * (c : Int) := Int.mul_le_mul_of_nonneg_right h (by omega)
theorem V_mod (r : Nat) : whole r * 2 ^ K ≤ V r ∧ V r < (whole r + 1) * 2 ^ K := by
  unfold whole
  have hp : 0 < 2 ^ K := Nat.pow_pos (by decide)
  have h1 := Nat.div_mul_le_self (V r) (2 ^ K)
  have h2 := Nat.lt_div_mul_add hp (a := V r)
  refine ⟨h1, ?_⟩
  rw [Nat.add_mul]
  omega
theorem V_63 : V 4890909195324358656 = 9223372036854775808 * 2 ^ K := by
  have e1 : mant 4890909195324358656 = 4503599627370496 := by decide
  have e2 : xp 4890909195324358656 = 1085 := by decide
  unfold V
  rw [e1, e2, show (1085 : Nat) = 11 + K from by rw [K_eq], Nat.pow_add, ← Nat.mul_assoc]
theorem key_eq (a : Nat) : key a = if neg a = true then -((rung a : Nat) : Int) else (rung a : Nat) := by
  unfold key neg
  by_cases hs : 9223372036854775808 ≤ a
  · rw [if_pos hs, decide_eq_true hs, if_pos rfl]
  · rw [if_neg hs, decide_eq_false hs, if_neg (by decide)]
theorem sv_mono {a b : Nat} (h : key a ≤ key b) : sv a ≤ sv b := by
  rw [key_eq, key_eq] at h
  unfold sv
  have m : ∀ r s : Nat, r ≤ s → V r ≤ V s := fun r s h => by
    rcases Nat.lt_or_eq_of_le h with h | h
    · exact Nat.le_of_lt (V_lt h)
    · rw [h]; exact Nat.le_refl _
  generalize neg a = p at *
  generalize neg b = q at *
  cases p <;> cases q <;> simp only [Bool.false_eq_true, if_false, if_true] at h ⊢
  · have := m (rung a) (rung b) (by omega); omega
  · have e1 : rung a = 0 := by omega
    have e2 : rung b = 0 := by omega
    rw [e1, e2, V_zero]; omega
  · omega
  · have := m (rung b) (rung a) (by omega); omega
theorem cmp3_mono {x y z : Int} (h : y ≤ z) : cmp3 x z ≤ cmp3 x y := by
  unfold cmp3
  (repeat' split) <;> omega
end Flt
theorem agn_sv (n : Int) {a : Nat} (ha : a < 18446744073709551616) (hr : Flt.rung a < 9218868437227405312) : agn n a = Flt.cmp3 (n * ((2 ^ Flt.K : Nat) : Int)) (Flt.sv a) := by
  have hp : 0 < 2 ^ Flt.K := Nat.pow_pos (by decide)
  have ⟨v1, v2⟩ := Flt.V_mod (Flt.rung a)
  by_cases h : Flt.V (Flt.rung a) = Flt.whole (Flt.rung a) * 2 ^ Flt.K
  · rw [agn_whole n ha h]
    have e : Flt.sv a = Flt.wholeInt a * ((2 ^ Flt.K : Nat) : Int) := by
      unfold Flt.sv Flt.wholeInt
      rw [h]
      generalize 2 ^ Flt.K = c
      split
      · rw [Int.neg_mul]; push_cast; rfl
      · push_cast; rfl
    rw [e, Flt.cmp3_scale _ _ _ hp]
  · rw [agn_part n hr h]
    unfold Flt.sv
    generalize Flt.V (Flt.rung a) = v at *
    generalize Flt.whole (Flt.rung a) = l at *
    generalize 2 ^ Flt.K = c at *
    have hl1 : ((l : Int) * (c : Int)) < (v : Int) := by
      have : l * c < v := by omega
      have := Int.ofNat_lt.2 this
      push_cast at this
      exact this
    have hl2 : (v : Int) < ((l : Int) + 1) * (c : Int) := by
      have := Int.ofNat_lt.2 v2
      push_cast at this
      exact this
    cases Flt.neg a
    · rw [btw_f]
      simp only [Bool.false_eq_true, if_false]
      by_cases hn : n ≤ (l : Int)
      · rw [if_pos hn, Flt.cmp3_lt]
        have := Flt.le_scale c hn
        omega
      · rw [if_neg hn, Flt.cmp3_gt]
        have := Flt.le_scale c (show (l : Int) + 1 ≤ n by omega)
        omega
    · rw [btw_t]
      simp only [if_true]
      by_cases hn : n ≤ -(l : Int) - 1
      · rw [if_pos hn, Flt.cmp3_lt]
        have h3 := Flt.le_scale c (show n ≤ -((l : Int) + 1) by omega)
        rw [Int.neg_mul] at h3
        omega
      · rw [if_neg hn, Flt.cmp3_gt]
        have h3 := Flt.le_scale c (show -(l : Int) ≤ n by omega)
        rw [Int.neg_mul] at h3
        omega
/-! the next float -/
end Go.Proofs.YtainigcchlgehaaGreatDoor


