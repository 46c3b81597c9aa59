import Derived.Test.YtnjlcdemfdokoaaGreatDoorWc
namespace Go.Proofs.YtnjlcdemfdokoaaGreatDoor
open Go
namespace Flt
/-- the bits that a key is turned back to -/
def okb (k : Nat) : Nat := if 9223372036854775808 ≤ k then k - 9223372036854775808 else 18446744073709551615 - k
theorem okb_lt {k : Nat} (hk : k < 18446744073709551616) : okb k < 18446744073709551616 := by unfold okb; split <;> omega
theorem okb_kbits {a : Nat} (ha : a < 18446744073709551616) : canon (okb (kbits a)) = canon a := by
  cases hn : isNan a
  · unfold kbits
    simp only [hn, Bool.false_eq_true, if_false]
    unfold okb
    congr 1
    (repeat' split) <;> omega
  · rw [kbits_nan hn, canon_nan hn]; decide
theorem kbits_canon (a : Nat) : kbits (canon a) = kbits a := by
  cases hn : isNan a
  · rw [canon_num hn]
  · rw [canon_nan hn, kbits_nan hn]; decide
theorem kbits_okb {k : Nat} (hk : k < 18446744073709551616) (hn : isNan (okb k) = false) : kbits (canon (okb k)) = k := by
  rw [kbits_canon]
  unfold kbits
  simp only [hn, Bool.false_eq_true, if_false]
  unfold okb
  (repeat' split) <;> omega
theorem okb_far {k : Nat} (hk : k < 18446744073709551616) (h : kbits (canon (okb k)) ≠ k) : k < 4503599627370496 ∨ 18442240474082181119 < k := by
  cases hn : isNan (okb k)
  · exact absurd (kbits_okb hk hn) h
  · unfold isNan rung okb at hn
    simp only [decide_eq_true_eq] at hn
    split at hn <;> omega
end Flt
end Go.Proofs.YtnjlcdemfdokoaaGreatDoor
