import Derived.Test.YtnjlcdemfdokoaaGreatDoorWj
import Derived.Lib.CutLaws
namespace Go.Proofs.YtnjlcdemfdokoaaGreatDoor
open Go Go.RowKit
/-- the bytes ahead of the first p, and those behind it -/
def cutP (l : List UInt8) : List UInt8 × List UInt8 := ((Lib.cut l [112]).1, (Lib.cut l [112]).2.1)
set_option maxHeartbeats 2000000 in
set_option maxRecDepth 100000 in
theorem icut_any (s : ByteArray) (hs : s.size ≤ 281474976710656) (w : World) :
    Calls Tryz.prog 167 #[.string s, .string ⟨#[112]⟩] w fun e w' => ∃ b, e = .returned (.tuple #[.string ⟨(cutP s.data.toList).1.toArray⟩, .string ⟨(cutP s.data.toList).2.toArray⟩, .bool b]) ∧ Below w.heap.size w w' := by
  have hone : Lib.indexByte s.data.toList 112 = Lib.indexB s ⟨#[112]⟩ := (Lib.index_one s.data.toList 112).symm
  have HX := Tryz.stringslite_Index_one s 112
  rw [hone] at HX
  unfold cutP
  rcases Lib.indexB_cases s ⟨#[112]⟩ with hix | ⟨i, hix, hroom⟩
  · obtain ⟨e1, e2, e3⟩ := Lib.cutB_miss s ⟨#[112]⟩ hix
    rw [show ((Lib.cut s.data.toList [112]).1, (Lib.cut s.data.toList [112]).2.1).1 = (Lib.cut s.data.toList (ByteArray.mk #[112]).data.toList).1 from rfl, show ((Lib.cut s.data.toList [112]).1, (Lib.cut s.data.toList [112]).2.1).2 = (Lib.cut s.data.toList (ByteArray.mk #[112]).data.toList).2.1 from rfl]
    rw [e1, e2]
    rw [hix] at HX
    clear e1 e2 e3 hix hone
    go_enter Tryz.func167, Tryz.ntmps167
    go_wp2_with (go_at_call 168; refine (HX _).mono ?_; rintro e w' ⟨rfl, rfl⟩)
    go_ret3
    exact ⟨_, rfl, Below.refl _ _⟩
  · obtain ⟨e1, e2, e3⟩ := Lib.cutB_hit s ⟨#[112]⟩ i hix
    rw [show ((Lib.cut s.data.toList [112]).1, (Lib.cut s.data.toList [112]).2.1).1 = (Lib.cut s.data.toList (ByteArray.mk #[112]).data.toList).1 from rfl, show ((Lib.cut s.data.toList [112]).1, (Lib.cut s.data.toList [112]).2.1).2 = (Lib.cut s.data.toList (ByteArray.mk #[112]).data.toList).2.1 from rfl]
    rw [e1, e2]
    rw [hix] at HX
    have hroom' : i + 1 ≤ s.size := hroom
    have c1 : (0 : Int) ≤ ↑i := by omega
    have c2 : (↑i : Int) ≤ ↑s.size := by omega
    have c3 : (0 : Int) ≤ ↑i + 1 := by omega
    have c4 : (↑i + 1 : Int) ≤ ↑s.size := by omega
    have mixed : Tryz.prog.follows Departure.mixedOrders = true := by kernel_rfl
    have c5 : IntKind.i64.wrap ((i : Int) + 1) = (i : Int) + 1 := by rw [IntKind.wrap_i64]; omega
    clear e1 e2 e3 hix hone hroom
    go_enter Tryz.func167, Tryz.ntmps167
    go_wp2_with (go_at_call 168; refine (HX _).mono ?_; rintro e w' ⟨rfl, rfl⟩)
    go_region_o
    go_wp2
    go_ret3
    exact ⟨_, rfl, (Below.refl _ _).drew⟩
theorem cut_any (s : ByteArray) (hs : s.size ≤ 281474976710656) (w : World) :
    Calls Tryz.prog 154 #[.string s, .string ⟨#[112]⟩] w fun e w' => ∃ b, e = .returned (.tuple #[.string ⟨(cutP s.data.toList).1.toArray⟩, .string ⟨(cutP s.data.toList).2.toArray⟩, .bool b]) ∧ Below w.heap.size w w' := by
  go_enter Tryz.func154, Tryz.ntmps154
  go_wp2_with (go_at_call 167; refine (icut_any s hs _).mono ?_)
  rintro e w' ⟨b, rfl, hb⟩
  go_wp2
  go_ret3
  exact ⟨b, rfl, hb⟩

namespace Flt
/-- m times 2 to the power of x, as Ldexp has it -/
def ldx (m : Nat) (x : Int) : Nat :=
  if m = 0 then 0 else if x + 1023 + m.log2 < -52 then 0 else if 2046 < x + 1023 + (m.log2 : Int) then 9218868437227405312
  else if 1 ≤ x + 1023 + (m.log2 : Int) then (x + 1023 + (m.log2 : Int)).toNat * 4503599627370496 + (m * 2 ^ (52 - m.log2) - 4503599627370496)
  else tiny ((x + 1023 + (m.log2 : Int) + 53).toNat * 4503599627370496 + (m * 2 ^ (52 - m.log2) - 4503599627370496))
theorem float_of_nat {m : Nat} (hm : m < 9007199254740992) : floatOfInt .f64 (m : Int) = if m = 0 then 0 else rungOf m 1074 := by
  have h : floatOfInt .f64 (m : Int) = Ieee.double.nearest (decide ((m : Int) < 0)) (m : Int).natAbs 0 := rfl
  rw [h, show decide ((m : Int) < 0) = false from by simp, show (m : Int).natAbs = m from rfl]
  by_cases h0 : m = 0
  · subst h0; rw [if_pos rfl]; decide
  · rw [if_neg h0]
    have hl := log2_le52 (m := m) (by omega) hm
    have := nearest_exact false m 0 (rungOf m 1074) 1074 0 (rungOf_lt (by omega) hm (by omega)) (rungOf_pos 1074 (by omega) hm) (by omega) (by rw [V_rungOf 1074 (by omega) hm, Nat.pow_zero, Nat.mul_one])
    rw [this, word_eq, if_neg (by decide)]
theorem nat_facts {m : Nat} (h0 : 0 < m) (hm : m < 9007199254740992) :
    rungOf m 1074 / 4503599627370496 = 1023 + m.log2 ∧ rungOf m 1074 % 4503599627370496 = m * 2 ^ (52 - m.log2) - 4503599627370496 ∧ 4503599627370496 ≤ rungOf m 1074 ∧ rungOf m 1074 < 9218868437227405312 := by
  have hl := log2_le52 h0 hm
  have ⟨n1, n2⟩ := norm_mant h0 hm
  have e : rungOf m 1074 = (1023 + m.log2) * 4503599627370496 + (m * 2 ^ (52 - m.log2) - 4503599627370496) := by
    unfold rungOf
    rw [if_neg (by omega), show 1074 + m.log2 - 51 = 1023 + m.log2 from by omega]
  generalize m * 2 ^ (52 - m.log2) = M at *
  rw [e]
  refine ⟨?_, ?_, ?_, ?_⟩ <;> omega
theorem tiny_lt {z : Nat} (hz : z < 9218868437227405312) : tiny z < 18446744073709551616 := by
  obtain ⟨v, hv, hl⟩ := mul_tiny hz
  unfold tiny; rw [hv]; exact hl
theorem ldx_lt {m : Nat} (hm : m < 9007199254740992) (x : Int) : ldx m x < 18446744073709551616 := by
  unfold ldx
  split
  · decide
  · rename_i h0
    have ⟨n1, n2⟩ := norm_mant (m := m) (by omega) hm
    have hl := log2_le52 (m := m) (by omega) hm
    generalize m * 2 ^ (52 - m.log2) = M at *
    split
    · decide
    · split
      · decide
      · split
        · omega
        · apply tiny_lt; omega
end Flt
theorem ldexp0 (x : Int) (w : World) : Calls Tryz.prog 145 #[.float .f64 0, .int .i64 x] w fun e w' => e = .returned (.float .f64 0) ∧ w = w' := by
  have h0 : (FloatKind.f64.format.order 0 0 == some Ordering.eq) = true := by decide +kernel
  go_enter Tryz.func145, Tryz.ntmps145
  go_wp2_with fail
  go_ret
  exact ⟨rfl, rfl⟩
theorem ldexp_any (m : Nat) (x : Int) (hm : m < 9007199254740992) (x1 : -40000 ≤ x) (x2 : x ≤ 40000) (w : World) :
    Calls Tryz.prog 145 #[.float .f64 (floatOfInt .f64 (m : Int)), .int .i64 x] w fun e w' => e = .returned (.float .f64 (Flt.ldx m x)) ∧ w = w' := by
  rw [Flt.float_of_nat hm]
  by_cases h0 : m = 0
  · rw [if_pos h0, show Flt.ldx m x = 0 from by unfold Flt.ldx; rw [if_pos h0]]
    exact ldexp0 x w
  · rw [if_neg h0]
    obtain ⟨e1, e2, e3, e4⟩ := Flt.nat_facts (m := m) (by omega) hm
    have HN : ∀ w, Calls Tryz.prog 161 #[.float .f64 (Flt.rungOf m 1074)] w fun e w' => e = .returned (.tuple #[.float .f64 (Flt.rungOf m 1074), .int .i64 0]) ∧ w = w' := fun w => normalize_n _ e3 e4 w
    have et : x + 0 + ((Flt.rungOf m 1074 / 4503599627370496 : Nat) : Int) = x + 1023 + (m.log2 : Int) := by rw [e1]; omega
    unfold Flt.ldx
    rw [if_neg h0]
    by_cases t1 : x + 1023 + (m.log2 : Int) < -52
    · rw [if_pos t1]
      exact ldexp_low _ _ 0 x (by omega) e4 e3 e4 (by omega) (by omega) x1 x2 HN (by rw [et]; exact t1) w
    · rw [if_neg t1]
      by_cases t2 : 2046 < x + 1023 + (m.log2 : Int)
      · rw [if_pos t2]
        exact ldexp_high _ _ 0 x (by omega) e4 e3 e4 (by omega) (by omega) x1 x2 HN (by rw [et]; exact t2) w
      · rw [if_neg t2]
        by_cases t3 : 1 ≤ x + 1023 + (m.log2 : Int)
        · rw [if_pos t3]
          have h := ldexp_mid _ _ 0 x (by omega) e4 e3 e4 (by omega) (by omega) x1 x2 HN (by rw [et]; exact t3) (by rw [et]; omega) w
          rw [et, e2] at h
          exact h
        · rw [if_neg t3]
          have h := ldexp_tiny _ _ 0 x (by omega) e4 e3 e4 (by omega) (by omega) x1 x2 HN (by rw [et]; omega) (by rw [et]; omega) w
          rw [et, e2] at h
          exact h
theorem Ldexp_any (m : Nat) (x : Int) (hm : m < 9007199254740992) (x1 : -40000 ≤ x) (x2 : x ≤ 40000) (w : World) :
    Calls Tryz.prog 126 #[.float .f64 (floatOfInt .f64 (m : Int)), .int .i64 x] w fun e w' => e = .returned (.float .f64 (Flt.ldx m x)) ∧ w = w' := by
  have H := ldexp_any m x hm x1 x2
  generalize floatOfInt .f64 (m : Int) = z at *
  generalize Flt.ldx m x = y at *
  go_enter Tryz.func126, Tryz.ntmps126
  go_wp2_with (go_at_call 145; refine (H _).mono ?_; rintro e w' ⟨rfl, rfl⟩)
  go_ret
  exact ⟨rfl, rfl⟩
end Go.Proofs.YtnjlcdemfdokoaaGreatDoor
