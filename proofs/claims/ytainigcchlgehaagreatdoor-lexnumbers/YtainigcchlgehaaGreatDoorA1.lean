import Ieee.Arith
import Derived.Laws.BitsAllLaws
import Derived.Laws.Entries
import Derived.Test.YtainigcchlgehaaGreatDoorRows
import Derived.WalkKit
import Derived.WalkSpells
import Derived.WalkLawsBesides
import Derived.Laws.Externs
import Derived.Laws.FloatArith
import Derived.Lib.Hide
namespace Go.Proofs.YtainigcchlgehaaGreatDoor.Flt
open Ieee

/-- the significand of a finite rung, and how many binades it stands above the least place -/
def mant (r : Nat) : Nat := if r < 4503599627370496 then r else 4503599627370496 + r % 4503599627370496
def xp (r : Nat) : Nat := r / 4503599627370496 - 1
/-- what a finite rung stands for, in units of the least place -/
def V (r : Nat) : Nat := mant r * 2 ^ xp r
def rung (a : Nat) : Nat := a % 9223372036854775808
def neg (a : Nat) : Bool := decide (9223372036854775808 ≤ a)
/-- the place of a float among all, as a whole number: both zeros are 0 -/
def key (a : Nat) : Int := if 9223372036854775808 ≤ a then -((rung a : Nat) : Int) else (rung a : Nat)
def isNan (a : Nat) : Bool := decide (9218868437227405312 < rung a)

theorem fb : Ieee.double.fractionBits = 52 := rfl
theorem binade_eq : Ieee.double.binade = 4503599627370496 := by decide
theorem inf_eq : Ieee.double.infRung = 9218868437227405312 := by decide
theorem sw_eq : Ieee.double.signWeight = 9223372036854775808 := by decide
theorem lp_eq : Ieee.double.leastPlace = -1074 := by decide

theorem read_fin {a : Nat} (ha : a < 18446744073709551616) (h : rung a < 9218868437227405312) :
    Ieee.double.read a = .number (neg a) (mant (rung a)) (-1074 + (xp (rung a) : Nat)) := by
  unfold Format.read
  simp only [binade_eq, inf_eq, sw_eq, lp_eq]
  have hn : (a / 9223372036854775808 % 2 == 1) = neg a := by
    unfold neg
    rw [Bool.eq_iff_iff]
    simp only [beq_iff_eq, decide_eq_true_eq]
    omega
  rw [hn]
  unfold rung at h
  unfold mant xp rung
  by_cases h1 : a % 9223372036854775808 < 4503599627370496
  · rw [if_pos h1, if_pos h1]
    congr 1
    have : a % 9223372036854775808 / 4503599627370496 = 0 := by omega
    rw [this]; rfl
  · rw [if_neg h1, if_neg h1, if_pos h]

theorem read_inf {a : Nat} (ha : a < 18446744073709551616) (h : rung a = 9218868437227405312) :
    Ieee.double.read a = .infinity (neg a) := by
  unfold Format.read
  simp only [binade_eq, inf_eq, sw_eq, lp_eq]
  have hn : (a / 9223372036854775808 % 2 == 1) = neg a := by
    unfold neg
    rw [Bool.eq_iff_iff]
    simp only [beq_iff_eq, decide_eq_true_eq]
    omega
  rw [hn]
  unfold rung at h
  rw [if_neg (by omega), if_neg (by omega), if_pos h]

theorem read_nan {a : Nat} (ha : a < 18446744073709551616) (h : 9218868437227405312 < rung a) :
    Ieee.double.read a = .nan (neg a) (rung a - 9218868437227405312) := by
  unfold Format.read
  simp only [binade_eq, inf_eq, sw_eq, lp_eq]
  have hn : (a / 9223372036854775808 % 2 == 1) = neg a := by
    unfold neg
    rw [Bool.eq_iff_iff]
    simp only [beq_iff_eq, decide_eq_true_eq]
    omega
  rw [hn]
  unfold rung at h
  rw [if_neg (by omega), if_neg (by omega), if_neg (by omega)]
  rfl

theorem V_succ (r : Nat) : V r < V (r + 1) := by
  unfold V mant xp
  by_cases h1 : r + 1 < 4503599627370496
  · have e1 : r / 4503599627370496 = 0 := by omega
    have e2 : (r + 1) / 4503599627370496 = 0 := by omega
    rw [if_pos (by omega), if_pos h1, e1, e2]; simp
  by_cases h2 : r + 1 = 4503599627370496
  · have e1 : r / 4503599627370496 = 0 := by omega
    have e2 : (r + 1) / 4503599627370496 = 1 := by omega
    rw [if_pos (by omega), if_neg h1, e1, e2]; simp; omega
  rw [if_neg (by omega), if_neg h1]
  by_cases h3 : r % 4503599627370496 + 1 < 4503599627370496
  · have e1 : (r + 1) / 4503599627370496 = r / 4503599627370496 := by omega
    have e2 : (r + 1) % 4503599627370496 = r % 4503599627370496 + 1 := by omega
    rw [e1, e2]
    exact Nat.mul_lt_mul_of_lt_of_le (by omega) (Nat.le_refl _) (Nat.pow_pos (by decide))
  · have e1 : (r + 1) / 4503599627370496 - 1 = (r / 4503599627370496 - 1) + 1 := by omega
    have e2 : (r + 1) % 4503599627370496 = 0 := by omega
    rw [e1, e2, Nat.pow_succ]
    have hp : 0 < 2 ^ (r / 4503599627370496 - 1) := Nat.pow_pos (by decide)
    generalize 2 ^ (r / 4503599627370496 - 1) = p at *
    have h4 : r % 4503599627370496 = 4503599627370495 := by omega
    rw [h4]
    omega

theorem V_lt {r s : Nat} (h : r < s) : V r < V s := by
  induction s with
  | zero => omega
  | succ s ih =>
    by_cases h' : r < s
    · exact Nat.lt_trans (ih h') (V_succ s)
    · have : r = s := by omega
      subst this; exact V_succ r

theorem V_lt_iff {r s : Nat} : V r < V s ↔ r < s := by
  constructor
  · intro h
    rcases Nat.lt_trichotomy r s with h1 | h1 | h1
    · exact h1
    · subst h1; omega
    · have := V_lt h1; omega
  · exact V_lt

theorem V_inj {r s : Nat} (h : V r = V s) : r = s := by
  rcases Nat.lt_trichotomy r s with h1 | h1 | h1
  · have := V_lt h1; omega
  · exact h1
  · have := V_lt h1; omega

theorem V_zero : V 0 = 0 := by decide

theorem cmp_int (a b : Int) : compare a b = if a < b then Ordering.lt else if a = b then .eq else .gt := rfl
theorem cmp_nat (a b : Nat) : compare a b = if a < b then Ordering.lt else if a = b then .eq else .gt := rfl

theorem signed_V (s : Bool) (r b : Nat) (h : b ≤ xp r) : signed s (mant r) (xp r - b) * (2 ^ b : Nat) = if s then -((V r : Nat) : Int) else (V r : Nat) := by
  have e : mant r <<< (xp r - b) * 2 ^ b = V r := by
    rw [Nat.shiftLeft_eq, Nat.mul_assoc, ← Nat.pow_add, Nat.sub_add_cancel h]; rfl
  unfold signed
  cases s
  · simp only [Bool.false_eq_true, if_false]; rw [← e]; push_cast; rfl
  · simp only [if_true]; rw [← e]; push_cast; rw [Int.neg_mul]

theorem cmp_scale (a b : Int) (c : Nat) (hc : 0 < c) : compare a b = compare (a * c) (b * c) := by
  have hc' : (0 : Int) < (c : Int) := Int.ofNat_lt.2 hc
  have i1 : a * (c : Int) < b * (c : Int) ↔ a < b := ⟨fun h => Int.lt_of_mul_lt_mul_right h (Int.le_of_lt hc'), fun h => Int.mul_lt_mul_of_pos_right h hc'⟩
  have i2 : a * (c : Int) = b * (c : Int) ↔ a = b := ⟨fun h => Int.eq_of_mul_eq_mul_right (Int.ne_of_gt hc') h, fun h => by rw [h]⟩
  rw [cmp_int, cmp_int]
  simp only [i1, i2]

theorem order_eq {a b : Nat} (ha : a < 18446744073709551616) (hb : b < 18446744073709551616) (na : isNan a = false) (nb : isNan b = false) :
    Ieee.double.order a b = some (if key a < key b then .lt else if key a = key b then .eq else .gt) := by
  unfold isNan at na nb
  simp only [decide_eq_false_iff_not, Nat.not_lt] at na nb
  unfold Format.order
  have ra : rung a < 9223372036854775808 := Nat.mod_lt _ (by decide)
  have rb : rung b < 9223372036854775808 := Nat.mod_lt _ (by decide)
  by_cases fa : rung a < 9218868437227405312
  · rw [read_fin ha fa]
    by_cases fb : rung b < 9218868437227405312
    · rw [read_fin hb fb]
      simp only [Datum.order]
      congr 1
      have e1 : ((-1074 + (xp (rung a) : Nat) : Int) - min (-1074 + (xp (rung a) : Nat) : Int) (-1074 + (xp (rung b) : Nat))).toNat = xp (rung a) - min (xp (rung a)) (xp (rung b)) := by omega
      have e2 : ((-1074 + (xp (rung b) : Nat) : Int) - min (-1074 + (xp (rung a) : Nat) : Int) (-1074 + (xp (rung b) : Nat))).toNat = xp (rung b) - min (xp (rung a)) (xp (rung b)) := by omega
      rw [e1, e2, cmp_scale _ _ (2 ^ min (xp (rung a)) (xp (rung b))) (Nat.pow_pos (by decide)), signed_V _ _ _ (Nat.min_le_left _ _), signed_V _ _ _ (Nat.min_le_right _ _), cmp_int]
      unfold key neg
      have i1 := @V_lt_iff (rung a) (rung b)
      have i2 := @V_lt_iff (rung b) (rung a)
      have i3 := @V_lt_iff 0 (rung a)
      have i4 := @V_lt_iff 0 (rung b)
      rw [V_zero] at i3 i4
      generalize V (rung a) = va at *
      generalize V (rung b) = vb at *
      generalize rung a = x at *
      generalize rung b = y at *
      by_cases s1 : 9223372036854775808 ≤ a <;> by_cases s2 : 9223372036854775808 ≤ b <;> simp only [s1, s2, decide_true, decide_false, if_true, if_false, Bool.false_eq_true] <;> (repeat' split) <;> first | rfl | (exfalso; omega)
    · have fb' : rung b = 9218868437227405312 := by omega
      rw [read_inf hb fb']
      simp only [Datum.order]
      congr 1
      unfold key neg
      by_cases s1 : 9223372036854775808 ≤ a <;> by_cases s2 : 9223372036854775808 ≤ b <;> simp only [s1, s2, decide_true, decide_false, if_true, if_false, Bool.false_eq_true] <;> (repeat' split) <;> first | rfl | (exfalso; omega)
  · have fa' : rung a = 9218868437227405312 := by omega
    rw [read_inf ha fa']
    by_cases fb : rung b < 9218868437227405312
    · rw [read_fin hb fb]
      simp only [Datum.order]
      congr 1
      unfold key neg
      by_cases s1 : 9223372036854775808 ≤ a <;> by_cases s2 : 9223372036854775808 ≤ b <;> simp only [s1, s2, decide_true, decide_false, if_true, if_false, Bool.false_eq_true] <;> (repeat' split) <;> first | rfl | (exfalso; omega)
    · have fb' : rung b = 9218868437227405312 := by omega
      rw [read_inf hb fb']
      simp only [Datum.order]
      congr 1
      unfold key neg
      rw [fa', fb']
      by_cases s1 : 9223372036854775808 ≤ a <;> by_cases s2 : 9223372036854775808 ≤ b <;> simp only [s1, s2, decide_true, decide_false, if_true, if_false] <;> decide

theorem order_nan_l {a b : Nat} (ha : a < 18446744073709551616) (na : isNan a = true) : Ieee.double.order a b = none := by
  unfold isNan at na
  simp only [decide_eq_true_eq] at na
  unfold Format.order
  rw [read_nan ha na]
  simp [Datum.order]

theorem order_nan_r {a b : Nat} (hb : b < 18446744073709551616) (nb : isNan b = true) : Ieee.double.order a b = none := by
  unfold isNan at nb
  simp only [decide_eq_true_eq] at nb
  unfold Format.order
  rw [read_nan hb nb]
  cases Ieee.double.read a <;> simp [Datum.order]


theorem cut_exact (s : Bool) (m k : Nat) (hm : 0 < m) : Toward.even.cut s (m * 2 ^ k) k = m := by
  unfold Toward.cut
  have h0 : m * 2 ^ k ≠ 0 := by
    have : 0 < 2 ^ k := Nat.pow_pos (by decide)
    exact Nat.ne_of_gt (Nat.mul_pos hm this)
  have hk : k ≤ (m * 2 ^ k).log2 := by
    have h1 : 2 ^ k ≤ m * 2 ^ k := Nat.le_mul_of_pos_left _ hm
    exact (Nat.le_log2 h0).2 h1
  have e1 : min k ((m * 2 ^ k).log2 + 2) = k := by omega
  simp only [e1, Nat.one_shiftLeft]
  have hp : 0 < 2 ^ k := Nat.pow_pos (by decide)
  rw [Nat.mul_div_cancel _ hp, Nat.mul_mod_left]
  have e2 : (2 ^ k == 2 * 0) = false := by
    rw [beq_eq_false_iff_ne]; omega
  simp [e2]

theorem rung_mant (r : Nat) : xp r * 4503599627370496 + mant r = r := by
  unfold xp mant
  split <;> omega

theorem pow_lt {a b : Nat} (h : 2 ^ a < 2 ^ b) : a < b := (Nat.pow_lt_pow_iff_right (by decide)).1 h

theorem mant_pos {r : Nat} (h : 0 < r) : 0 < mant r := by unfold mant; split <;> omega
theorem mant_lt (r : Nat) : mant r < 9007199254740992 := by unfold mant; split <;> omega

theorem nearest_exact (s : Bool) (mag : Nat) (place : Int) (r x y : Nat) (hr : r < 9218868437227405312) (hr0 : 0 < r) (hxy : place + 1074 = (x : Int) - y) (h : mag * 2 ^ x = V r * 2 ^ y) :
    Ieee.double.nearest s mag place = Ieee.double.word s r := by
  have hm := mant_pos hr0
  have px : ∀ n : Nat, 0 < 2 ^ n := fun n => Nat.pow_pos (by decide)
  have h' : mag * 2 ^ x = mant r * 2 ^ (xp r + y) := by rw [h]; unfold V; rw [Nat.mul_assoc, ← Nat.pow_add]
  have hmag : mag ≠ 0 := by
    intro e
    rw [e, Nat.zero_mul] at h'
    have := Nat.mul_pos hm (px (xp r + y))
    omega
  have l1 := Nat.log2_self_le hmag
  have l2 := @Nat.lt_log2_self mag
  unfold Format.nearest
  rw [if_neg hmag]
  simp only [fb, binade_eq, inf_eq, lp_eq]
  have hlast : max (place + (mag.log2 : Nat) - (52 : Nat)) (-1074) = -1074 + (xp r : Int) := by
    have b1 : 2 ^ (mag.log2 + x) ≤ mag * 2 ^ x := by rw [Nat.pow_add]; exact Nat.mul_le_mul_right _ l1
    have b2 : mag * 2 ^ x < 2 ^ (mag.log2 + 1 + x) := by rw [Nat.pow_add 2 (mag.log2 + 1)]; exact Nat.mul_lt_mul_of_pos_right l2 (px x)
    by_cases hn : r < 4503599627370496
    · have ex : xp r = 0 := by unfold xp; omega
      have em : mant r = r := by unfold mant; rw [if_pos hn]
      rw [h', ex, em, Nat.zero_add] at b1
      have b3 : r * 2 ^ y < 2 ^ (52 + y) := by rw [Nat.pow_add]; exact Nat.mul_lt_mul_of_pos_right (by simpa using hn) (px y)
      have b4 := pow_lt (Nat.lt_of_le_of_lt b1 b3)
      rw [ex]; omega
    · have em : mant r = 4503599627370496 + r % 4503599627370496 := by unfold mant; rw [if_neg hn]
      have m1 : 2 ^ 52 ≤ mant r := by rw [em]; simp
      have m2 : mant r < 2 ^ 53 := by rw [em]; simp; omega
      rw [h'] at b1 b2
      have b3 : mant r * 2 ^ (xp r + y) < 2 ^ (53 + (xp r + y)) := by rw [Nat.pow_add 2 53]; exact Nat.mul_lt_mul_of_pos_right m2 (px _)
      have b4 : 2 ^ (52 + (xp r + y)) ≤ mant r * 2 ^ (xp r + y) := by rw [Nat.pow_add 2 52]; exact Nat.mul_le_mul_right _ m1
      have b5 := pow_lt (Nat.lt_of_le_of_lt b1 b3)
      have b6 := pow_lt (Nat.lt_of_le_of_lt b4 b2)
      omega
  rw [hlast]
  have hk : Toward.even.cut s (mag <<< (place - (-1074 + (xp r : Int))).toNat) (-1074 + (xp r : Int) - place).toNat = mant r := by
    by_cases hp : -1074 + (xp r : Int) ≤ place
    · obtain ⟨k, hk⟩ : ∃ k : Nat, x = k + (xp r + y) := ⟨x - (xp r + y), by omega⟩
      have e1 : (place - (-1074 + (xp r : Int))).toNat = k := by omega
      have e2 : (-1074 + (xp r : Int) - place).toNat = 0 := by omega
      rw [e1, e2, Nat.shiftLeft_eq]
      have e3 : mag * 2 ^ k = mant r := by
        rw [hk, Nat.pow_add, ← Nat.mul_assoc] at h'
        exact Nat.eq_of_mul_eq_mul_right (px _) h'
      rw [e3]
      have := cut_exact s (mant r) 0 hm
      simpa using this
    · obtain ⟨k, hk⟩ : ∃ k : Nat, xp r + y = k + x := ⟨xp r + y - x, by omega⟩
      have e1 : (place - (-1074 + (xp r : Int))).toNat = 0 := by omega
      have e2 : (-1074 + (xp r : Int) - place).toNat = k := by omega
      rw [e1, e2, Nat.shiftLeft_zero]
      have e3 : mag = mant r * 2 ^ k := by
        rw [hk, Nat.pow_add, ← Nat.mul_assoc] at h'
        exact Nat.eq_of_mul_eq_mul_right (px _) h'
      rw [e3]
      exact cut_exact s (mant r) k hm
  rw [hk]
  have e4 : (-1074 + (xp r : Int) - -1074).toNat = xp r := by omega
  rw [e4, rung_mant]
  have e5 : min r 9218868437227405312 = r := by omega
  rw [e5]

theorem word_eq (s : Bool) (r : Nat) : Ieee.double.word s r = if s then 9223372036854775808 + r else r := by
  unfold Format.word; rw [sw_eq]

theorem mul_exact {a b : Nat} {s t : Bool} {m n : Nat} {i j : Int} (ra : Ieee.double.read a = .number s m i) (rb : Ieee.double.read b = .number t n j)
    (r x y : Nat) (hr : r < 9218868437227405312) (hr0 : 0 < r) (hxy : i + j + 1074 = (x : Int) - y) (h : m * n * 2 ^ x = V r * 2 ^ y) :
    Ieee.double.mul a b = some (if (s ^^ t) then 9223372036854775808 + r else r) := by
  unfold Format.mul
  rw [ra, rb]
  simp only [Datum.product, Option.map_some, Format.write]
  rw [nearest_exact _ _ _ r x y hr hr0 hxy h, word_eq]

/-- the rung of m times 2 to the power of E, in units of the least place -/
def rungOf (m E : Nat) : Nat := if E + m.log2 < 52 then m * 2 ^ E else (E + m.log2 - 51) * 4503599627370496 + (m * 2 ^ (52 - m.log2) - 4503599627370496)

theorem log2_le52 {m : Nat} (h0 : 0 < m) (hm : m < 9007199254740992) : m.log2 ≤ 52 := by
  have l1 := Nat.log2_self_le (n := m) (by omega)
  have : 2 ^ m.log2 < 2 ^ 53 := Nat.lt_of_le_of_lt l1 (by simpa using hm)
  have := pow_lt this
  omega

theorem norm_mant {m : Nat} (h0 : 0 < m) (hm : m < 9007199254740992) : 4503599627370496 ≤ m * 2 ^ (52 - m.log2) ∧ m * 2 ^ (52 - m.log2) < 9007199254740992 := by
  have hl := log2_le52 h0 hm
  have l1 := Nat.log2_self_le (n := m) (by omega)
  have l2 := @Nat.lt_log2_self m
  constructor
  · have : 2 ^ m.log2 * 2 ^ (52 - m.log2) ≤ m * 2 ^ (52 - m.log2) := Nat.mul_le_mul_right _ l1
    rw [← Nat.pow_add, show m.log2 + (52 - m.log2) = 52 from by omega] at this
    simpa using this
  · have : m * 2 ^ (52 - m.log2) < 2 ^ (m.log2 + 1) * 2 ^ (52 - m.log2) := Nat.mul_lt_mul_of_pos_right l2 (Nat.pow_pos (by decide))
    rw [← Nat.pow_add, show m.log2 + 1 + (52 - m.log2) = 53 from by omega] at this
    simpa using this

theorem V_rungOf {m : Nat} (E : Nat) (h0 : 0 < m) (hm : m < 9007199254740992) : V (rungOf m E) = m * 2 ^ E := by
  have hl := log2_le52 h0 hm
  have ⟨n1, n2⟩ := norm_mant h0 hm
  have l2 := @Nat.lt_log2_self m
  unfold rungOf
  by_cases hE : E + m.log2 < 52
  · rw [if_pos hE]
    have : m * 2 ^ E < 4503599627370496 := by
      have h1 : m * 2 ^ E < 2 ^ (m.log2 + 1) * 2 ^ E := Nat.mul_lt_mul_of_pos_right l2 (Nat.pow_pos (by decide))
      rw [← Nat.pow_add] at h1
      have h2 : 2 ^ (m.log2 + 1 + E) ≤ 2 ^ 52 := Nat.pow_le_pow_right (by decide) (by omega)
      have := Nat.lt_of_lt_of_le h1 h2
      simpa using this
    unfold V mant xp
    rw [if_pos this, show m * 2 ^ E / 4503599627370496 - 1 = 0 from by omega]
    simp
  · rw [if_neg hE]
    obtain ⟨k, hk⟩ : ∃ k, E = k + (52 - m.log2) := ⟨E - (52 - m.log2), by omega⟩
    generalize hM : m * 2 ^ (52 - m.log2) = M at *
    have e1 : E + m.log2 - 51 = k + 1 := by omega
    rw [e1]
    unfold V mant xp
    rw [if_neg (by omega)]
    have e2 : ((k + 1) * 4503599627370496 + (M - 4503599627370496)) % 4503599627370496 = M - 4503599627370496 := by omega
    have e3 : ((k + 1) * 4503599627370496 + (M - 4503599627370496)) / 4503599627370496 - 1 = k := by omega
    rw [e2, e3, show 4503599627370496 + (M - 4503599627370496) = M from by omega, ← hM, hk, Nat.mul_assoc, ← Nat.pow_add, Nat.add_comm]

theorem rungOf_pos {m : Nat} (E : Nat) (h0 : 0 < m) (hm : m < 9007199254740992) : 0 < rungOf m E := by
  have := V_rungOf E h0 hm
  rcases Nat.eq_zero_or_pos (rungOf m E) with h | h
  · rw [h, V_zero] at this
    have : 0 < m * 2 ^ E := Nat.mul_pos h0 (Nat.pow_pos (by decide))
    omega
  · exact h

theorem rungOf_lt {m E : Nat} (h0 : 0 < m) (hm : m < 9007199254740992) (hE : E + m.log2 ≤ 2097) : rungOf m E < 9218868437227405312 := by
  have ⟨n1, n2⟩ := norm_mant h0 hm
  have hl := log2_le52 h0 hm
  have l2 := @Nat.lt_log2_self m
  unfold rungOf
  split
  · rename_i h
    have h1 : m * 2 ^ E < 2 ^ (m.log2 + 1) * 2 ^ E := Nat.mul_lt_mul_of_pos_right l2 (Nat.pow_pos (by decide))
    rw [← Nat.pow_add] at h1
    have h2 : 2 ^ (m.log2 + 1 + E) ≤ 2 ^ 52 := Nat.pow_le_pow_right (by decide) (by omega)
    have := Nat.lt_of_lt_of_le h1 h2
    have : m * 2 ^ E < 4503599627370496 := by simpa using this
    omega
  · generalize m * 2 ^ (52 - m.log2) = M at *
    omega

theorem rungOf_mant (r : Nat) (h : 0 < r) : rungOf (mant r) (xp r) = r :=
  V_inj (V_rungOf (xp r) (mant_pos h) (mant_lt r))

end Go.Proofs.YtainigcchlgehaaGreatDoor.Flt
namespace Go.Proofs.YtainigcchlgehaaGreatDoor.Flt
open Go

theorem b_andNot_sign (a : Nat) (ha : a < 18446744073709551616) : bits .andNot .u64 (a : Int) 9223372036854775808 = ((rung a : Nat) : Int) := by
  have h := u64_andNot_nat a 9223372036854775808 ha (by decide)
  have e : a &&& (18446744073709551615 - 9223372036854775808) = rung a := by
    have := Nat.and_two_pow_sub_one_eq_mod a 63
    simpa [rung] using this
  rw [e] at h
  exact h

theorem nat_and_sign (a : Nat) (ha : a < 18446744073709551616) : a &&& 9223372036854775808 = if 9223372036854775808 ≤ a then 9223372036854775808 else 0 := by
  have h1 : (a &&& 9223372036854775808) % 2 ^ 63 = 0 := by
    rw [Nat.and_mod_two_pow]; simp
  have h2 : (a &&& 9223372036854775808) / 2 ^ 63 = a / 2 ^ 63 &&& 1 := by
    rw [Nat.and_div_two_pow]
  have h3 : a / 2 ^ 63 &&& 1 = a / 2 ^ 63 := by
    have := Nat.and_two_pow_sub_one_eq_mod (a / 2 ^ 63) 1
    simp only [Nat.pow_one] at this
    rw [show (2 - 1 : Nat) = 1 from rfl] at this
    rw [this]; omega
  split <;> omega

theorem b_and_sign (a : Nat) (ha : a < 18446744073709551616) : bits .and .u64 (a : Int) 9223372036854775808 = if 9223372036854775808 ≤ a then 9223372036854775808 else 0 := by
  have h := u64_and_nat a 9223372036854775808 ha (by decide)
  rw [nat_and_sign a ha] at h
  refine h.trans ?_
  split <;> rfl

theorem nat_or_sign (a : Nat) (ha : a < 9223372036854775808) : a ||| 9223372036854775808 = a + 9223372036854775808 := by
  have := Nat.two_pow_add_eq_or_of_lt (i := 63) (b := a) (by simpa using ha) 1
  rw [Nat.or_comm]
  simp only [Nat.mul_one] at this
  rw [show (2 ^ 63 : Nat) = 9223372036854775808 from by decide] at this
  omega

theorem b_or_sign (a : Nat) (ha : a < 9223372036854775808) : bits .or .u64 (a : Int) 9223372036854775808 = ((a + 9223372036854775808 : Nat) : Int) := by
  have h := u64_or_nat a 9223372036854775808 (by omega) (by decide)
  rw [nat_or_sign a ha] at h
  exact h

theorem b_or_zero (a : Nat) (ha : a < 18446744073709551616) : bits .or .u64 (a : Int) 0 = (a : Int) := by
  have h := u64_or_nat a 0 ha (by decide)
  rw [Nat.or_zero] at h
  exact h

theorem b_not (a : Nat) (ha : a < 18446744073709551616) : bits .xor .u64 18446744073709551615 (a : Int) = 18446744073709551615 - (a : Int) := by
  have h := u64_xor_nat 18446744073709551615 a (by decide) ha
  have e : 18446744073709551615 ^^^ a = 18446744073709551615 - a := by
    have e1 : (18446744073709551615 ^^^ a) % 2 ^ 64 = 18446744073709551615 ^^^ a := Nat.mod_eq_of_lt (Nat.xor_lt_two_pow (by decide) (by simpa using ha))
    have e2 : (18446744073709551615 - a) % 2 ^ 64 = 18446744073709551615 - a := Nat.mod_eq_of_lt (by simp; omega)
    apply Nat.eq_of_testBit_eq
    intro i
    rw [Nat.testBit_xor]
    have := Nat.testBit_two_pow_sub_succ (x := a) (n := 64) (by simpa using ha) i
    rw [show (2 ^ 64 - (a + 1) : Nat) = 18446744073709551615 - a from by simp] at this
    rw [this]
    have := Nat.testBit_two_pow_sub_one 64 i
    rw [show (2 ^ 64 - 1 : Nat) = 18446744073709551615 from by decide] at this
    rw [this]
    by_cases hi : i < 64
    · simp [hi]
    · simp only [hi, decide_false, Bool.false_bne, Bool.false_and]
      exact Nat.testBit_lt_two_pow (Nat.lt_of_lt_of_le (show a < 2 ^ 64 by simpa using ha) (Nat.pow_le_pow_right (by decide) (by omega)))
  rw [e] at h
  refine h.trans ?_
  omega

/-- the field of the exponent struck out of a float that is not below 0 -/
theorem nat_andNot_exp (a : Nat) (ha : a < 9223372036854775808) : a &&& (18446744073709551615 - 9218868437227405312) = a % 4503599627370496 := by
  have h1 : (a &&& (18446744073709551615 - 9218868437227405312)) % 2 ^ 52 = a % 2 ^ 52 := by
    rw [Nat.and_mod_two_pow]
    have := Nat.and_two_pow_sub_one_eq_mod (a % 2 ^ 52) 52
    rw [show (18446744073709551615 - 9218868437227405312) % 2 ^ 52 = 2 ^ 52 - 1 from by decide, this, Nat.mod_mod]
  have h2 : (a &&& (18446744073709551615 - 9218868437227405312)) / 2 ^ 52 = 0 := by
    rw [Nat.and_div_two_pow, show (18446744073709551615 - 9218868437227405312) / 2 ^ 52 = 2 ^ 11 from by decide]
    have hq : a / 2 ^ 52 < 2 ^ 11 := by simp; omega
    have := Nat.testBit_lt_two_pow hq
    apply Nat.eq_of_testBit_eq
    intro i
    rw [Nat.testBit_and, Nat.testBit_two_pow]
    by_cases hi : 11 = i
    · subst hi; rw [this]; rfl
    · simp [hi]
  rw [show (2 ^ 52 : Nat) = 4503599627370496 from by decide] at h1 h2
  omega

theorem b_andNot_exp (a : Nat) (ha : a < 9223372036854775808) : bits .andNot .u64 (a : Int) 9218868437227405312 = ((a % 4503599627370496 : Nat) : Int) := by
  have h := u64_andNot_nat a 9218868437227405312 (by omega) (by decide)
  rw [nat_andNot_exp a ha] at h
  exact h

theorem nat_or_exp (q f : Nat) (hf : f < 4503599627370496) : f ||| q * 4503599627370496 = q * 4503599627370496 + f := by
  have := Nat.two_pow_add_eq_or_of_lt (i := 52) (b := f) (by simpa using hf) q
  rw [show (2 ^ 52 : Nat) = 4503599627370496 from by decide] at this
  rw [Nat.or_comm, Nat.mul_comm q, this]

theorem b_or_exp (q f : Nat) (hq : q < 4096) (hf : f < 4503599627370496) : bits .or .u64 (f : Int) ((q * 4503599627370496 : Nat) : Int) = ((q * 4503599627370496 + f : Nat) : Int) := by
  have h := u64_or_nat f (q * 4503599627370496) (by omega) (by omega)
  rw [nat_or_exp q f hf] at h
  exact h

theorem nat_and_2047 (a : Nat) : a &&& 2047 = a % 2048 := by
  have := Nat.and_two_pow_sub_one_eq_mod a 11
  simpa using this

theorem b_and_2047 (a : Nat) (ha : a < 18446744073709551616) : bits .and .u64 (a : Int) 2047 = ((a % 2048 : Nat) : Int) := by
  have h := u64_and_nat a 2047 ha (by decide)
  rw [nat_and_2047] at h
  exact h

theorem b_and_frac (a : Nat) (ha : a < 18446744073709551616) : bits .and .u64 (a : Int) 4503599627370495 = ((a % 4503599627370496 : Nat) : Int) := by
  have h := u64_and_nat a 4503599627370495 ha (by decide)
  have := Nat.and_two_pow_sub_one_eq_mod a 52
  rw [show (2 ^ 52 - 1 : Nat) = 4503599627370495 from by decide, show (2 ^ 52 : Nat) = 4503599627370496 from by decide] at this
  rw [this] at h
  exact h
end Go.Proofs.YtainigcchlgehaaGreatDoor.Flt
namespace Go.Proofs.YtainigcchlgehaaGreatDoor
open Go

theorem run_frombits (a : Int) (w : World) : (callFunc 84 #[.int .u64 a]).run Tryz.prog w = .ok (.value (.float .f64 a.toNat)) w := by
  rw [run_callFunc_extern (e := Extern.MathFloatBits.float64frombits) Tryz.func84 (by kernel_rfl) (by kernel_rfl) (by kernel_rfl) (by kernel_rfl)]
  rfl
theorem run_bits (a : Nat) (w : World) : (callFunc 40 #[.float .f64 a]).run Tryz.prog w = .ok (.value (.int .u64 a)) w := by
  rw [run_callFunc_extern (e := Extern.MathFloatBits.float64bits) Tryz.func40 (by kernel_rfl) (by kernel_rfl) (by kernel_rfl) (by kernel_rfl)]
  rfl

namespace Flt
theorem ord_self {a : Nat} (ha : a < 18446744073709551616) : (FloatKind.f64.format.order a a != some Ordering.eq) = isNan a := by
  show (Ieee.double.order a a != some Ordering.eq) = isNan a
  cases h : isNan a
  · rw [order_eq ha ha h h]; simp
  · rw [order_nan_l ha h]; rfl
theorem ord_eq {a b : Nat} (ha : a < 18446744073709551616) (hb : b < 18446744073709551616) : (FloatKind.f64.format.order a b == some Ordering.eq) = (!isNan a && !isNan b && decide (key a = key b)) := by
  show (Ieee.double.order a b == some Ordering.eq) = _
  cases h : isNan a
  · cases h' : isNan b
    · rw [order_eq ha hb h h']
      by_cases h1 : key a < key b
      · rw [if_pos h1]; simp; omega
      · rw [if_neg h1]
        by_cases h2 : key a = key b <;> simp [h2]
    · rw [order_nan_r hb h']; rfl
  · rw [order_nan_l ha h]; rfl
theorem ord_lt {a b : Nat} (ha : a < 18446744073709551616) (hb : b < 18446744073709551616) : (FloatKind.f64.format.order a b == some Ordering.lt) = (!isNan a && !isNan b && decide (key a < key b)) := by
  show (Ieee.double.order a b == some Ordering.lt) = _
  cases h : isNan a
  · cases h' : isNan b
    · rw [order_eq ha hb h h']
      by_cases h1 : key a < key b
      · rw [if_pos h1]; simp [h1]
      · rw [if_neg h1]
        by_cases h2 : key a = key b <;> simp [h2, h1]
    · rw [order_nan_r hb h']; rfl
  · rw [order_nan_l ha h]; rfl
theorem ord_gt {a b : Nat} (ha : a < 18446744073709551616) (hb : b < 18446744073709551616) : (FloatKind.f64.format.order a b == some Ordering.gt) = (!isNan a && !isNan b && decide (key b < key a)) := by
  show (Ieee.double.order a b == some Ordering.gt) = _
  cases h : isNan a
  · cases h' : isNan b
    · rw [order_eq ha hb h h']
      by_cases h1 : key a < key b
      · rw [if_pos h1]; simp; omega
      · rw [if_neg h1]
        by_cases h2 : key a = key b
        · simp [h2]
        · simp [h2]; omega
    · rw [order_nan_r hb h']; rfl
  · rw [order_nan_l ha h]; rfl
def canon (a : Nat) : Nat := if isNan a = true then 9221120237041090561 else a
def copysign (a b : Nat) : Nat := if 9223372036854775808 ≤ b then rung a + 9223372036854775808 else rung a
end Flt

theorem ret_bool {a b : Bool} (h : a = b) : Ending.returned (.bool a) = .returned (.bool b) := by rw [h]
theorem ret_float {a b : Nat} (h : a = b) : Ending.returned (.float .f64 a) = .returned (.float .f64 b) := by rw [h]
theorem ret_int {k : IntKind} {a b : Int} (h : a = b) : Ending.returned (.int k a) = .returned (.int k b) := by rw [h]

theorem isnan_any (a : Nat) (ha : a < 18446744073709551616) (w : World) :
    Calls Tryz.prog 106 #[.float .f64 a] w fun e w' => e = .returned (.bool (Flt.isNan a)) ∧ w = w' := by
  go_enter Tryz.func106, Tryz.ntmps106
  go_wp2
  go_ret
  exact ⟨ret_bool (Flt.ord_self ha), rfl⟩
theorem abs_any (a : Nat) (ha : a < 18446744073709551616) (w : World) :
    Calls Tryz.prog 110 #[.float .f64 a] w fun e w' => e = .returned (.float .f64 (Flt.rung a)) ∧ w = w' := by
  have h1 := run_frombits
  have h2 := run_bits
  go_enter Tryz.func110, Tryz.ntmps110
  go_wp2
  go_ret
  exact ⟨ret_float (by rw [Flt.b_andNot_sign a ha]; rfl), rfl⟩
theorem signbit_any (a : Nat) (ha : a < 18446744073709551616) (w : World) :
    Calls Tryz.prog 108 #[.float .f64 a] w fun e w' => e = .returned (.bool (Flt.neg a)) ∧ w = w' := by
  have h2 := run_bits
  go_enter Tryz.func108, Tryz.ntmps108
  go_wp2
  go_ret
  exact ⟨ret_bool (by unfold Flt.neg RowKit.wrap64; rw [Bool.eq_iff_iff]; simp only [decide_eq_true_eq]; omega), rfl⟩
theorem copysign_any (a b : Nat) (ha : a < 18446744073709551616) (hb : b < 18446744073709551616) (w : World) :
    Calls Tryz.prog 105 #[.float .f64 a, .float .f64 b] w fun e w' => e = .returned (.float .f64 (Flt.copysign a b)) ∧ w = w' := by
  have h1 := run_frombits
  have h2 := run_bits
  go_enter Tryz.func105, Tryz.ntmps105
  go_wp2
  go_ret
  refine ⟨ret_float ?_, rfl⟩
  have hr : Flt.rung a < 9223372036854775808 := Nat.mod_lt _ (by decide)
  unfold Flt.copysign
  rw [Flt.b_andNot_sign a ha, Flt.b_and_sign b hb]
  by_cases h : 9223372036854775808 ≤ b
  · rw [if_pos h, if_pos h, Flt.b_or_sign _ hr]; rfl
  · rw [if_neg h, if_neg h, Flt.b_or_zero _ (by omega)]; rfl
theorem canon_any (a : Nat) (ha : a < 18446744073709551616) (w : World) :
    Calls Tryz.prog 83 #[.float .f64 a] w fun e w' => e = .returned (.float .f64 (Flt.canon a)) ∧ w = w' := by
  have h1 := run_frombits
  cases hn : Flt.isNan a
  · have hc : Flt.canon a = a := by unfold Flt.canon; rw [hn]; rfl
    rw [hc]
    clear hc
    go_enter Tryz.func83, Tryz.ntmps83
    go_wp2_with (go_at_call 106; refine (isnan_any _ ha _).mono ?_; rintro e w' ⟨rfl, rfl⟩)
    go_ret
    exact ⟨rfl, rfl⟩
  · have hc : Flt.canon a = 9221120237041090561 := by unfold Flt.canon; rw [hn]; rfl
    rw [hc]
    clear hc
    go_enter Tryz.func83, Tryz.ntmps83
    go_wp2_with (go_at_call 106; refine (isnan_any _ ha _).mono ?_; rintro e w' ⟨rfl, rfl⟩)
    go_ret
    exact ⟨rfl, rfl⟩
theorem inf_pos (w : World) : Calls Tryz.prog 100 #[.int .i64 1] w fun e w' => e = .returned (.float .f64 9218868437227405312) ∧ w = w' := by
  have h1 := run_frombits
  go_enter Tryz.func100, Tryz.ntmps100
  go_wp2
  go_ret
  exact ⟨rfl, rfl⟩
theorem inf_neg (w : World) : Calls Tryz.prog 100 #[.int .i64 (-1)] w fun e w' => e = .returned (.float .f64 18442240474082181120) ∧ w = w' := by
  have h1 := run_frombits
  go_enter Tryz.func100, Tryz.ntmps100
  go_wp2
  go_ret
  exact ⟨rfl, rfl⟩
theorem nan_any (w : World) : Calls Tryz.prog 99 #[] w fun e w' => e = .returned (.float .f64 9221120237041090561) ∧ w = w' := by
  have h1 := run_frombits
  go_enter Tryz.func99, Tryz.ntmps99
  go_wp2
  go_ret
  exact ⟨rfl, rfl⟩
end Go.Proofs.YtainigcchlgehaaGreatDoor
namespace Go.Proofs.YtainigcchlgehaaGreatDoor
open Go
namespace Flt
def kbits (a : Nat) : Nat := if isNan a = true then 18446744073709551615 else if 9223372036854775808 ≤ a then 18446744073709551615 - a else a + 9223372036854775808
def cmp3 (x y : Int) : Int := if x < y then -1 else if y < x then 1 else 0
theorem kbits_nan {a : Nat} (hn : isNan a = true) : kbits a = 18446744073709551615 := by unfold kbits; rw [if_pos hn]
theorem kbits_neg {a : Nat} (hn : isNan a = false) (hs : 9223372036854775808 ≤ a) : kbits a = 18446744073709551615 - a := by unfold kbits; rw [if_neg (by simp [hn]), if_pos hs]
theorem kbits_pos {a : Nat} (hn : isNan a = false) (hs : a < 9223372036854775808) : kbits a = a + 9223372036854775808 := by unfold kbits; rw [if_neg (by simp [hn]), if_neg (by omega)]
theorem u64max : IntKind.u64.max = 18446744073709551615 := by decide
end Flt
theorem ret_tup3 {a a' b b' c c' : Value} (h : a = a') (h2 : b = b') (h3 : c = c') : Ending.returned (.tuple #[a, b, c]) = .returned (.tuple #[a', b', c']) := by rw [h, h2, h3]
theorem ret_tup2 {a a' b b' : Value} (h : a = a') (h2 : b = b') : Ending.returned (.tuple #[a, b]) = .returned (.tuple #[a', b']) := by rw [h, h2]
namespace Flt
def field (a : Nat) : Nat := a / 4503599627370496 % 2048
def frac (a : Nat) : Nat := a % 4503599627370496
theorem isNan_iff (a : Nat) : isNan a = true ↔ field a = 2047 ∧ frac a ≠ 0 := by
  unfold isNan field frac rung
  rw [decide_eq_true_eq]
  omega
end Flt
theorem parts_any (a : Nat) (ha : a < 18446744073709551616) (w : World) :
    Calls Tryz.prog 42 #[.float .f64 a] w fun e w' => e = .returned (.tuple #[.bool (Flt.neg a), .int .i64 (Flt.field a : Nat), .int .i64 (Flt.frac a : Nat)]) ∧ w = w' := by
  have h2 := run_bits
  go_enter Tryz.func42, Tryz.ntmps42
  go_wp2
  go_ret3
  have e0 : (((a : Int) / 9223372036854775808 == 1) : Bool) = Flt.neg a := by unfold Flt.neg; rw [Bool.eq_iff_iff]; simp only [beq_iff_eq, decide_eq_true_eq]; omega
  have e1 : RowKit.wrap64 (bits BinOp.and IntKind.u64 ((a : Int) / 4503599627370496) 2047) = ((Flt.field a : Nat) : Int) := by
    unfold Flt.field
    have h := Flt.b_and_2047 (a / 4503599627370496) (by omega)
    rw [show (((a / 4503599627370496 : Nat) : Int)) = (a : Int) / 4503599627370496 from by omega] at h
    rw [h]; unfold RowKit.wrap64; omega
  have e2 : RowKit.wrap64 (bits BinOp.and IntKind.u64 (a : Int) 4503599627370495) = ((Flt.frac a : Nat) : Int) := by
    unfold Flt.frac
    rw [Flt.b_and_frac a ha]; unfold RowKit.wrap64; omega
  exact ⟨ret_tup3 (by rw [← e0]; rfl) (by rw [← e1]; rfl) (by rw [← e2]; rfl), rfl⟩

theorem rnan_any (a : Nat) (ha : a < 18446744073709551616) (w : World) :
    Calls Tryz.prog 59 #[.float .f64 a] w fun e w' => e = .returned (.bool (Flt.isNan a)) ∧ w = w' := by
  have HI := Lib.hid (Flt.isNan_iff a)
  by_cases h1 : Flt.field a = 2047
  · have h2 : (((Flt.field a : Nat) : Int) == 2047) = true := by simp; omega
    have H1 := Lib.hid h1
    clear h1
    go_enter Tryz.func59, Tryz.ntmps59
    go_wp2_with (go_at_call 42; refine (parts_any _ ha _).mono ?_; rintro e w' ⟨rfl, rfl⟩)
    go_ret
    refine ⟨ret_bool ?_, rfl⟩
    have h1' := H1.out
    rw [Bool.eq_iff_iff, HI.out]
    simp
    omega
  · have h2 : (((Flt.field a : Nat) : Int) == 2047) = false := by simp; omega
    have H1 := Lib.hid h1
    clear h1
    go_enter Tryz.func59, Tryz.ntmps59
    go_wp2_with (go_at_call 42; refine (parts_any _ ha _).mono ?_; rintro e w' ⟨rfl, rfl⟩)
    go_ret
    refine ⟨ret_bool ?_, rfl⟩
    have h1' := H1.out
    rw [Bool.eq_iff_iff, HI.out]
    simp
    omega
theorem rbits_any (a : Nat) (ha : a < 18446744073709551616) (w : World) :
    Calls Tryz.prog 41 #[.float .f64 a] w fun e w' => e = .returned (.int .u64 (Flt.canon a : Nat)) ∧ w = w' := by
  have h1 := run_bits
  cases hn : Flt.isNan a
  · have hc : Flt.canon a = a := by unfold Flt.canon; rw [hn]; rfl
    rw [hc]
    clear hc
    go_enter Tryz.func41, Tryz.ntmps41
    go_wp2_with (go_at_call 59; refine (rnan_any _ ha _).mono ?_; rintro e w' ⟨rfl, rfl⟩)
    go_ret
    exact ⟨rfl, rfl⟩
  · have hc : Flt.canon a = 9221120237041090561 := by unfold Flt.canon; rw [hn]; rfl
    rw [hc]
    clear hc
    go_enter Tryz.func41, Tryz.ntmps41
    go_wp2_with (go_at_call 59; refine (rnan_any _ ha _).mono ?_; rintro e w' ⟨rfl, rfl⟩)
    go_ret
    exact ⟨rfl, rfl⟩
end Go.Proofs.YtainigcchlgehaaGreatDoor
namespace Go.Proofs.YtainigcchlgehaaGreatDoor
open Go
namespace Flt
theorem canon_num {a : Nat} (hn : isNan a = false) : canon a = a := by unfold canon; rw [hn]; rfl
theorem canon_nan {a : Nat} (hn : isNan a = true) : canon a = 9221120237041090561 := by unfold canon; rw [hn]; rfl
theorem isNan_canon {a : Nat} : isNan (canon a) = isNan a := by
  cases hn : isNan a
  · rw [canon_num hn, hn]
  · rw [canon_nan hn]; decide
theorem canon_lt {a : Nat} (ha : a < 18446744073709551616) : canon a < 18446744073709551616 := by
  unfold canon; split
  · decide
  · exact ha
theorem kbits_lt (a : Nat) (ha : a < 18446744073709551616) : kbits a < 18446744073709551616 := by
  unfold kbits; (repeat' split) <;> omega
/-- the document's order, by bits -/
def rord (a b : Nat) : Int := if canon a = canon b then 0 else if isNan a = true then 1 else if isNan b = true then -1 else
  if 9223372036854775808 ≤ a then (if 9223372036854775808 ≤ b then (if a < b then 1 else -1) else -1) else (if 9223372036854775808 ≤ b then 1 else if a < b then -1 else 1)
theorem rord_eq (a b : Nat) (ha : a < 18446744073709551616) (hb : b < 18446744073709551616) : rord a b = cmp3 (kbits a : Nat) (kbits b : Nat) := by
  unfold rord
  cases hn : isNan a <;> cases hm : isNan b
  · rw [canon_num hn, canon_num hm]
    unfold cmp3 kbits
    simp only [hn, hm, Bool.false_eq_true, if_false]
    (repeat' split) <;> omega
  · rw [canon_num hn, canon_nan hm, kbits_nan hm]
    have hne : a ≠ 9221120237041090561 := by intro e; subst e; revert hn; decide
    have hk : kbits a < 18446744073709551615 := by
      unfold kbits
      simp only [hn, Bool.false_eq_true, if_false]
      unfold isNan rung at hn
      simp only [decide_eq_false_iff_not] at hn
      split <;> omega
    rw [if_neg hne, if_neg (by decide), if_pos rfl]
    unfold cmp3
    rw [if_pos (by omega)]
  · rw [canon_nan hn, canon_num hm, kbits_nan hn]
    have hne : ¬ 9221120237041090561 = b := by intro e; subst e; revert hm; decide
    have hk : kbits b < 18446744073709551615 := by
      unfold kbits
      simp only [hm, Bool.false_eq_true, if_false]
      unfold isNan rung at hm
      simp only [decide_eq_false_iff_not] at hm
      split <;> omega
    rw [if_neg hne, if_pos rfl]
    unfold cmp3
    rw [if_neg (by omega), if_pos (by omega)]
  · rw [canon_nan hn, canon_nan hm, kbits_nan hn, kbits_nan hm]
    rfl
end Flt
end Go.Proofs.YtainigcchlgehaaGreatDoor
namespace Go.Proofs.YtainigcchlgehaaGreatDoor
open Go
namespace Flt
theorem rung_small {a : Nat} (ha : a < 9223372036854775808) : rung a = a := Nat.mod_eq_of_lt ha
theorem key_small {a : Nat} (ha : a < 9223372036854775808) : key a = a := by unfold key; rw [if_neg (by omega), rung_small ha]
theorem num_small {a : Nat} (ha : a ≤ 9218868437227405312) : isNan a = false := by unfold isNan; rw [rung_small (by omega)]; simp; omega
theorem nan_rung (a : Nat) : isNan (rung a) = isNan a := by unfold isNan rung; rw [Nat.mod_mod]
def negBits (a : Nat) : Nat := if 9223372036854775808 ≤ a then a - 9223372036854775808 else a + 9223372036854775808
theorem negFloat_eq (a : Nat) (ha : a < 18446744073709551616) : Op.negFloat .f64 a = negBits a := by
  unfold Op.negFloat negBits
  show a ^^^ 2 ^ (11 + 52) = _
  rw [show (2 ^ (11 + 52) : Nat) = 9223372036854775808 from by decide]
  have h1 : (a ^^^ 9223372036854775808) % 2 ^ 63 = a % 2 ^ 63 := by rw [Nat.xor_mod_two_pow]; simp
  have h2 : (a ^^^ 9223372036854775808) / 2 ^ 63 = (a / 2 ^ 63) ^^^ 1 := by rw [Nat.xor_div_two_pow]
  rw [show (2 ^ 63 : Nat) = 9223372036854775808 from by decide] at h1 h2
  have h3 : a / 9223372036854775808 = 0 ∨ a / 9223372036854775808 = 1 := by omega
  rcases h3 with h3 | h3
  · rw [h3, show (0 ^^^ 1 : Nat) = 1 from rfl] at h2
    rw [if_neg (by omega)]; omega
  · rw [h3, show (1 ^^^ 1 : Nat) = 0 from rfl] at h2
    rw [if_pos (by omega)]; omega
theorem gt_max {a : Nat} (ha : a < 18446744073709551616) : (FloatKind.f64.format.order a 9218868437227405311 == some Ordering.gt) = decide (a = 9218868437227405312) := by
  rw [ord_gt ha (by decide), key_small (a := 9218868437227405311) (by decide), Bool.eq_iff_iff]
  simp only [show isNan 9218868437227405311 = false from by decide, Bool.not_false, Bool.and_true, Bool.and_eq_true, Bool.not_eq_true', decide_eq_true_eq]
  unfold isNan key rung
  rw [decide_eq_false_iff_not]
  split <;> omega
end Flt

theorem isinf0_any (a : Nat) (ha : a < 18446744073709551616) (w : World) :
    Calls Tryz.prog 107 #[.float .f64 a, .int .i64 0] w fun e w' => e = .returned (.bool (decide (Flt.rung a = 9218868437227405312))) ∧ w = w' := by
  have hr : Flt.rung a < 9223372036854775808 := Nat.mod_lt _ (by decide)
  go_enter Tryz.func107, Tryz.ntmps107
  go_wp2_with (go_at_call 110; refine (abs_any _ ha _).mono ?_; rintro e w' ⟨rfl, rfl⟩)
  go_ret
  exact ⟨ret_bool (Flt.gt_max (by omega)), rfl⟩
theorem isinf1_any (a : Nat) (ha : a < 18446744073709551616) (w : World) :
    Calls Tryz.prog 107 #[.float .f64 a, .int .i64 1] w fun e w' => e = .returned (.bool (decide (a = 9218868437227405312))) ∧ w = w' := by
  go_enter Tryz.func107, Tryz.ntmps107
  go_wp2_with fail
  go_ret
  exact ⟨ret_bool (Flt.gt_max ha), rfl⟩
theorem isinfm_any (a : Nat) (ha : a < 18446744073709551616) (w : World) :
    Calls Tryz.prog 107 #[.float .f64 a, .int .i64 (-1)] w fun e w' => e = .returned (.bool (decide (a = 18442240474082181120))) ∧ w = w' := by
  have hn : Flt.negBits a < 18446744073709551616 := by unfold Flt.negBits; split <;> omega
  have hu : ∀ (W : World), (Op.unary .neg (.float .f64 a)).run Tryz.prog W = .ok (.float .f64 (Op.negFloat .f64 a)) W := fun _ => rfl
  go_enter Tryz.func107, Tryz.ntmps107
  go_wp2_with fail
  go_ret
  refine ⟨ret_bool ?_, rfl⟩
  rw [Flt.negFloat_eq a ha, Flt.gt_max hn, Bool.eq_iff_iff, decide_eq_true_eq, decide_eq_true_eq]
  unfold Flt.negBits
  split <;> omega
/-- normalize, of a positive number that is normal -/
theorem normalize_n (a : Nat) (h1 : 4503599627370496 ≤ a) (h2 : a < 9218868437227405312) (w : World) :
    Calls Tryz.prog 134 #[.float .f64 a] w fun e w' => e = .returned (.tuple #[.float .f64 a, .int .i64 0]) ∧ w = w' := by
  have hr : Flt.rung a = a := Flt.rung_small (by omega)
  have ho : (FloatKind.f64.format.order a 4503599627370496 == some Ordering.lt) = false := by
    rw [Flt.ord_lt (by omega) (by decide), Flt.key_small (a := a) (by omega), Flt.key_small (a := 4503599627370496) (by decide)]
    simp; omega
  have HA := abs_any a (by omega)
  rw [hr] at HA
  clear hr
  go_enter Tryz.func134, Tryz.ntmps134
  go_wp2_with (go_at_call 110; refine (HA _).mono ?_; rintro e w' ⟨rfl, rfl⟩)
  go_ret2
  exact ⟨rfl, rfl⟩
theorem Flt.mul52 {a : Nat} (h1 : 0 < a) (h2 : a < 4503599627370496) : Ieee.double.mul a 4841369599423283200 = some (Flt.rungOf a 52) := by
  have hr : Flt.rung a = a := Flt.rung_small (by omega)
  have hl := Flt.log2_le52 (m := a) h1 (by omega)
  have ra := Flt.read_fin (a := a) (by omega) (by rw [hr]; omega)
  have rb : Ieee.double.read 4841369599423283200 = .number false 4503599627370496 0 := by decide +kernel
  rw [hr] at ra
  have e1 : Flt.xp a = 0 := by unfold Flt.xp; omega
  have e2 : Flt.mant a = a := by unfold Flt.mant; rw [if_pos h2]
  have e3 : Flt.neg a = false := by unfold Flt.neg; simp; omega
  rw [e1, e2, e3] at ra
  have h := Flt.mul_exact ra rb (Flt.rungOf a 52) 0 0 (Flt.rungOf_lt h1 (by omega) (by omega)) (Flt.rungOf_pos 52 h1 (by omega)) (by decide) (by
      rw [Flt.V_rungOf 52 h1 (by omega), show (2 : Nat) ^ 52 = 4503599627370496 from by decide])
  simp only [Bool.xor_self, Bool.false_eq_true, if_false] at h
  exact h
/-- .. of one that is not -/
theorem normalize_s (a : Nat) (h1 : 0 < a) (h2 : a < 4503599627370496) (w : World) :
    Calls Tryz.prog 134 #[.float .f64 a] w fun e w' => e = .returned (.tuple #[.float .f64 (Flt.rungOf a 52), .int .i64 (-52)]) ∧ w = w' := by
  have hr : Flt.rung a = a := Flt.rung_small (by omega)
  have ho : (FloatKind.f64.format.order a 4503599627370496 == some Ordering.lt) = true := by
    rw [Flt.ord_lt (by omega) (by decide), Flt.key_small (a := a) (by omega), Flt.key_small (a := 4503599627370496) (by decide), Flt.num_small (by omega), Flt.num_small (by decide)]
    simp; omega
  have hm : floatBits .mul .f64 a 4841369599423283200 = some (Flt.rungOf a 52) := Flt.mul52 h1 h2
  have hrun := fun W => run_float_arith (P := Tryz.prog) W .mul 39 .f64 a 4841369599423283200 _ hm
  have HA := abs_any a (by omega)
  rw [hr] at HA
  clear hr hm
  go_enter Tryz.func134, Tryz.ntmps134
  go_wp2_with (go_at_call 110; refine (HA _).mono ?_; rintro e w' ⟨rfl, rfl⟩)
  go_ret2
  exact ⟨rfl, rfl⟩
end Go.Proofs.YtainigcchlgehaaGreatDoor
namespace Go.Proofs.YtainigcchlgehaaGreatDoor
open Go
theorem val_int {k : IntKind} {a b : Int} (h : a = b) : Value.int k a = Value.int k b := by rw [h]
theorem val_float {a b : Nat} (h : a = b) : Value.float .f64 a = Value.float .f64 b := by rw [h]
theorem eq0_false {a : Nat} (h1 : 0 < a) (h2 : a < 9218868437227405312) : (FloatKind.f64.format.order a 0 == some Ordering.eq) = false := by
  rw [Flt.ord_eq (by omega) (by decide), Flt.key_small (a := a) (by omega), Flt.key_small (a := 0) (by decide)]
  simp; omega
theorem lt0_false {a : Nat} (h2 : a < 9218868437227405312) : (FloatKind.f64.format.order a 0 == some Ordering.lt) = false := by
  rw [Flt.ord_lt (by omega) (by decide), Flt.key_small (a := a) (by omega), Flt.key_small (a := 0) (by decide)]
  simp
set_option maxHeartbeats 400000 in
theorem frexp_core (a r : Nat) (ex : Int) (h1 : 0 < a) (h2 : a < 9218868437227405312) (hr1 : 4503599627370496 ≤ r) (hr2 : r < 9218868437227405312) (hx1 : -52 ≤ ex) (hx2 : ex ≤ 0)
    (HN : ∀ w, Calls Tryz.prog 134 #[.float .f64 a] w fun e w' => e = .returned (.tuple #[.float .f64 r, .int .i64 ex]) ∧ w = w') (w : World) :
    Calls Tryz.prog 136 #[.float .f64 a] w fun e w' => e = .returned (.tuple #[.float .f64 (4602678819172646912 + r % 4503599627370496), .int .i64 (ex + ((r / 4503599627370496 : Nat) : Int) - 1022)]) ∧ w = w' := by
  have h0 := eq0_false h1 h2
  have hi : decide (Flt.rung a = 9218868437227405312) = false := by rw [Flt.rung_small (by omega)]; simp; omega
  have hn : Flt.isNan a = false := Flt.num_small (by omega)
  have HI := isinf0_any a (by omega)
  rw [hi] at HI
  have HM := isnan_any a (by omega)
  rw [hn] at HM
  have hb := run_bits
  have hfb := run_frombits
  obtain ⟨q, hq⟩ : ∃ q : Nat, q = r / 4503599627370496 := ⟨_, rfl⟩
  obtain ⟨f, hf⟩ : ∃ f : Nat, f = r % 4503599627370496 := ⟨_, rfl⟩
  obtain ⟨z, hz⟩ : ∃ z : Nat, z = 4602678819172646912 + f := ⟨_, rfl⟩
  have q1 : 1 ≤ q := by omega
  have q2 : q ≤ 2046 := by omega
  have e1 : (r : Int) / 4503599627370496 = (q : Int) := by omega
  have e2 : bits .and .u64 (q : Int) 2047 = (q : Int) := by rw [Flt.b_and_2047 q (by omega)]; omega
  have e3 : bits .andNot .u64 (r : Int) 9218868437227405312 = (f : Int) := by rw [Flt.b_andNot_exp r (by omega), hf]
  have e4 : bits .or .u64 (f : Int) 4602678819172646912 = (z : Int) := by
    have := Flt.b_or_exp 1022 f (by omega) (by omega)
    rw [show (1022 * 4503599627370496 : Nat) = 4602678819172646912 from by decide] at this
    rw [hz]; exact this
  rw [← hq, ← hf, ← hz]
  clear hq hf hz hi hn h1 h2 hr1 hr2
  go_enter Tryz.func136, Tryz.ntmps136
  go_wp2_with (first | (go_at_call 107; refine (HI _).mono ?_; rintro e w' ⟨rfl, rfl⟩) | (go_at_call 106; refine (HM _).mono ?_; rintro e w' ⟨rfl, rfl⟩) | (go_at_call 134; refine (HN _).mono ?_; rintro e w' ⟨rfl, rfl⟩))
  go_ret2
  exact ⟨ret_tup2 rfl (val_int (show ex + ((q : Int) - 1023 + 1) = ex + (q : Int) - 1022 by omega)), rfl⟩

theorem Flt.bi_and_2047 (q : Nat) (h : q < 2048) : bits .and .i64 (q : Int) 2047 = (q : Int) := by
  have h := bits_mask .i64 63 (by decide) (fun n h0 h1 => by rw [IntKind.wrap_i64]; omega) 11 (by decide) (q : Int) (by omega) (by omega)
  refine h.trans ?_
  omega

set_option maxHeartbeats 400000 in
theorem ldexp_low (a r : Nat) (ex x : Int) (h1 : 0 < a) (h2 : a < 9218868437227405312) (hr1 : 4503599627370496 ≤ r) (hr2 : r < 9218868437227405312) (hx1 : -52 ≤ ex) (hx2 : ex ≤ 0) (hx3 : -40000 ≤ x) (hx4 : x ≤ 40000)
    (HN : ∀ w, Calls Tryz.prog 134 #[.float .f64 a] w fun e w' => e = .returned (.tuple #[.float .f64 r, .int .i64 ex]) ∧ w = w') (ht : x + ex + ((r / 4503599627370496 : Nat) : Int) < -52) (w : World) :
    Calls Tryz.prog 126 #[.float .f64 a, .int .i64 x] w fun e w' => e = .returned (.float .f64 0) ∧ w = w' := by
  have h0 := eq0_false h1 h2
  have hi : decide (Flt.rung a = 9218868437227405312) = false := by rw [Flt.rung_small (by omega)]; simp; omega
  have hn : Flt.isNan a = false := Flt.num_small (by omega)
  have HI := isinf0_any a (by omega)
  rw [hi] at HI
  have HM := isnan_any a (by omega)
  rw [hn] at HM
  have hb := run_bits
  have hfb := run_frombits
  obtain ⟨q, hq⟩ : ∃ q : Nat, q = r / 4503599627370496 := ⟨_, rfl⟩
  obtain ⟨f, hf⟩ : ∃ f : Nat, f = r % 4503599627370496 := ⟨_, rfl⟩
  have q1 : 1 ≤ q := by omega
  have q2 : q ≤ 2046 := by omega
  have f2 : f < 4503599627370496 := by omega
  have e1 : (r : Int) / 4503599627370496 = (q : Int) := by omega
  have e2 : bits .and .i64 (q : Int) 2047 = (q : Int) := Flt.bi_and_2047 q (by omega)
  have e3 : bits .andNot .u64 (r : Int) 9218868437227405312 = (f : Int) := by rw [Flt.b_andNot_exp r (by omega), hf]
  have ht' : x + ex + (q : Int) - 1023 < -1075 := by omega
  have hc : Flt.copysign 0 r = 0 := by unfold Flt.copysign; rw [if_neg (by omega)]; decide
  have HC := copysign_any 0 r (by decide) (by omega)
  rw [hc] at HC
  clear hq hf hi hn h1 h2 hr1 hr2 ht hc
  go_enter Tryz.func126, Tryz.ntmps126
  go_wp2_with (first | (go_at_call 107; refine (HI _).mono ?_; rintro e w' ⟨rfl, rfl⟩) | (go_at_call 106; refine (HM _).mono ?_; rintro e w' ⟨rfl, rfl⟩) | (go_at_call 134; refine (HN _).mono ?_; rintro e w' ⟨rfl, rfl⟩) | (go_at_call 105; refine (HC _).mono ?_; rintro e w' ⟨rfl, rfl⟩))
  go_ret
  exact ⟨rfl, rfl⟩

set_option maxHeartbeats 400000 in
theorem ldexp_high (a r : Nat) (ex x : Int) (h1 : 0 < a) (h2 : a < 9218868437227405312) (hr1 : 4503599627370496 ≤ r) (hr2 : r < 9218868437227405312) (hx1 : -52 ≤ ex) (hx2 : ex ≤ 0) (hx3 : -40000 ≤ x) (hx4 : x ≤ 40000)
    (HN : ∀ w, Calls Tryz.prog 134 #[.float .f64 a] w fun e w' => e = .returned (.tuple #[.float .f64 r, .int .i64 ex]) ∧ w = w') (ht : 2046 < x + ex + ((r / 4503599627370496 : Nat) : Int)) (w : World) :
    Calls Tryz.prog 126 #[.float .f64 a, .int .i64 x] w fun e w' => e = .returned (.float .f64 9218868437227405312) ∧ w = w' := by
  have h0 := eq0_false h1 h2
  have hi : decide (Flt.rung a = 9218868437227405312) = false := by rw [Flt.rung_small (by omega)]; simp; omega
  have hn : Flt.isNan a = false := Flt.num_small (by omega)
  have HI := isinf0_any a (by omega)
  rw [hi] at HI
  have HM := isnan_any a (by omega)
  rw [hn] at HM
  have hb := run_bits
  have hfb := run_frombits
  obtain ⟨q, hq⟩ : ∃ q : Nat, q = r / 4503599627370496 := ⟨_, rfl⟩
  obtain ⟨f, hf⟩ : ∃ f : Nat, f = r % 4503599627370496 := ⟨_, rfl⟩
  have q1 : 1 ≤ q := by omega
  have q2 : q ≤ 2046 := by omega
  have f2 : f < 4503599627370496 := by omega
  have e1 : (r : Int) / 4503599627370496 = (q : Int) := by omega
  have e2 : bits .and .i64 (q : Int) 2047 = (q : Int) := Flt.bi_and_2047 q (by omega)
  have e3 : bits .andNot .u64 (r : Int) 9218868437227405312 = (f : Int) := by rw [Flt.b_andNot_exp r (by omega), hf]
  have ht' : 1023 < x + ex + (q : Int) - 1023 := by omega
  have hl := lt0_false hr2
  have HC := inf_pos
  clear hq hf hi hn h1 h2 hr1 hr2 ht
  go_enter Tryz.func126, Tryz.ntmps126
  go_wp2_with (first | (go_at_call 107; refine (HI _).mono ?_; rintro e w' ⟨rfl, rfl⟩) | (go_at_call 106; refine (HM _).mono ?_; rintro e w' ⟨rfl, rfl⟩) | (go_at_call 134; refine (HN _).mono ?_; rintro e w' ⟨rfl, rfl⟩) | (go_at_call 100; refine (HC _).mono ?_; rintro e w' ⟨rfl, rfl⟩))
  go_ret
  exact ⟨rfl, rfl⟩

theorem Flt.neg_small {a : Nat} (h : a < 9223372036854775808) : Flt.neg a = false := by unfold Flt.neg; simp; omega
theorem Flt.mul_one {z : Nat} (h1 : 0 < z) (h2 : z < 9218868437227405312) : Ieee.double.mul 4607182418800017408 z = some z := by
  have hr : Flt.rung z = z := Flt.rung_small (by omega)
  have rz := Flt.read_fin (a := z) (by omega) (by rw [hr]; omega)
  have ro : Ieee.double.read 4607182418800017408 = .number false 4503599627370496 (-52) := by decide +kernel
  rw [hr, Flt.neg_small (by omega)] at rz
  have h := Flt.mul_exact ro rz z (Flt.xp z) 52 h2 h1 (by omega) (by
    unfold Flt.V
    rw [show (2 : Nat) ^ 52 = 4503599627370496 from by decide, Nat.mul_assoc 4503599627370496, Nat.mul_comm 4503599627370496])
  simp only [Bool.xor_self, Bool.false_eq_true, if_false] at h
  exact h

set_option maxHeartbeats 400000 in
theorem ldexp_mid (a r : Nat) (ex x : Int) (h1 : 0 < a) (h2 : a < 9218868437227405312) (hr1 : 4503599627370496 ≤ r) (hr2 : r < 9218868437227405312) (hx1 : -52 ≤ ex) (hx2 : ex ≤ 0) (hx3 : -40000 ≤ x) (hx4 : x ≤ 40000)
    (HN : ∀ w, Calls Tryz.prog 134 #[.float .f64 a] w fun e w' => e = .returned (.tuple #[.float .f64 r, .int .i64 ex]) ∧ w = w') (ht1 : 1 ≤ x + ex + ((r / 4503599627370496 : Nat) : Int)) (ht2 : x + ex + ((r / 4503599627370496 : Nat) : Int) ≤ 2046) (w : World) :
    Calls Tryz.prog 126 #[.float .f64 a, .int .i64 x] w fun e w' => e = .returned (.float .f64 ((x + ex + ((r / 4503599627370496 : Nat) : Int)).toNat * 4503599627370496 + r % 4503599627370496)) ∧ w = w' := by
  have h0 := eq0_false h1 h2
  have hi : decide (Flt.rung a = 9218868437227405312) = false := by rw [Flt.rung_small (by omega)]; simp; omega
  have hn : Flt.isNan a = false := Flt.num_small (by omega)
  have HI := isinf0_any a (by omega)
  rw [hi] at HI
  have HM := isnan_any a (by omega)
  rw [hn] at HM
  have hb := run_bits
  have hfb := run_frombits
  obtain ⟨q, hq⟩ : ∃ q : Nat, q = r / 4503599627370496 := ⟨_, rfl⟩
  obtain ⟨f, hf⟩ : ∃ f : Nat, f = r % 4503599627370496 := ⟨_, rfl⟩
  have q1 : 1 ≤ q := by omega
  have q2 : q ≤ 2046 := by omega
  have f2 : f < 4503599627370496 := by omega
  have e1 : (r : Int) / 4503599627370496 = (q : Int) := by omega
  have e2 : bits .and .i64 (q : Int) 2047 = (q : Int) := Flt.bi_and_2047 q (by omega)
  have e3 : bits .andNot .u64 (r : Int) 9218868437227405312 = (f : Int) := by rw [Flt.b_andNot_exp r (by omega), hf]
  rw [← hq, ← hf]
  rw [← hq] at ht1 ht2
  obtain ⟨t, ht⟩ : ∃ t : Nat, (t : Int) = x + ex + (q : Int) := ⟨(x + ex + (q : Int)).toNat, by omega⟩
  have t1 : -1022 ≤ x + ex + ((q : Int) - 1023) := by omega
  have t2 : x + ex + ((q : Int) - 1023) ≤ 1023 := by omega
  obtain ⟨z, hz⟩ : ∃ z : Nat, z = (x + ex + (q : Int)).toNat * 4503599627370496 + f := ⟨_, rfl⟩
  have e4 : bits .or .u64 (f : Int) ((x + ex + ((q : Int) - 1023) + 1023) * 4503599627370496) = (z : Int) := by
    have := Flt.b_or_exp t f (by omega) (by omega)
    rw [show (x + ex + ((q : Int) - 1023) + 1023) * 4503599627370496 = ((t * 4503599627370496 : Nat) : Int) from by omega, this, hz]
    omega
  have hm : floatBits .mul .f64 4607182418800017408 z = some z := Flt.mul_one (by omega) (by omega)
  have hrun := fun W => run_float_arith (P := Tryz.prog) W .mul 39 .f64 4607182418800017408 z _ hm
  rw [← hz]
  clear hq hf hi hn h1 h2 hr1 hr2 ht hz hm ht1 ht2
  go_enter Tryz.func126, Tryz.ntmps126
  go_wp2_with (first | (go_at_call 107; refine (HI _).mono ?_; rintro e w' ⟨rfl, rfl⟩) | (go_at_call 106; refine (HM _).mono ?_; rintro e w' ⟨rfl, rfl⟩) | (go_at_call 134; refine (HN _).mono ?_; rintro e w' ⟨rfl, rfl⟩))
  go_ret
  exact ⟨rfl, rfl⟩

/-- 2 to the power of -53, times: there is one answer -/
theorem Flt.mul_tiny {z : Nat} (h2 : z < 9218868437227405312) : ∃ v, Ieee.double.mul 4368491638549381120 z = some v ∧ v < 18446744073709551616 := by
  have hr : Flt.rung z = z := Flt.rung_small (by omega)
  have rz := Flt.read_fin (a := z) (by omega) (by rw [hr]; omega)
  have ro : Ieee.double.read 4368491638549381120 = .number false 4503599627370496 (-105) := by decide +kernel
  have hm : Ieee.double.mul 4368491638549381120 z = some (Ieee.double.write (.number (false ^^ Flt.neg z) (4503599627370496 * Flt.mant (Flt.rung z)) (-105 + (-1074 + (Flt.xp (Flt.rung z) : Nat))))) := by
    unfold Ieee.Format.mul
    rw [ro, rz]
    rfl
  exact ⟨_, hm, Ieee.double.mul_lt hm⟩
def Flt.tiny (z : Nat) : Nat := (Ieee.double.mul 4368491638549381120 z).getD 0

set_option maxHeartbeats 400000 in
theorem ldexp_tiny (a r : Nat) (ex x : Int) (h1 : 0 < a) (h2 : a < 9218868437227405312) (hr1 : 4503599627370496 ≤ r) (hr2 : r < 9218868437227405312) (hx1 : -52 ≤ ex) (hx2 : ex ≤ 0) (hx3 : -40000 ≤ x) (hx4 : x ≤ 40000)
    (HN : ∀ w, Calls Tryz.prog 134 #[.float .f64 a] w fun e w' => e = .returned (.tuple #[.float .f64 r, .int .i64 ex]) ∧ w = w') (ht1 : -52 ≤ x + ex + ((r / 4503599627370496 : Nat) : Int)) (ht2 : x + ex + ((r / 4503599627370496 : Nat) : Int) ≤ 0) (w : World) :
    Calls Tryz.prog 126 #[.float .f64 a, .int .i64 x] w fun e w' => e = .returned (.float .f64 (Flt.tiny ((x + ex + ((r / 4503599627370496 : Nat) : Int) + 53).toNat * 4503599627370496 + r % 4503599627370496))) ∧ w = w' := by
  have h0 := eq0_false h1 h2
  have hi : decide (Flt.rung a = 9218868437227405312) = false := by rw [Flt.rung_small (by omega)]; simp; omega
  have hn : Flt.isNan a = false := Flt.num_small (by omega)
  have HI := isinf0_any a (by omega)
  rw [hi] at HI
  have HM := isnan_any a (by omega)
  rw [hn] at HM
  have hb := run_bits
  have hfb := run_frombits
  obtain ⟨q, hq⟩ : ∃ q : Nat, q = r / 4503599627370496 := ⟨_, rfl⟩
  obtain ⟨f, hf⟩ : ∃ f : Nat, f = r % 4503599627370496 := ⟨_, rfl⟩
  have q1 : 1 ≤ q := by omega
  have q2 : q ≤ 2046 := by omega
  have f2 : f < 4503599627370496 := by omega
  have e1 : (r : Int) / 4503599627370496 = (q : Int) := by omega
  have e2 : bits .and .i64 (q : Int) 2047 = (q : Int) := Flt.bi_and_2047 q (by omega)
  have e3 : bits .andNot .u64 (r : Int) 9218868437227405312 = (f : Int) := by rw [Flt.b_andNot_exp r (by omega), hf]
  rw [← hq, ← hf]
  rw [← hq] at ht1 ht2
  obtain ⟨t, ht⟩ : ∃ t : Nat, (t : Int) = x + ex + (q : Int) + 53 := ⟨(x + ex + (q : Int) + 53).toNat, by omega⟩
  have t1 : -1075 ≤ x + ex + ((q : Int) - 1023) := by omega
  have t2 : x + ex + ((q : Int) - 1023) < -1022 := by omega
  obtain ⟨z, hz⟩ : ∃ z : Nat, z = (x + ex + (q : Int) + 53).toNat * 4503599627370496 + f := ⟨_, rfl⟩
  have e4 : bits .or .u64 (f : Int) ((x + ex + ((q : Int) - 1023) + 53 + 1023) * 4503599627370496) = (z : Int) := by
    have := Flt.b_or_exp t f (by omega) (by omega)
    rw [show (x + ex + ((q : Int) - 1023) + 53 + 1023) * 4503599627370496 = ((t * 4503599627370496 : Nat) : Int) from by omega, this, hz]
    omega
  obtain ⟨v, hv, _⟩ := Flt.mul_tiny (z := z) (by omega)
  have hm : floatBits .mul .f64 4368491638549381120 z = some v := hv
  have hrun := fun W => run_float_arith (P := Tryz.prog) W .mul 39 .f64 4368491638549381120 z _ hm
  have hv' : Flt.tiny z = v := by unfold Flt.tiny; rw [hv]; rfl
  rw [← hz, hv']
  clear hq hf hi hn h1 h2 hr1 hr2 ht hz hm ht1 ht2 hv hv'
  go_enter Tryz.func126, Tryz.ntmps126
  go_wp2_with (first | (go_at_call 107; refine (HI _).mono ?_; rintro e w' ⟨rfl, rfl⟩) | (go_at_call 106; refine (HM _).mono ?_; rintro e w' ⟨rfl, rfl⟩) | (go_at_call 134; refine (HN _).mono ?_; rintro e w' ⟨rfl, rfl⟩))
  go_ret
  exact ⟨rfl, rfl⟩
end Go.Proofs.YtainigcchlgehaaGreatDoor
namespace Go.Proofs.YtainigcchlgehaaGreatDoor.Flt
open Go Ieee
/-- 1074, under a name -/
@[irreducible] def K : Nat := 1074
theorem K_eq : K = 1074 := by unfold K; rfl
/-- the whole part of a finite float, without its sign -/
def whole (r : Nat) : Nat := V r / 2 ^ K
theorem cut_zero (s : Bool) (n d : Nat) : Toward.zero.cut s n d = n / 2 ^ d := by
  unfold Toward.cut
  simp only [Nat.one_shiftLeft, Bool.toNat_false, Nat.add_zero]
  by_cases h : d ≤ n.log2 + 2
  · rw [Nat.min_eq_left h]
  · rw [Nat.min_eq_right (by omega)]
    have l2 := @Nat.lt_log2_self n
    have h1 : n < 2 ^ (n.log2 + 2) := Nat.lt_of_lt_of_le l2 (Nat.pow_le_pow_right (by decide) (by omega))
    have h2 : n < 2 ^ d := Nat.lt_of_lt_of_le l2 (Nat.pow_le_pow_right (by decide) (by omega))
    rw [Nat.div_eq_of_lt h1, Nat.div_eq_of_lt h2]
theorem integral_fin {a : Nat} (ha : a < 18446744073709551616) (h : rung a < 9218868437227405312) :
    (Ieee.double.read a).integral .zero = .number (neg a) (whole (rung a)) 0 := by
  rw [read_fin ha h]
  simp only [Datum.integral]
  congr 1
  rw [cut_zero, Nat.shiftLeft_eq]
  unfold whole V
  by_cases hx : 1074 ≤ xp (rung a)
  · have e1 : (-1074 + (xp (rung a) : Int)).toNat = xp (rung a) - 1074 := by omega
    have e2 : (-(-1074 + (xp (rung a) : Int))).toNat = 0 := by omega
    rw [e1, e2, Nat.pow_zero, Nat.div_one]
    obtain ⟨k, hk⟩ : ∃ k, xp (rung a) = k + K := ⟨xp (rung a) - K, by rw [K_eq]; omega⟩
    rw [← K_eq, hk, Nat.add_sub_cancel, Nat.pow_add, ← Nat.mul_assoc, Nat.mul_div_cancel _ (Nat.pow_pos (by decide))]
  · have e1 : (-1074 + (xp (rung a) : Int)).toNat = 0 := by omega
    have e2 : (-(-1074 + (xp (rung a) : Int))).toNat = 1074 - xp (rung a) := by omega
    rw [e1, e2, Nat.pow_zero, Nat.mul_one]
    have e3 : (2 : Nat) ^ K = 2 ^ (K - xp (rung a)) * 2 ^ xp (rung a) := by rw [← Nat.pow_add]; congr 1; have := K_eq; omega
    rw [← K_eq, e3, Nat.mul_div_mul_right _ _ (Nat.pow_pos (by decide))]
/-- the rung of the whole part -/
def wrung (r : Nat) : Nat := if 1074 ≤ xp r then r else if whole r = 0 then 0 else rungOf (whole r) K
theorem whole_small {r : Nat} (hx : ¬ 1074 ≤ xp r) : whole r < 9007199254740992 := by
  unfold whole V
  have h1 : mant r * 2 ^ xp r / 2 ^ K ≤ mant r := by
    rw [show (2 : Nat) ^ K = 2 ^ (K - xp r) * 2 ^ xp r from by rw [← Nat.pow_add]; congr 1; have := K_eq; omega, Nat.mul_div_mul_right _ _ (Nat.pow_pos (by decide))]
    exact Nat.div_le_self _ _
  have := mant_lt r
  omega
theorem V_wrung (r : Nat) : V (wrung r) = whole r * 2 ^ K := by
  unfold wrung
  by_cases hx : 1074 ≤ xp r
  · rw [if_pos hx]
    unfold whole V
    obtain ⟨k, hk⟩ : ∃ k, xp r = k + K := ⟨xp r - K, by rw [K_eq]; omega⟩
    rw [hk, Nat.pow_add, ← Nat.mul_assoc, Nat.mul_div_cancel _ (Nat.pow_pos (by decide))]
  · rw [if_neg hx]
    by_cases h0 : whole r = 0
    · rw [if_pos h0, h0, V_zero, Nat.zero_mul]
    · rw [if_neg h0, V_rungOf K (by omega) (whole_small hx)]
theorem wrung_lt {r : Nat} (hr : r < 9218868437227405312) : wrung r < 9218868437227405312 := by
  unfold wrung
  by_cases hx : 1074 ≤ xp r
  · rw [if_pos hx]; exact hr
  · rw [if_neg hx]
    by_cases h0 : whole r = 0
    · rw [if_pos h0]; decide
    · rw [if_neg h0]
      have := log2_le52 (m := whole r) (by omega) (whole_small hx)
      exact rungOf_lt (by omega) (whole_small hx) (by rw [K_eq]; omega)
/-- the whole part of a finite float, as a float -/
def trunc (a : Nat) : Nat := if neg a = true then 9223372036854775808 + wrung (rung a) else wrung (rung a)
theorem trunc_eq {a : Nat} (ha : a < 18446744073709551616) (h : rung a < 9218868437227405312) :
    FloatKind.f64.encode ((FloatKind.f64.decode a).integral .zero) = trunc a := by
  have h1 : FloatKind.f64.encode ((FloatKind.f64.decode a).integral .zero) = Ieee.double.write ((Ieee.double.read a).integral .zero) := rfl
  rw [h1, integral_fin ha h]
  show Ieee.double.nearest (neg a) (whole (rung a)) 0 = _
  unfold trunc
  by_cases h0 : wrung (rung a) = 0
  · have : whole (rung a) = 0 := by
      have := V_wrung (rung a)
      rw [h0, V_zero] at this
      have hp : 0 < 2 ^ K := Nat.pow_pos (by decide)
      rcases Nat.eq_zero_or_pos (whole (rung a)) with e | e
      · exact e
      · have := Nat.mul_pos e hp
        omega
    rw [this, h0]
    unfold Format.nearest
    rw [if_pos rfl, word_eq]
  · rw [nearest_exact (neg a) _ 0 (wrung (rung a)) K 0 (wrung_lt h) (by omega) (by rw [K_eq]; omega) (by rw [V_wrung, Nat.pow_zero, Nat.mul_one]), word_eq]
theorem trunc_lt {a : Nat} (h : rung a < 9218868437227405312) : trunc a < 18446744073709551616 := by
  have := wrung_lt h
  unfold trunc; split <;> omega
theorem rung_trunc {a : Nat} (h : rung a < 9218868437227405312) : rung (trunc a) = wrung (rung a) := by
  have := wrung_lt h
  unfold trunc rung at *
  split <;> omega
theorem neg_trunc {a : Nat} (h : rung a < 9218868437227405312) : neg (trunc a) = neg a := by
  have := wrung_lt h
  unfold trunc
  cases hn : neg a
  · rw [if_neg (by decide)]; unfold neg; simp; omega
  · rw [if_pos rfl]; unfold neg; simp
theorem whole_wrung (r : Nat) : whole (wrung r) = whole r := by
  unfold whole
  rw [V_wrung]
  unfold whole
  rw [Nat.mul_div_cancel _ (Nat.pow_pos (by decide))]
/-- the whole part with its sign -/
def wholeInt (a : Nat) : Int := if neg a = true then -((whole (rung a) : Nat) : Int) else (whole (rung a) : Nat)
theorem toInt_fin {a : Nat} (ha : a < 18446744073709551616) (h : rung a < 9218868437227405312) : (FloatKind.f64.decode a).toInt .zero = some (wholeInt a) := by
  show (Ieee.double.read a).toInt .zero = _
  unfold Datum.toInt
  rw [integral_fin ha h]
  simp only [signed, Nat.shiftLeft_zero]
  unfold wholeInt
  cases neg a <;> simp
theorem toInt_i64 {a : Nat} (ha : a < 18446744073709551616) (h : rung a < 9218868437227405312) (h1 : -9223372036854775808 ≤ wholeInt a) (h2 : wholeInt a ≤ 9223372036854775807) :
    floatToIntVal .f64 a .i64 = some (wholeInt a) := by
  unfold floatToIntVal
  rw [toInt_fin ha h]
  simp only []
  rw [if_pos]
  have u1 : IntKind.i64.min = -9223372036854775808 := by decide
  have u2 : IntKind.i64.max = 9223372036854775807 := by decide
  rw [u1, u2]
  exact ⟨h1, h2⟩
/-- 2 to the power of 63 has this rung -/
theorem whole_lt {r : Nat} (h : r < 4890909195324358656) : whole r < 9223372036854775808 := by
  have h1 : V r < V 4890909195324358656 := V_lt h
  have h2 : V 4890909195324358656 = 9223372036854775808 * 2 ^ K := by
    have e1 : mant 4890909195324358656 = 4503599627370496 := by decide
    have e2 : xp 4890909195324358656 = 1085 := by decide
    unfold V
    rw [e1, e2, show (1085 : Nat) = 11 + K from by rw [K_eq], Nat.pow_add, ← Nat.mul_assoc]
  unfold whole
  rw [h2] at h1
  exact Nat.div_lt_of_lt_mul (by rw [Nat.mul_comm]; exact h1)
theorem whole_63 : whole 4890909195324358656 = 9223372036854775808 := by
  have h2 : V 4890909195324358656 = 9223372036854775808 * 2 ^ K := by
    have e1 : mant 4890909195324358656 = 4503599627370496 := by decide
    have e2 : xp 4890909195324358656 = 1085 := by decide
    unfold V
    rw [e1, e2, show (1085 : Nat) = 11 + K from by rw [K_eq], Nat.pow_add, ← Nat.mul_assoc]
  unfold whole
  rw [h2, Nat.mul_div_cancel _ (Nat.pow_pos (by decide))]
end Go.Proofs.YtainigcchlgehaaGreatDoor.Flt
namespace Go.Proofs.YtainigcchlgehaaGreatDoor
open Go
theorem trunc_entry (a : Nat) (s : Bool) (m : Nat) (i : Int) (hd : FloatKind.f64.decode a = .number s m i) : Extern.MathFloor.toIntegral "math.archTrunc" .zero #[.float .f64 a] = pure (.float .f64 (FloatKind.f64.encode ((FloatKind.f64.decode a).integral .zero))) := by
  delta Extern.MathFloor.toIntegral
  delta Extern.MathFloor.toIntegral.match_2
  dsimp only
  refine (dif_pos (show #[Value.float FloatKind.f64 a].size = 1 from rfl)).trans ?_
  delta Extern.MathFloor.toIntegral._sparseCasesOn_2 Extern.MathFloor.toIntegral._sparseCasesOn_3
  dsimp only [Array.getLit]
  simp only [List.getElem_toArray, List.getElem_cons_zero]
  rw [hd]
theorem key_m63 : Flt.key 14114281232179134464 = -4890909195324358656 := by decide
/-- what Against answers of a number that an int64 has room for -/
def agn (n : Int) (a : Nat) : Int := if Flt.cmp3 n (Flt.wholeInt a) = 0 then Flt.cmp3 (Flt.key (Flt.trunc a)) (Flt.key a) else Flt.cmp3 n (Flt.wholeInt a)
theorem whole_bounds {a : Nat} (h1 : -4890909195324358656 ≤ Flt.key a) (h2 : Flt.key a < 4890909195324358656) :
    Flt.rung a < 9218868437227405312 ∧ -9223372036854775808 ≤ Flt.wholeInt a ∧ Flt.wholeInt a ≤ 9223372036854775807 := by
  unfold Flt.key at h1 h2
  unfold Flt.wholeInt Flt.neg
  by_cases hs : 9223372036854775808 ≤ a
  · rw [if_pos hs] at h1 h2
    rw [decide_eq_true hs, if_pos rfl]
    refine ⟨by omega, ?_, by omega⟩
    by_cases e : Flt.rung a = 4890909195324358656
    · rw [e, Flt.whole_63]; omega
    · have := Flt.whole_lt (r := Flt.rung a) (by omega)
      omega
  · rw [if_neg hs] at h1 h2
    rw [decide_eq_false hs, if_neg (by decide)]
    have := Flt.whole_lt (r := Flt.rung a) (by omega)
    exact ⟨by omega, by omega, by omega⟩
end Go.Proofs.YtainigcchlgehaaGreatDoor


