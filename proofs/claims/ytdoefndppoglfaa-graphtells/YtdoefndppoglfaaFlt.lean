import Ieee.Arith
namespace Go.Proofs.Ytdoefndppoglfaa.Flt
open Ieee

/-- the significand of a finite rung, and how many binades it stands above the least place -/
def mant (r : Nat) : Nat := if r < 4503599627370496 then r else 4503599627370496 + r % 4503599627370496
def xp (r : Nat) : Nat := r / 4503599627370496 - 1
/-- what a finite rung stands for, in units of the least place -/
def V (r : Nat) : Nat := mant r * 2 ^ xp r
def rung (a : Nat) : Nat := a % 9223372036854775808
def neg (a : Nat) : Bool := decide (9223372036854775808 ≤ a)
/-- the place of a float among all, as a whole number: both zeros are 0 -/
def key (a : Nat) : Int := if 9223372036854775808 ≤ a then -((rung a : Nat) : Int) else (rung a : Nat)
def isNan (a : Nat) : Bool := decide (9218868437227405312 < rung a)

theorem fb : Ieee.double.fractionBits = 52 := rfl
theorem binade_eq : Ieee.double.binade = 4503599627370496 := by decide
theorem inf_eq : Ieee.double.infRung = 9218868437227405312 := by decide
theorem sw_eq : Ieee.double.signWeight = 9223372036854775808 := by decide
theorem lp_eq : Ieee.double.leastPlace = -1074 := by decide

theorem read_fin {a : Nat} (ha : a < 18446744073709551616) (h : rung a < 9218868437227405312) :
    Ieee.double.read a = .number (neg a) (mant (rung a)) (-1074 + (xp (rung a) : Nat)) := by
  unfold Format.read
  simp only [binade_eq, inf_eq, sw_eq, lp_eq]
  have hn : (a / 9223372036854775808 % 2 == 1) = neg a := by
    unfold neg
    rw [Bool.eq_iff_iff]
    simp only [beq_iff_eq, decide_eq_true_eq]
    omega
  rw [hn]
  unfold rung at h
  unfold mant xp rung
  by_cases h1 : a % 9223372036854775808 < 4503599627370496
  · rw [if_pos h1, if_pos h1]
    congr 1
    have : a % 9223372036854775808 / 4503599627370496 = 0 := by omega
    rw [this]; rfl
  · rw [if_neg h1, if_neg h1, if_pos h]

theorem read_inf {a : Nat} (ha : a < 18446744073709551616) (h : rung a = 9218868437227405312) :
    Ieee.double.read a = .infinity (neg a) := by
  unfold Format.read
  simp only [binade_eq, inf_eq, sw_eq, lp_eq]
  have hn : (a / 9223372036854775808 % 2 == 1) = neg a := by
    unfold neg
    rw [Bool.eq_iff_iff]
    simp only [beq_iff_eq, decide_eq_true_eq]
    omega
  rw [hn]
  unfold rung at h
  rw [if_neg (by omega), if_neg (by omega), if_pos h]

theorem read_nan {a : Nat} (ha : a < 18446744073709551616) (h : 9218868437227405312 < rung a) :
    Ieee.double.read a = .nan (neg a) (rung a - 9218868437227405312) := by
  unfold Format.read
  simp only [binade_eq, inf_eq, sw_eq, lp_eq]
  have hn : (a / 9223372036854775808 % 2 == 1) = neg a := by
    unfold neg
    rw [Bool.eq_iff_iff]
    simp only [beq_iff_eq, decide_eq_true_eq]
    omega
  rw [hn]
  unfold rung at h
  rw [if_neg (by omega), if_neg (by omega), if_neg (by omega)]
  rfl

theorem V_succ (r : Nat) : V r < V (r + 1) := by
  unfold V mant xp
  by_cases h1 : r + 1 < 4503599627370496
  · have e1 : r / 4503599627370496 = 0 := by omega
    have e2 : (r + 1) / 4503599627370496 = 0 := by omega
    rw [if_pos (by omega), if_pos h1, e1, e2]; simp
  by_cases h2 : r + 1 = 4503599627370496
  · have e1 : r / 4503599627370496 = 0 := by omega
    have e2 : (r + 1) / 4503599627370496 = 1 := by omega
    rw [if_pos (by omega), if_neg h1, e1, e2]; simp; omega
  rw [if_neg (by omega), if_neg h1]
  by_cases h3 : r % 4503599627370496 + 1 < 4503599627370496
  · have e1 : (r + 1) / 4503599627370496 = r / 4503599627370496 := by omega
    have e2 : (r + 1) % 4503599627370496 = r % 4503599627370496 + 1 := by omega
    rw [e1, e2]
    exact Nat.mul_lt_mul_of_lt_of_le (by omega) (Nat.le_refl _) (Nat.pow_pos (by decide))
  · have e1 : (r + 1) / 4503599627370496 - 1 = (r / 4503599627370496 - 1) + 1 := by omega
    have e2 : (r + 1) % 4503599627370496 = 0 := by omega
    rw [e1, e2, Nat.pow_succ]
    have hp : 0 < 2 ^ (r / 4503599627370496 - 1) := Nat.pow_pos (by decide)
    generalize 2 ^ (r / 4503599627370496 - 1) = p at *
    have h4 : r % 4503599627370496 = 4503599627370495 := by omega
    rw [h4]
    omega

theorem V_lt {r s : Nat} (h : r < s) : V r < V s := by
  induction s with
  | zero => omega
  | succ s ih =>
    by_cases h' : r < s
    · exact Nat.lt_trans (ih h') (V_succ s)
    · have : r = s := by omega
      subst this; exact V_succ r

theorem V_lt_iff {r s : Nat} : V r < V s ↔ r < s := by
  constructor
  · intro h
    rcases Nat.lt_trichotomy r s with h1 | h1 | h1
    · exact h1
    · subst h1; omega
    · have := V_lt h1; omega
  · exact V_lt

theorem V_inj {r s : Nat} (h : V r = V s) : r = s := by
  rcases Nat.lt_trichotomy r s with h1 | h1 | h1
  · have := V_lt h1; omega
  · exact h1
  · have := V_lt h1; omega

theorem V_zero : V 0 = 0 := by decide

theorem cmp_int (a b : Int) : compare a b = if a < b then Ordering.lt else if a = b then .eq else .gt := rfl
theorem cmp_nat (a b : Nat) : compare a b = if a < b then Ordering.lt else if a = b then .eq else .gt := rfl

theorem signed_V (s : Bool) (r b : Nat) (h : b ≤ xp r) : signed s (mant r) (xp r - b) * (2 ^ b : Nat) = if s then -((V r : Nat) : Int) else (V r : Nat) := by
  have e : mant r <<< (xp r - b) * 2 ^ b = V r := by
    rw [Nat.shiftLeft_eq, Nat.mul_assoc, ← Nat.pow_add, Nat.sub_add_cancel h]; rfl
  unfold signed
  cases s
  · simp only [Bool.false_eq_true, if_false]; rw [← e]; push_cast; rfl
  · simp only [if_true]; rw [← e]; push_cast; rw [Int.neg_mul]

theorem cmp_scale (a b : Int) (c : Nat) (hc : 0 < c) : compare a b = compare (a * c) (b * c) := by
  have hc' : (0 : Int) < (c : Int) := Int.ofNat_lt.2 hc
  have i1 : a * (c : Int) < b * (c : Int) ↔ a < b := ⟨fun h => Int.lt_of_mul_lt_mul_right h (Int.le_of_lt hc'), fun h => Int.mul_lt_mul_of_pos_right h hc'⟩
  have i2 : a * (c : Int) = b * (c : Int) ↔ a = b := ⟨fun h => Int.eq_of_mul_eq_mul_right (Int.ne_of_gt hc') h, fun h => by rw [h]⟩
  rw [cmp_int, cmp_int]
  simp only [i1, i2]

theorem order_eq {a b : Nat} (ha : a < 18446744073709551616) (hb : b < 18446744073709551616) (na : isNan a = false) (nb : isNan b = false) :
    Ieee.double.order a b = some (if key a < key b then .lt else if key a = key b then .eq else .gt) := by
  unfold isNan at na nb
  simp only [decide_eq_false_iff_not, Nat.not_lt] at na nb
  unfold Format.order
  have ra : rung a < 9223372036854775808 := Nat.mod_lt _ (by decide)
  have rb : rung b < 9223372036854775808 := Nat.mod_lt _ (by decide)
  by_cases fa : rung a < 9218868437227405312
  · rw [read_fin ha fa]
    by_cases fb : rung b < 9218868437227405312
    · rw [read_fin hb fb]
      simp only [Datum.order]
      congr 1
      have e1 : ((-1074 + (xp (rung a) : Nat) : Int) - min (-1074 + (xp (rung a) : Nat) : Int) (-1074 + (xp (rung b) : Nat))).toNat = xp (rung a) - min (xp (rung a)) (xp (rung b)) := by omega
      have e2 : ((-1074 + (xp (rung b) : Nat) : Int) - min (-1074 + (xp (rung a) : Nat) : Int) (-1074 + (xp (rung b) : Nat))).toNat = xp (rung b) - min (xp (rung a)) (xp (rung b)) := by omega
      rw [e1, e2, cmp_scale _ _ (2 ^ min (xp (rung a)) (xp (rung b))) (Nat.pow_pos (by decide)), signed_V _ _ _ (Nat.min_le_left _ _), signed_V _ _ _ (Nat.min_le_right _ _), cmp_int]
      unfold key neg
      have i1 := @V_lt_iff (rung a) (rung b)
      have i2 := @V_lt_iff (rung b) (rung a)
      have i3 := @V_lt_iff 0 (rung a)
      have i4 := @V_lt_iff 0 (rung b)
      rw [V_zero] at i3 i4
      generalize V (rung a) = va at *
      generalize V (rung b) = vb at *
      generalize rung a = x at *
      generalize rung b = y at *
      by_cases s1 : 9223372036854775808 ≤ a <;> by_cases s2 : 9223372036854775808 ≤ b <;> simp only [s1, s2, decide_true, decide_false, if_true, if_false, Bool.false_eq_true] <;> (repeat' split) <;> first | rfl | (exfalso; omega)
    · have fb' : rung b = 9218868437227405312 := by omega
      rw [read_inf hb fb']
      simp only [Datum.order]
      congr 1
      unfold key neg
      by_cases s1 : 9223372036854775808 ≤ a <;> by_cases s2 : 9223372036854775808 ≤ b <;> simp only [s1, s2, decide_true, decide_false, if_true, if_false, Bool.false_eq_true] <;> (repeat' split) <;> first | rfl | (exfalso; omega)
  · have fa' : rung a = 9218868437227405312 := by omega
    rw [read_inf ha fa']
    by_cases fb : rung b < 9218868437227405312
    · rw [read_fin hb fb]
      simp only [Datum.order]
      congr 1
      unfold key neg
      by_cases s1 : 9223372036854775808 ≤ a <;> by_cases s2 : 9223372036854775808 ≤ b <;> simp only [s1, s2, decide_true, decide_false, if_true, if_false, Bool.false_eq_true] <;> (repeat' split) <;> first | rfl | (exfalso; omega)
    · have fb' : rung b = 9218868437227405312 := by omega
      rw [read_inf hb fb']
      simp only [Datum.order]
      congr 1
      unfold key neg
      rw [fa', fb']
      by_cases s1 : 9223372036854775808 ≤ a <;> by_cases s2 : 9223372036854775808 ≤ b <;> simp only [s1, s2, decide_true, decide_false, if_true, if_false] <;> decide

theorem order_nan_l {a b : Nat} (ha : a < 18446744073709551616) (na : isNan a = true) : Ieee.double.order a b = none := by
  unfold isNan at na
  simp only [decide_eq_true_eq] at na
  unfold Format.order
  rw [read_nan ha na]
  simp [Datum.order]

theorem order_nan_r {a b : Nat} (hb : b < 18446744073709551616) (nb : isNan b = true) : Ieee.double.order a b = none := by
  unfold isNan at nb
  simp only [decide_eq_true_eq] at nb
  unfold Format.order
  rw [read_nan hb nb]
  cases Ieee.double.read a <;> simp [Datum.order]


theorem cut_exact (s : Bool) (m k : Nat) (hm : 0 < m) : Toward.even.cut s (m * 2 ^ k) k = m := by
  unfold Toward.cut
  have h0 : m * 2 ^ k ≠ 0 := by
    have : 0 < 2 ^ k := Nat.pow_pos (by decide)
    exact Nat.ne_of_gt (Nat.mul_pos hm this)
  have hk : k ≤ (m * 2 ^ k).log2 := by
    have h1 : 2 ^ k ≤ m * 2 ^ k := Nat.le_mul_of_pos_left _ hm
    exact (Nat.le_log2 h0).2 h1
  have e1 : min k ((m * 2 ^ k).log2 + 2) = k := by omega
  simp only [e1, Nat.one_shiftLeft]
  have hp : 0 < 2 ^ k := Nat.pow_pos (by decide)
  rw [Nat.mul_div_cancel _ hp, Nat.mul_mod_left]
  have e2 : (2 ^ k == 2 * 0) = false := by
    rw [beq_eq_false_iff_ne]; omega
  simp [e2]

theorem rung_mant (r : Nat) : xp r * 4503599627370496 + mant r = r := by
  unfold xp mant
  split <;> omega

theorem pow_lt {a b : Nat} (h : 2 ^ a < 2 ^ b) : a < b := (Nat.pow_lt_pow_iff_right (by decide)).1 h

theorem mant_pos {r : Nat} (h : 0 < r) : 0 < mant r := by unfold mant; split <;> omega
theorem mant_lt (r : Nat) : mant r < 9007199254740992 := by unfold mant; split <;> omega

theorem nearest_exact (s : Bool) (mag : Nat) (place : Int) (r x y : Nat) (hr : r < 9218868437227405312) (hr0 : 0 < r) (hxy : place + 1074 = (x : Int) - y) (h : mag * 2 ^ x = V r * 2 ^ y) :
    Ieee.double.nearest s mag place = Ieee.double.word s r := by
  have hm := mant_pos hr0
  have px : ∀ n : Nat, 0 < 2 ^ n := fun n => Nat.pow_pos (by decide)
  have h' : mag * 2 ^ x = mant r * 2 ^ (xp r + y) := by rw [h]; unfold V; rw [Nat.mul_assoc, ← Nat.pow_add]
  have hmag : mag ≠ 0 := by
    intro e
    rw [e, Nat.zero_mul] at h'
    have := Nat.mul_pos hm (px (xp r + y))
    omega
  have l1 := Nat.log2_self_le hmag
  have l2 := @Nat.lt_log2_self mag
  unfold Format.nearest
  rw [if_neg hmag]
  simp only [fb, binade_eq, inf_eq, lp_eq]
  have hlast : max (place + (mag.log2 : Nat) - (52 : Nat)) (-1074) = -1074 + (xp r : Int) := by
    have b1 : 2 ^ (mag.log2 + x) ≤ mag * 2 ^ x := by rw [Nat.pow_add]; exact Nat.mul_le_mul_right _ l1
    have b2 : mag * 2 ^ x < 2 ^ (mag.log2 + 1 + x) := by rw [Nat.pow_add 2 (mag.log2 + 1)]; exact Nat.mul_lt_mul_of_pos_right l2 (px x)
    by_cases hn : r < 4503599627370496
    · have ex : xp r = 0 := by unfold xp; omega
      have em : mant r = r := by unfold mant; rw [if_pos hn]
      rw [h', ex, em, Nat.zero_add] at b1
      have b3 : r * 2 ^ y < 2 ^ (52 + y) := by rw [Nat.pow_add]; exact Nat.mul_lt_mul_of_pos_right (by simpa using hn) (px y)
      have b4 := pow_lt (Nat.lt_of_le_of_lt b1 b3)
      rw [ex]; omega
    · have em : mant r = 4503599627370496 + r % 4503599627370496 := by unfold mant; rw [if_neg hn]
      have m1 : 2 ^ 52 ≤ mant r := by rw [em]; simp
      have m2 : mant r < 2 ^ 53 := by rw [em]; simp; omega
      rw [h'] at b1 b2
      have b3 : mant r * 2 ^ (xp r + y) < 2 ^ (53 + (xp r + y)) := by rw [Nat.pow_add 2 53]; exact Nat.mul_lt_mul_of_pos_right m2 (px _)
      have b4 : 2 ^ (52 + (xp r + y)) ≤ mant r * 2 ^ (xp r + y) := by rw [Nat.pow_add 2 52]; exact Nat.mul_le_mul_right _ m1
      have b5 := pow_lt (Nat.lt_of_le_of_lt b1 b3)
      have b6 := pow_lt (Nat.lt_of_le_of_lt b4 b2)
      omega
  rw [hlast]
  have hk : Toward.even.cut s (mag <<< (place - (-1074 + (xp r : Int))).toNat) (-1074 + (xp r : Int) - place).toNat = mant r := by
    by_cases hp : -1074 + (xp r : Int) ≤ place
    · obtain ⟨k, hk⟩ : ∃ k : Nat, x = k + (xp r + y) := ⟨x - (xp r + y), by omega⟩
      have e1 : (place - (-1074 + (xp r : Int))).toNat = k := by omega
      have e2 : (-1074 + (xp r : Int) - place).toNat = 0 := by omega
      rw [e1, e2, Nat.shiftLeft_eq]
      have e3 : mag * 2 ^ k = mant r := by
        rw [hk, Nat.pow_add, ← Nat.mul_assoc] at h'
        exact Nat.eq_of_mul_eq_mul_right (px _) h'
      rw [e3]
      have := cut_exact s (mant r) 0 hm
      simpa using this
    · obtain ⟨k, hk⟩ : ∃ k : Nat, xp r + y = k + x := ⟨xp r + y - x, by omega⟩
      have e1 : (place - (-1074 + (xp r : Int))).toNat = 0 := by omega
      have e2 : (-1074 + (xp r : Int) - place).toNat = k := by omega
      rw [e1, e2, Nat.shiftLeft_zero]
      have e3 : mag = mant r * 2 ^ k := by
        rw [hk, Nat.pow_add, ← Nat.mul_assoc] at h'
        exact Nat.eq_of_mul_eq_mul_right (px _) h'
      rw [e3]
      exact cut_exact s (mant r) k hm
  rw [hk]
  have e4 : (-1074 + (xp r : Int) - -1074).toNat = xp r := by omega
  rw [e4, rung_mant]
  have e5 : min r 9218868437227405312 = r := by omega
  rw [e5]

theorem word_eq (s : Bool) (r : Nat) : Ieee.double.word s r = if s then 9223372036854775808 + r else r := by
  unfold Format.word; rw [sw_eq]

theorem mul_exact {a b : Nat} {s t : Bool} {m n : Nat} {i j : Int} (ra : Ieee.double.read a = .number s m i) (rb : Ieee.double.read b = .number t n j)
    (r x y : Nat) (hr : r < 9218868437227405312) (hr0 : 0 < r) (hxy : i + j + 1074 = (x : Int) - y) (h : m * n * 2 ^ x = V r * 2 ^ y) :
    Ieee.double.mul a b = some (if (s ^^ t) then 9223372036854775808 + r else r) := by
  unfold Format.mul
  rw [ra, rb]
  simp only [Datum.product, Option.map_some, Format.write]
  rw [nearest_exact _ _ _ r x y hr hr0 hxy h, word_eq]

/-- the rung of m times 2 to the power of E, in units of the least place -/
def rungOf (m E : Nat) : Nat := if E + m.log2 < 52 then m * 2 ^ E else (E + m.log2 - 51) * 4503599627370496 + (m * 2 ^ (52 - m.log2) - 4503599627370496)

theorem log2_le52 {m : Nat} (h0 : 0 < m) (hm : m < 9007199254740992) : m.log2 ≤ 52 := by
  have l1 := Nat.log2_self_le (n := m) (by omega)
  have : 2 ^ m.log2 < 2 ^ 53 := Nat.lt_of_le_of_lt l1 (by simpa using hm)
  have := pow_lt this
  omega

theorem norm_mant {m : Nat} (h0 : 0 < m) (hm : m < 9007199254740992) : 4503599627370496 ≤ m * 2 ^ (52 - m.log2) ∧ m * 2 ^ (52 - m.log2) < 9007199254740992 := by
  have hl := log2_le52 h0 hm
  have l1 := Nat.log2_self_le (n := m) (by omega)
  have l2 := @Nat.lt_log2_self m
  constructor
  · have : 2 ^ m.log2 * 2 ^ (52 - m.log2) ≤ m * 2 ^ (52 - m.log2) := Nat.mul_le_mul_right _ l1
    rw [← Nat.pow_add, show m.log2 + (52 - m.log2) = 52 from by omega] at this
    simpa using this
  · have : m * 2 ^ (52 - m.log2) < 2 ^ (m.log2 + 1) * 2 ^ (52 - m.log2) := Nat.mul_lt_mul_of_pos_right l2 (Nat.pow_pos (by decide))
    rw [← Nat.pow_add, show m.log2 + 1 + (52 - m.log2) = 53 from by omega] at this
    simpa using this

theorem V_rungOf {m : Nat} (E : Nat) (h0 : 0 < m) (hm : m < 9007199254740992) : V (rungOf m E) = m * 2 ^ E := by
  have hl := log2_le52 h0 hm
  have ⟨n1, n2⟩ := norm_mant h0 hm
  have l2 := @Nat.lt_log2_self m
  unfold rungOf
  by_cases hE : E + m.log2 < 52
  · rw [if_pos hE]
    have : m * 2 ^ E < 4503599627370496 := by
      have h1 : m * 2 ^ E < 2 ^ (m.log2 + 1) * 2 ^ E := Nat.mul_lt_mul_of_pos_right l2 (Nat.pow_pos (by decide))
      rw [← Nat.pow_add] at h1
      have h2 : 2 ^ (m.log2 + 1 + E) ≤ 2 ^ 52 := Nat.pow_le_pow_right (by decide) (by omega)
      have := Nat.lt_of_lt_of_le h1 h2
      simpa using this
    unfold V mant xp
    rw [if_pos this, show m * 2 ^ E / 4503599627370496 - 1 = 0 from by omega]
    simp
  · rw [if_neg hE]
    obtain ⟨k, hk⟩ : ∃ k, E = k + (52 - m.log2) := ⟨E - (52 - m.log2), by omega⟩
    generalize hM : m * 2 ^ (52 - m.log2) = M at *
    have e1 : E + m.log2 - 51 = k + 1 := by omega
    rw [e1]
    unfold V mant xp
    rw [if_neg (by omega)]
    have e2 : ((k + 1) * 4503599627370496 + (M - 4503599627370496)) % 4503599627370496 = M - 4503599627370496 := by omega
    have e3 : ((k + 1) * 4503599627370496 + (M - 4503599627370496)) / 4503599627370496 - 1 = k := by omega
    rw [e2, e3, show 4503599627370496 + (M - 4503599627370496) = M from by omega, ← hM, hk, Nat.mul_assoc, ← Nat.pow_add, Nat.add_comm]

theorem rungOf_pos {m : Nat} (E : Nat) (h0 : 0 < m) (hm : m < 9007199254740992) : 0 < rungOf m E := by
  have := V_rungOf E h0 hm
  rcases Nat.eq_zero_or_pos (rungOf m E) with h | h
  · rw [h, V_zero] at this
    have : 0 < m * 2 ^ E := Nat.mul_pos h0 (Nat.pow_pos (by decide))
    omega
  · exact h

theorem rungOf_lt {m E : Nat} (h0 : 0 < m) (hm : m < 9007199254740992) (hE : E + m.log2 ≤ 2097) : rungOf m E < 9218868437227405312 := by
  have ⟨n1, n2⟩ := norm_mant h0 hm
  have hl := log2_le52 h0 hm
  have l2 := @Nat.lt_log2_self m
  unfold rungOf
  split
  · rename_i h
    have h1 : m * 2 ^ E < 2 ^ (m.log2 + 1) * 2 ^ E := Nat.mul_lt_mul_of_pos_right l2 (Nat.pow_pos (by decide))
    rw [← Nat.pow_add] at h1
    have h2 : 2 ^ (m.log2 + 1 + E) ≤ 2 ^ 52 := Nat.pow_le_pow_right (by decide) (by omega)
    have := Nat.lt_of_lt_of_le h1 h2
    have : m * 2 ^ E < 4503599627370496 := by simpa using this
    omega
  · generalize m * 2 ^ (52 - m.log2) = M at *
    omega

theorem rungOf_mant (r : Nat) (h : 0 < r) : rungOf (mant r) (xp r) = r :=
  V_inj (V_rungOf (xp r) (mant_pos h) (mant_lt r))

end Go.Proofs.Ytdoefndppoglfaa.Flt
