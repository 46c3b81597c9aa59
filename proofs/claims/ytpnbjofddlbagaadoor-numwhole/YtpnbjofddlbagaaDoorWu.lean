import Derived.Test.YtpnbjofddlbagaaDoorWrc
import Derived.Test.YtpnbjofddlbagaaDoorWt
namespace Go.Proofs.YtpnbjofddlbagaaDoor
open Go Go.RowKit
namespace Flt
open Ieee
theorem whole_rung (k : Nat) (h0 : 0 < k) (hk : k ≤ 9007199254740992) : ∃ r, 0 < r ∧ r < 9218868437227405312 ∧ V r = k * 2 ^ K := by
  by_cases h : k < 9007199254740992
  · have hl := log2_le52 h0 h
    exact ⟨rungOf k K, rungOf_pos K h0 h, rungOf_lt h0 h (by rw [K_eq]; omega), V_rungOf K h0 h⟩
  · have e : k = 2 ^ 53 := by omega
    refine ⟨rungOf 1 (53 + K), rungOf_pos _ (by decide) (by decide), rungOf_lt (by decide) (by decide) (by rw [K_eq]; decide), ?_⟩
    rw [V_rungOf _ (by decide) (by decide), e, Nat.one_mul, Nat.pow_add]
theorem float_int (n : Int) (h1 : -9007199254740992 < n) (h2 : n < 9007199254740992) : ∃ r, r < 9218868437227405312 ∧ V r = n.natAbs * 2 ^ K ∧ floatOfInt .f64 n = withSign (decide (n < 0)) r ∧ (n ≠ 0 → 0 < r) := by
  by_cases h0 : n = 0
  · subst h0
    exact ⟨0, by decide, by rw [V_zero]; simp, by decide, fun h => absurd rfl h⟩
  · obtain ⟨r, r0, r1, r2⟩ := whole_rung n.natAbs (by omega) (by omega)
    refine ⟨r, r1, r2, ?_, fun _ => r0⟩
    have h : floatOfInt .f64 n = Ieee.double.nearest (decide (n < 0)) n.natAbs 0 := rfl
    rw [h, nearest_exact (decide (n < 0)) n.natAbs 0 r K 0 r1 r0 (by rw [K_eq]; omega) (by rw [r2, Nat.pow_zero, Nat.mul_one]), word_eq]
    rfl
theorem sv_with (s : Bool) {r : Nat} (hr : r < 9218868437227405312) : sv (withSign s r) = if s = true then -((V r : Nat) : Int) else (V r : Nat) := by
  obtain ⟨_, t2, _, _, t5⟩ := text_shape s hr
  unfold sv
  rw [t2, t5]
theorem sv_int (n : Int) {r : Nat} (hr : r < 9218868437227405312) (hV : V r = n.natAbs * 2 ^ K) : sv (withSign (decide (n < 0)) r) = n * ((2 ^ K : Nat) : Int) := by
  rw [sv_with _ hr, hV]
  by_cases h : n < 0
  · rw [decide_eq_true h, if_pos rfl, Int.natCast_mul, show ((n.natAbs : Nat) : Int) = -n from by omega, Int.neg_mul, Int.neg_neg]
  · rw [decide_eq_false h, if_neg (by decide), Int.natCast_mul, show ((n.natAbs : Nat) : Int) = n from by omega]
theorem V_one : V 4607182418800017408 = 2 ^ K := by
  have e1 : mant 4607182418800017408 = 2 ^ 52 := by decide
  have e2 : xp 4607182418800017408 = K - 52 := by rw [K_eq]; decide
  have e3 : 52 + (K - 52) = K := by have := K_eq; omega
  unfold V
  rw [e1, e2, ← Nat.pow_add, e3]
theorem add_one {a : Nat} (ha : a < 18446744073709551616) (hr : rung a < 9218868437227405312) (n : Int) (hn : sv a = n * ((2 ^ K : Nat) : Int)) (h1 : n + 1 ≠ 0) (h2 : -9007199254740992 ≤ n + 1) (h3 : n + 1 ≤ 9007199254740992) :
    ∃ r, 0 < r ∧ r < 9218868437227405312 ∧ V r = (n + 1).natAbs * 2 ^ K ∧ floatBits .add .f64 a 4607182418800017408 = some (withSign (decide (n + 1 < 0)) r) := by
  obtain ⟨r, r0, r1, r2⟩ := whole_rung (n + 1).natAbs (by omega) (by omega)
  refine ⟨r, r0, r1, r2, ?_⟩
  have ra := read_fin ha hr
  have rb := read_fin (a := 4607182418800017408) (by decide) (by decide)
  have o1 : rung 4607182418800017408 = 4607182418800017408 := by decide
  have o2 : neg 4607182418800017408 = false := by decide
  rw [o1, o2] at rb
  obtain ⟨b, hb⟩ : ∃ b : Nat, b = min (xp (rung a)) (xp 4607182418800017408) := ⟨_, rfl⟩
  have hb1 : b ≤ xp (rung a) := by omega
  have hb2 : b ≤ xp 4607182418800017408 := by omega
  have base : min (-1074 + (xp (rung a) : Int)) (-1074 + (xp 4607182418800017408 : Int)) = -1074 + (b : Int) := by omega
  have i1 : (-1074 + (xp (rung a) : Int) - (-1074 + (b : Int))).toNat = xp (rung a) - b := by omega
  have i2 : (-1074 + (xp 4607182418800017408 : Int) - (-1074 + (b : Int))).toNat = xp 4607182418800017408 - b := by omega
  have s1 : signed (neg a) (mant (rung a)) (xp (rung a) - b) * ((2 ^ b : Nat) : Int) = sv a := signed_V (neg a) (rung a) b hb1
  have s2 : signed false (mant 4607182418800017408) (xp 4607182418800017408 - b) * ((2 ^ b : Nat) : Int) = ((2 ^ K : Nat) : Int) := by
    rw [← V_one]; exact signed_V false 4607182418800017408 b hb2
  obtain ⟨T, hT⟩ : ∃ T, T = signed (neg a) (mant (rung a)) (xp (rung a) - b) + signed false (mant 4607182418800017408) (xp 4607182418800017408 - b) := ⟨_, rfl⟩
  have hTV : T * ((2 ^ b : Nat) : Int) = (n + 1) * ((2 ^ K : Nat) : Int) := by
    rw [hT, Int.add_mul, s1, s2, Int.add_mul, Int.one_mul, ← hn]
  have pb : 0 < 2 ^ b := Nat.pow_pos (by decide)
  have pK : 0 < 2 ^ K := Nat.pow_pos (by decide)
  have hT0 : T ≠ 0 := by
    intro h
    rw [h, Int.zero_mul] at hTV
    rcases Int.mul_eq_zero.1 hTV.symm with h | h
    · exact h1 h
    · omega
  have hTs : decide (T < 0) = decide (n + 1 < 0) := by
    by_cases h : n + 1 < 0
    · have : T < 0 := by
        apply Int.lt_of_not_ge
        intro hge
        have q1 := Int.mul_nonneg hge (show 0 ≤ ((2 ^ b : Nat) : Int) by omega)
        have q2 := Int.mul_neg_of_neg_of_pos h (show 0 < ((2 ^ K : Nat) : Int) by omega)
        omega
      rw [decide_eq_true h, decide_eq_true this]
    · have : ¬ T < 0 := by
        intro hlt
        have q1 := Int.mul_nonneg (show 0 ≤ n + 1 by omega) (show 0 ≤ ((2 ^ K : Nat) : Int) by omega)
        have q2 := Int.mul_neg_of_neg_of_pos hlt (show 0 < ((2 ^ b : Nat) : Int) by omega)
        omega
      rw [decide_eq_false h, decide_eq_false this]
  have hmag : T.natAbs * 2 ^ b = V r * 2 ^ 0 := by
    rw [r2, Nat.pow_zero, Nat.mul_one]
    have := congrArg Int.natAbs hTV
    rw [Int.natAbs_mul, Int.natAbs_mul, Int.natAbs_natCast, Int.natAbs_natCast] at this
    exact this
  show Ieee.double.add a 4607182418800017408 = _
  unfold Format.add
  rw [ra, rb]
  simp only [Datum.sum, Option.map_some, Format.write]
  rw [base, i1, i2, ← hT, if_neg hT0, hTs, nearest_exact _ _ _ r b 0 r1 r0 (by omega) hmag, word_eq]
  rfl
theorem oddE_whole {r k : Nat} (h0 : 0 < r) (hr : r < 9218868437227405312) (hV : V r = k * 2 ^ K) : 0 ≤ oddE r := by
  obtain ⟨E, e1, e2, e3, e4⟩ := odd_facts h0 hr
  rw [e1]
  apply Int.not_lt.1
  intro hlt
  obtain ⟨d, hd⟩ : ∃ d, K = d + 1 + E := ⟨K - 1 - E, by have := K_eq; omega⟩
  rw [hV, hd, Nat.pow_add, ← Nat.mul_assoc] at e2
  have := Nat.eq_of_mul_eq_mul_right (Nat.pow_pos (by decide)) e2
  rw [Nat.pow_succ, ← Nat.mul_assoc] at this
  omega
end Flt
/-! no p before a minus -/
def noPM : List UInt8 → Bool
  | a :: b :: t => !(a == 112 && b == 45) && noPM (b :: t)
  | _ => true
theorem noPM_take : ∀ (l : List UInt8) (i : Nat), noPM l = true → (l.drop i).take 2 ≠ [112, 45]
  | [], i, _ => by simp
  | [a], 0, _ => by simp
  | [a], i + 1, _ => by simp
  | a :: b :: t, 0, h => by
    intro e
    simp only [List.drop_zero, List.take_succ_cons, List.take_zero] at e
    injection e with e1 e2
    injection e2 with e2 _
    subst e1; subst e2
    revert h
    simp [noPM]
  | a :: b :: t, i + 1, h => by
    have h' : noPM (b :: t) = true := by
      unfold noPM at h
      simp only [Bool.and_eq_true] at h
      exact h.2
    simpa using noPM_take (b :: t) i h'
theorem noPM_no : ∀ l : List UInt8, (∀ c ∈ l, c ≠ 45) → ∀ a, noPM (a :: l) = true
  | [], _, a => by simp [noPM]
  | b :: t, h, a => by
    unfold noPM
    have hb : (b == 45) = false := by simpa using h b (by simp)
    rw [hb, noPM_no t (fun c hc => h c (by simp [hc])) b]
    simp
theorem noPM_cat : ∀ (d i : List UInt8), (∀ c ∈ d, c ≠ 112) → (∀ c ∈ i, c ≠ 45) → noPM (d ++ 112 :: i) = true
  | [], i, _, h => noPM_no i h 112
  | a :: d, i, hd, hi => by
    have ha : (a == 112) = false := by simpa using hd a (by simp)
    have ih := noPM_cat d i (fun c hc => hd c (by simp [hc])) hi
    show noPM (a :: (d ++ 112 :: i)) = true
    cases hdi : d ++ 112 :: i with
    | nil => simp at hdi
    | cons b t =>
      unfold noPM
      rw [← hdi, ih, ha]
      simp
theorem noPM_shape (s : Bool) (m : Nat) (x : Int) (hx : 0 ≤ x) : noPM (shape s m x) = true := by
  obtain ⟨u, rfl⟩ : ∃ u : Nat, x = u := ⟨x.toNat, by omega⟩
  have e : shape s m (u : Int) = ((if s = true then [45] else []) ++ Lib.decDigits m) ++ 112 :: Lib.decDigits u := by
    unfold shape
    rw [Lib.itoa_nonneg]
    simp
  rw [e]
  refine noPM_cat _ _ ?_ ?_
  · intro c hc
    rcases List.mem_append.1 hc with h | h
    · cases s
      · simp at h
      · simp at h; subst h; decide
    · exact no_p m c h
  · intro c hc e
    have := dec_digits u c hc
    rw [e] at this
    revert this
    decide
theorem pair_of {tx : List UInt8} (h : noPM tx = true) (i : Nat) : (((ByteArray.mk tx.toArray).extract i (i + 2)).toList == [112, 45]) = false := by
  rw [beq_eq_false_iff_ne, Lib.toList_data]
  have e : ((ByteArray.mk tx.toArray).extract i (i + 2)).data.toList = (tx.drop i).take 2 := by
    rw [ByteArray.data_extract]
    simp [List.extract_eq_take_drop]
  rw [e]
  exact noPM_take tx i h
end Go.Proofs.YtpnbjofddlbagaaDoor
