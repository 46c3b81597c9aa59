import Derived.Test.YtainigcchlgehaaGreatDoorA4
import Derived.Test.YtainigcchlgehaaGreatDoorA3
namespace Go.Proofs.YtainigcchlgehaaGreatDoor
open Go Go.RowKit
namespace Flt
open Ieee
theorem whole_rung (k : Nat) (h0 : 0 < k) (hk : k ≤ 9007199254740992) : ∃ r, 0 < r ∧ r < 9218868437227405312 ∧ V r = k * 2 ^ K := by
  by_cases h : k < 9007199254740992
  · have hl := log2_le52 h0 h
    exact ⟨rungOf k K, rungOf_pos K h0 h, rungOf_lt h0 h (by rw [K_eq]; omega), V_rungOf K h0 h⟩
  · have e : k = 2 ^ 53 := by omega
    refine ⟨rungOf 1 (53 + K), rungOf_pos _ (by decide) (by decide), rungOf_lt (by decide) (by decide) (by rw [K_eq]; decide), ?_⟩
    rw [V_rungOf _ (by decide) (by decide), e, Nat.one_mul, Nat.pow_add]
theorem float_int (n : Int) (h1 : -9007199254740992 < n) (h2 : n < 9007199254740992) : ∃ r, r < 9218868437227405312 ∧ V r = n.natAbs * 2 ^ K ∧ floatOfInt .f64 n = withSign (decide (n < 0)) r ∧ (n ≠ 0 → 0 < r) := by
  by_cases h0 : n = 0
  · subst h0
    exact ⟨0, by decide, by rw [V_zero]; simp, by decide, fun h => absurd rfl h⟩
  · obtain ⟨r, r0, r1, r2⟩ := whole_rung n.natAbs (by omega) (by omega)
    refine ⟨r, r1, r2, ?_, fun _ => r0⟩
    have h : floatOfInt .f64 n = Ieee.double.nearest (decide (n < 0)) n.natAbs 0 := rfl
    rw [h, nearest_exact (decide (n < 0)) n.natAbs 0 r K 0 r1 r0 (by rw [K_eq]; omega) (by rw [r2, Nat.pow_zero, Nat.mul_one]), word_eq]
    rfl
theorem sv_with (s : Bool) {r : Nat} (hr : r < 9218868437227405312) : sv (withSign s r) = if s = true then -((V r : Nat) : Int) else (V r : Nat) := by
  obtain ⟨_, t2, _, _, t5⟩ := text_shape s hr
  unfold sv
  rw [t2, t5]
theorem sv_int (n : Int) {r : Nat} (hr : r < 9218868437227405312) (hV : V r = n.natAbs * 2 ^ K) : sv (withSign (decide (n < 0)) r) = n * ((2 ^ K : Nat) : Int) := by
  rw [sv_with _ hr, hV]
  by_cases h : n < 0
  · rw [decide_eq_true h, if_pos rfl, Int.natCast_mul, show ((n.natAbs : Nat) : Int) = -n from by omega, Int.neg_mul, Int.neg_neg]
  · rw [decide_eq_false h, if_neg (by decide), Int.natCast_mul, show ((n.natAbs : Nat) : Int) = n from by omega]
theorem V_one : V 4607182418800017408 = 2 ^ K := by
  have e1 : mant 4607182418800017408 = 2 ^ 52 := by decide
  have e2 : xp 4607182418800017408 = K - 52 := by rw [K_eq]; decide
  have e3 : 52 + (K - 52) = K := by have := K_eq; omega
  unfold V
  rw [e1, e2, ← Nat.pow_add, e3]
theorem add_one {a : Nat} (ha : a < 18446744073709551616) (hr : rung a < 9218868437227405312) (n : Int) (hn : sv a = n * ((2 ^ K : Nat) : Int)) (h1 : n + 1 ≠ 0) (h2 : -9007199254740992 ≤ n + 1) (h3 : n + 1 ≤ 9007199254740992) :
    ∃ r, 0 < r ∧ r < 9218868437227405312 ∧ V r = (n + 1).natAbs * 2 ^ K ∧ floatBits .add .f64 a 4607182418800017408 = some (withSign (decide (n + 1 < 0)) r) := by
  obtain ⟨r, r0, r1, r2⟩ := whole_rung (n + 1).natAbs (by omega) (by omega)
  refine ⟨r, r0, r1, r2, ?_⟩
  have ra := read_fin ha hr
  have rb := read_fin (a := 4607182418800017408) (by decide) (by decide)
  have o1 : rung 4607182418800017408 = 4607182418800017408 := by decide
  have o2 : neg 4607182418800017408 = false := by decide
  rw [o1, o2] at rb
  obtain ⟨b, hb⟩ : ∃ b : Nat, b = min (xp (rung a)) (xp 4607182418800017408) := ⟨_, rfl⟩
  have hb1 : b ≤ xp (rung a) := by omega
  have hb2 : b ≤ xp 4607182418800017408 := by omega
  have base : min (-1074 + (xp (rung a) : Int)) (-1074 + (xp 4607182418800017408 : Int)) = -1074 + (b : Int) := by omega
  have i1 : (-1074 + (xp (rung a) : Int) - (-1074 + (b : Int))).toNat = xp (rung a) - b := by omega
  have i2 : (-1074 + (xp 4607182418800017408 : Int) - (-1074 + (b : Int))).toNat = xp 4607182418800017408 - b := by omega
  have s1 : signed (neg a) (mant (rung a)) (xp (rung a) - b) * ((2 ^ b : Nat) : Int) = sv a := signed_V (neg a) (rung a) b hb1
  have s2 : signed false (mant 4607182418800017408) (xp 4607182418800017408 - b) * ((2 ^ b : Nat) : Int) = ((2 ^ K : Nat) : Int) := by
    rw [← V_one]; exact signed_V false 4607182418800017408 b hb2
  obtain ⟨T, hT⟩ : ∃ T, T = signed (neg a) (mant (rung a)) (xp (rung a) - b) + signed false (mant 4607182418800017408) (xp 4607182418800017408 - b) := ⟨_, rfl⟩
  have hTV : T * ((2 ^ b : Nat) : Int) = (n + 1) * ((2 ^ K : Nat) : Int) := by
    rw [hT, Int.add_mul, s1, s2, Int.add_mul, Int.one_mul, ← hn]
  have pb : 0 < 2 ^ b := Nat.pow_pos (by decide)
  have pK : 0 < 2 ^ K := Nat.pow_pos (by decide)
  have hT0 : T ≠ 0 := by
    intro h
    rw [h, Int.zero_mul] at hTV
    rcases Int.mul_eq_zero.1 hTV.symm with h | h
    · exact h1 h
    · omega
  have hTs : decide (T < 0) = decide (n + 1 < 0) := by
    by_cases h : n + 1 < 0
    · have : T < 0 := by
        apply Int.lt_of_not_ge
        intro hge
        have q1 := Int.mul_nonneg hge (show 0 ≤ ((2 ^ b : Nat) : Int) by omega)
        have q2 := Int.mul_neg_of_neg_of_pos h (show 0 < ((2 ^ K : Nat) : Int) by omega)
        omega
      rw [decide_eq_true h, decide_eq_true this]
    · have : ¬ T < 0 := by
        intro hlt
        have q1 := Int.mul_nonneg (show 0 ≤ n + 1 by omega) (show 0 ≤ ((2 ^ K : Nat) : Int) by omega)
        have q2 := Int.mul_neg_of_neg_of_pos hlt (show 0 < ((2 ^ b : Nat) : Int) by omega)
        omega
      rw [decide_eq_false h, decide_eq_false this]
  have hmag : T.natAbs * 2 ^ b = V r * 2 ^ 0 := by
    rw [r2, Nat.pow_zero, Nat.mul_one]
    have := congrArg Int.natAbs hTV
    rw [Int.natAbs_mul, Int.natAbs_mul, Int.natAbs_natCast, Int.natAbs_natCast] at this
    exact this
  show Ieee.double.add a 4607182418800017408 = _
  unfold Format.add
  rw [ra, rb]
  simp only [Datum.sum, Option.map_some, Format.write]
  rw [base, i1, i2, ← hT, if_neg hT0, hTs, nearest_exact _ _ _ r b 0 r1 r0 (by omega) hmag, word_eq]
  rfl
theorem oddE_whole {r k : Nat} (h0 : 0 < r) (hr : r < 9218868437227405312) (hV : V r = k * 2 ^ K) : 0 ≤ oddE r := by
  obtain ⟨E, e1, e2, e3, e4⟩ := odd_facts h0 hr
  rw [e1]
  apply Int.not_lt.1
  intro hlt
  obtain ⟨d, hd⟩ : ∃ d, K = d + 1 + E := ⟨K - 1 - E, by have := K_eq; omega⟩
  rw [hV, hd, Nat.pow_add, ← Nat.mul_assoc] at e2
  have := Nat.eq_of_mul_eq_mul_right (Nat.pow_pos (by decide)) e2
  rw [Nat.pow_succ, ← Nat.mul_assoc] at this
  omega
end Flt
/-! no p before a minus -/
def noPM : List UInt8 → Bool
  | a :: b :: t => !(a == 112 && b == 45) && noPM (b :: t)
  | _ => true
theorem noPM_take : ∀ (l : List UInt8) (i : Nat), noPM l = true → (l.drop i).take 2 ≠ [112, 45]
  | [], i, _ => by simp
  | [a], 0, _ => by simp
  | [a], i + 1, _ => by simp
  | a :: b :: t, 0, h => by
    intro e
    simp only [List.drop_zero, List.take_succ_cons, List.take_zero] at e
    injection e with e1 e2
    injection e2 with e2 _
    subst e1; subst e2
    revert h
    simp [noPM]
  | a :: b :: t, i + 1, h => by
    have h' : noPM (b :: t) = true := by
      unfold noPM at h
      simp only [Bool.and_eq_true] at h
      exact h.2
    simpa using noPM_take (b :: t) i h'
theorem noPM_no : ∀ l : List UInt8, (∀ c ∈ l, c ≠ 45) → ∀ a, noPM (a :: l) = true
  | [], _, a => by simp [noPM]
  | b :: t, h, a => by
    unfold noPM
    have hb : (b == 45) = false := by simpa using h b (by simp)
    rw [hb, noPM_no t (fun c hc => h c (by simp [hc])) b]
    simp
theorem noPM_cat : ∀ (d i : List UInt8), (∀ c ∈ d, c ≠ 112) → (∀ c ∈ i, c ≠ 45) → noPM (d ++ 112 :: i) = true
  | [], i, _, h => noPM_no i h 112
  | a :: d, i, hd, hi => by
    have ha : (a == 112) = false := by simpa using hd a (by simp)
    have ih := noPM_cat d i (fun c hc => hd c (by simp [hc])) hi
    show noPM (a :: (d ++ 112 :: i)) = true
    cases hdi : d ++ 112 :: i with
    | nil => simp at hdi
    | cons b t =>
      unfold noPM
      rw [← hdi, ih, ha]
      simp
theorem noPM_shape (s : Bool) (m : Nat) (x : Int) (hx : 0 ≤ x) : noPM (shape s m x) = true := by
  obtain ⟨u, rfl⟩ : ∃ u : Nat, x = u := ⟨x.toNat, by omega⟩
  have e : shape s m (u : Int) = ((if s = true then [45] else []) ++ Lib.decDigits m) ++ 112 :: Lib.decDigits u := by
    unfold shape
    rw [Lib.itoa_nonneg]
    simp
  rw [e]
  refine noPM_cat _ _ ?_ ?_
  · intro c hc
    rcases List.mem_append.1 hc with h | h
    · cases s
      · simp at h
      · simp at h; subst h; decide
    · exact no_p m c h
  · intro c hc e
    have := dec_digits u c hc
    rw [e] at this
    revert this
    decide
theorem pair_of {tx : List UInt8} (h : noPM tx = true) (i : Nat) : (((ByteArray.mk tx.toArray).extract i (i + 2)).toList == [112, 45]) = false := by
  rw [beq_eq_false_iff_ne, Lib.toList_data]
  have e : ((ByteArray.mk tx.toArray).extract i (i + 2)).data.toList = (tx.drop i).take 2 := by
    rw [ByteArray.data_extract]
    simp [List.extract_eq_take_drop]
  rw [e]
  exact noPM_take tx i h
end Go.Proofs.YtainigcchlgehaaGreatDoor
namespace Go.Proofs.YtainigcchlgehaaGreatDoor
open Go Go.RowKit
set_option linter.unusedVariables false
def isD (c : UInt8) : Prop := 48 ≤ c.toNat ∧ c.toNat ≤ 57
def valD (l : List UInt8) : Nat := l.foldl (fun a c => a * 10 + (c.toNat - 48)) 0
theorem valD_app (l : List UInt8) (c : UInt8) : valD (l ++ [c]) = valD l * 10 + (c.toNat - 48) := by unfold valD; rw [List.foldl_append]; rfl
theorem digit_of (c : UInt8) (h : isD c) : UInt8.ofNat (48 + (c.toNat - 48)) = c := by
  unfold isD at h
  rw [show 48 + (c.toNat - 48) = c.toNat from by omega]
  exact UInt8.ofNat_toNat
theorem dec_val (k : Nat) : ∀ l : List UInt8, l.length = k → (∀ c ∈ l, isD c) → l ≠ [] → (1 < l.length → l.head? ≠ some 48) → l = Lib.decDigits (valD l) ∧ (l.head? ≠ some 48 → 0 < valD l) := by
  induction k with
  | zero => intro l hk _ hne; exact absurd (List.length_eq_zero_iff.1 hk) hne
  | succ k ih =>
    intro l hk hd _ hh
    obtain ⟨l', c, rfl⟩ : ∃ l' c, l = l' ++ [c] := ⟨l.dropLast, l.getLast (by intro h; rw [h] at hk; simp at hk), (List.dropLast_concat_getLast _).symm⟩
    have hc := hd c (by simp)
    rw [valD_app]
    by_cases hl : l' = []
    · subst hl
      have hv : valD [] = 0 := rfl
      unfold isD at hc
      rw [hv, Nat.zero_mul, Nat.zero_add, Lib.decDigits_one (by omega), digit_of c hc]
      refine ⟨rfl, ?_⟩
      intro h
      apply Nat.pos_of_ne_zero
      intro h2
      apply h
      simp only [List.nil_append, List.head?_cons]
      congr 1
      have : c.toNat = 48 := by omega
      rw [← UInt8.ofNat_toNat (x := c), this]
      rfl
    · have hlen : 0 < l'.length := List.length_pos_iff.2 hl
      have hh' : l'.head? ≠ some 48 := by
        have := hh (by simp; omega)
        cases l' with
        | nil => exact absurd rfl hl
        | cons a t => simpa using this
      obtain ⟨e, p⟩ := ih l' (by simp at hk; omega) (fun c hc => hd c (by simp [hc])) hl (fun _ => hh')
      have hp := p hh'
      refine ⟨?_, fun _ => by omega⟩
      unfold isD at hc
      rw [Lib.decDigits, dif_neg (by omega), show (valD l' * 10 + (c.toNat - 48)) / 10 = valD l' from by omega, show (valD l' * 10 + (c.toNat - 48)) % 10 = c.toNat - 48 from by omega, digit_of c hc, ← e]
theorem dec_lead (n : Nat) (h : 0 < n) : (Lib.decDigits n).head? ≠ some 48 := by
  induction n using Nat.strongRecOn with
  | ind n ih =>
    by_cases h10 : n < 10
    · rw [Lib.decDigits_one h10]
      simp only [List.head?_cons]
      intro e
      injection e with e
      have := congrArg UInt8.toNat e
      rw [UInt8.toNat_ofNat'] at this
      have h48 : (48 : UInt8).toNat = 48 := rfl
      omega
    · rw [Lib.decDigits, dif_neg h10]
      have := ih (n / 10) (by omega) (by omega)
      have hne := dec_ne (n / 10)
      cases hd : Lib.decDigits (n / 10) with
      | nil => exact absurd hd hne
      | cons a t => rw [hd] at this; simpa using this
theorem dec_inj {n m : Nat} (h : Lib.decDigits n = Lib.decDigits m) : n = m := by
  have key : ∀ n, valD (Lib.decDigits n) = n := by
    intro n
    induction n using Nat.strongRecOn with
    | ind n ih =>
      have dig : ∀ d : Nat, d < 10 → (UInt8.ofNat (48 + d)).toNat = 48 + d := by
        intro d hd
        rw [UInt8.toNat_ofNat']
        omega
      by_cases h10 : n < 10
      · rw [Lib.decDigits_one h10]
        show 0 * 10 + ((UInt8.ofNat (48 + n)).toNat - 48) = n
        rw [dig n h10]
        omega
      · rw [Lib.decDigits, dif_neg h10, valD_app, ih (n / 10) (by omega), dig _ (by omega)]
        omega
  rw [← key n, h, key m]
theorem dec_len_pow : ∀ (k n : Nat), n < 10 ^ (k + 1) → (Lib.decDigits n).length ≤ k + 1
  | 0, n, h => by rw [Lib.decDigits_one (by simpa using h)]; simp
  | k + 1, n, h => by
    by_cases h10 : n < 10
    · rw [Lib.decDigits_one h10]; simp
    · rw [Lib.decDigits, dif_neg h10]
      rw [Nat.pow_succ] at h
      have := dec_len_pow k (n / 10) (by omega)
      simp
      omega
theorem dec_len17 {n : Nat} (h : n < 100000000000000000) : (Lib.decDigits n).length ≤ 17 := dec_len_pow 16 n (by simpa using h)
/-- what number answers -/
def NumOk (l : List UInt8) (most : Nat) (v : Int) : Prop := (∃ n : Nat, v = n ∧ n ≤ most ∧ l = Lib.decDigits n) ∨ (v = -1 ∧ ∀ n ≤ most, l ≠ Lib.decDigits n)
theorem numOk_bad {l : List UInt8} {most : Nat} (h : ∀ n ≤ most, l ≠ Lib.decDigits n) : NumOk l most (-1) := Or.inr ⟨rfl, h⟩
theorem numOk_end {l : List UInt8} {most : Nat} (hd : ∀ c ∈ l, isD c) (hne : l ≠ []) (hh : 1 < l.length → l.head? ≠ some 48) : (valD l ≤ most → NumOk l most (valD l)) ∧ (most < valD l → NumOk l most (-1)) := by
  obtain ⟨e, _⟩ := dec_val l.length l rfl hd hne hh
  refine ⟨fun h => Or.inl ⟨_, rfl, h, e⟩, fun h => Or.inr ⟨rfl, fun n hn hc => ?_⟩⟩
  rw [e] at hc
  have := dec_inj hc
  omega
theorem size_list (s : ByteArray) : s.data.toList.length = s.size := by simp
theorem num_empty (s : ByteArray) (most : Int) (h : (s.toList == []) = true) (w : World) :
    Calls Tryz.prog 85 #[.string s, .int .i64 most] w fun e w' => e = .returned (.int .i64 (-1)) ∧ w = w' := by
  go_enter Tryz.func85, Tryz.ntmps85
  go_wp2
  go_ret
  exact ⟨rfl, rfl⟩
theorem num_lead (s : ByteArray) (most : Int) (h : (s.toList == []) = false) (h1 : 1 < s.size) (h2 : s.size ≤ 1000) (h0 : s[0].toNat = 48) (w : World) :
    Calls Tryz.prog 85 #[.string s, .int .i64 most] w fun e w' => e = .returned (.int .i64 (-1)) ∧ w = w' := by
  go_enter Tryz.func85, Tryz.ntmps85
  go_wp2
  go_ret
  exact ⟨rfl, rfl⟩
theorem num_long (s : ByteArray) (most : Int) (h : (s.toList == []) = false) (h1 : 17 < s.size) (h2 : s.size ≤ 1000) (h0 : s[0].toNat ≠ 48) (w : World) :
    Calls Tryz.prog 85 #[.string s, .int .i64 most] w fun e w' => e = .returned (.int .i64 (-1)) ∧ w = w' := by
  have hb : ((s[0].toNat : Int) == 48) = false := by rw [beq_eq_false_iff_ne]; omega
  go_enter Tryz.func85, Tryz.ntmps85
  go_wp2
  go_ret
  exact ⟨rfl, rfl⟩
set_option maxHeartbeats 1000000 in
theorem num_loop1 (s : ByteArray) (most : Nat) (hm : most < 100000000000000000) (h : (s.toList == []) = false) (h1 : s.size ≤ 17) (h2 : s.size = 1)
    (w : World) (HX : Hid (∀ i (hi : i < s.size), ¬ isD s[i] → NumOk s.data.toList most (-1))) (HY : Hid ((∀ c ∈ s.data.toList, isD c) → (valD s.data.toList ≤ most → NumOk s.data.toList most (valD s.data.toList)) ∧ (most < valD s.data.toList → NumOk s.data.toList most (-1)))) :
    Calls Tryz.prog 85 #[.string s, .int .i64 (most : Int)] w fun e w' => (∃ v, e = .returned (.int .i64 v) ∧ NumOk s.data.toList most v) ∧ w = w' := by
  go_enter Tryz.func85, Tryz.ntmps85
  go_wp2_with fail
  go_loop [5, 6] (fun t5 t6 => ∃ (i n : Nat), t5 = .int .i64 (n : Int) ∧ t6 = .int .i64 (i : Int) ∧ i ≤ s.size ∧ n < 100000000000000000 ∧ Hid (n < 10 ^ i ∧ n = valD (s.data.toList.take i) ∧ ∀ c ∈ s.data.toList.take i, isD c)) (fun _ t6 => 60 - (intOf t6).toNat)
  case atStart => exact ⟨0, 0, rfl, rfl, by omega, by omega, Lib.hid (by simp [valD])⟩
  case round =>
    obtain ⟨i, n, rfl, rfl, q1, q2, hinv⟩ := hrel
    by_cases hi : i < s.size
    · by_cases hlo : s[i].toNat < 48
      · have hx := HX.out i hi (fun h => by unfold isD at h; omega)
        have HXX := Lib.hid hx
        clear hx HX HY
        go_wp2
        go_ret
        exact ⟨⟨_, rfl, HXX.out⟩, rfl⟩
      · by_cases hhi : 57 < s[i].toNat
        · have hx := HX.out i hi (fun h => by unfold isD at h; omega)
          have HXX := Lib.hid hx
          clear hx HX HY
          go_wp2
          go_ret
          exact ⟨⟨_, rfl, HXX.out⟩, rfl⟩
        · obtain ⟨j1, j2, j3⟩ := hinv.out
          have hp : n < 10000000000000000 := Nat.lt_of_lt_of_le j1 (Nat.pow_le_pow_right (by omega) (by omega : i ≤ 16))
          have htk : s.data.toList.take (i + 1) = s.data.toList.take i ++ [s[i]] := by
            rw [List.take_succ_eq_append_getElem (by rw [size_list]; exact hi)]
            rfl
          have hI : n * 10 + (s[i].toNat - 48) < 10 ^ (i + 1) ∧ n * 10 + (s[i].toNat - 48) = valD (s.data.toList.take (i + 1)) ∧ ∀ c ∈ s.data.toList.take (i + 1), isD c := by
            rw [htk, valD_app, ← j2]
            refine ⟨by rw [Nat.pow_succ]; omega, rfl, fun c hc => ?_⟩
            rcases List.mem_append.1 hc with h | h
            · exact j3 c h
            · simp only [List.mem_singleton] at h
              rw [h]
              exact ⟨by omega, by omega⟩
          have HI := Lib.hid hI
          have e1 : IntKind.u8.wrap ((s[i].toNat : Int) - 48) = (s[i].toNat : Int) - 48 := by simp [IntKind.wrap, IntKind.bits, IntKind.signed]; omega
          clear hI j1 j2 j3 htk HX HY hinv
          go_wp2
          go_round
          case rel => exact ⟨i + 1, n * 10 + (s[i].toNat - 48), by go_num, by go_num, by omega, by omega, HI⟩
          case measure => simp [intOf]; omega
    · have hie : i = s.size := by omega
      obtain ⟨j1, j2, j3⟩ := hinv.out
      rw [List.take_of_length_le (by rw [size_list]; omega)] at j2 j3
      obtain ⟨y1, y2⟩ := HY.out j3
      rw [← j2] at y1 y2
      clear HX HY hinv j1 j2 j3
      by_cases hgt : most < n
      · have y := Lib.hid (y2 hgt)
        clear y1 y2
        go_wp2
        go_ret
        exact ⟨⟨_, rfl, y.out⟩, rfl⟩
      · have y := Lib.hid (y1 (by omega))
        clear y1 y2
        go_wp2
        go_ret
        exact ⟨⟨_, rfl, y.out⟩, rfl⟩
set_option maxHeartbeats 1000000 in
theorem num_loop2 (s : ByteArray) (most : Nat) (hm : most < 100000000000000000) (h : (s.toList == []) = false) (h1 : s.size ≤ 17) (h2 : 1 < s.size) (hb : ((s[0].toNat : Int) == 48) = false)
    (w : World) (HX : Hid (∀ i (hi : i < s.size), ¬ isD s[i] → NumOk s.data.toList most (-1))) (HY : Hid ((∀ c ∈ s.data.toList, isD c) → (valD s.data.toList ≤ most → NumOk s.data.toList most (valD s.data.toList)) ∧ (most < valD s.data.toList → NumOk s.data.toList most (-1)))) :
    Calls Tryz.prog 85 #[.string s, .int .i64 (most : Int)] w fun e w' => (∃ v, e = .returned (.int .i64 v) ∧ NumOk s.data.toList most v) ∧ w = w' := by
  go_enter Tryz.func85, Tryz.ntmps85
  go_wp2_with fail
  go_loop [5, 6] (fun t5 t6 => ∃ (i n : Nat), t5 = .int .i64 (n : Int) ∧ t6 = .int .i64 (i : Int) ∧ i ≤ s.size ∧ n < 100000000000000000 ∧ Hid (n < 10 ^ i ∧ n = valD (s.data.toList.take i) ∧ ∀ c ∈ s.data.toList.take i, isD c)) (fun _ t6 => 60 - (intOf t6).toNat)
  case atStart => exact ⟨0, 0, rfl, rfl, by omega, by omega, Lib.hid (by simp [valD])⟩
  case round =>
    obtain ⟨i, n, rfl, rfl, q1, q2, hinv⟩ := hrel
    by_cases hi : i < s.size
    · by_cases hlo : s[i].toNat < 48
      · have hx := HX.out i hi (fun h => by unfold isD at h; omega)
        have HXX := Lib.hid hx
        clear hx HX HY
        go_wp2
        go_ret
        exact ⟨⟨_, rfl, HXX.out⟩, rfl⟩
      · by_cases hhi : 57 < s[i].toNat
        · have hx := HX.out i hi (fun h => by unfold isD at h; omega)
          have HXX := Lib.hid hx
          clear hx HX HY
          go_wp2
          go_ret
          exact ⟨⟨_, rfl, HXX.out⟩, rfl⟩
        · obtain ⟨j1, j2, j3⟩ := hinv.out
          have hp : n < 10000000000000000 := Nat.lt_of_lt_of_le j1 (Nat.pow_le_pow_right (by omega) (by omega : i ≤ 16))
          have htk : s.data.toList.take (i + 1) = s.data.toList.take i ++ [s[i]] := by
            rw [List.take_succ_eq_append_getElem (by rw [size_list]; exact hi)]
            rfl
          have hI : n * 10 + (s[i].toNat - 48) < 10 ^ (i + 1) ∧ n * 10 + (s[i].toNat - 48) = valD (s.data.toList.take (i + 1)) ∧ ∀ c ∈ s.data.toList.take (i + 1), isD c := by
            rw [htk, valD_app, ← j2]
            refine ⟨by rw [Nat.pow_succ]; omega, rfl, fun c hc => ?_⟩
            rcases List.mem_append.1 hc with h | h
            · exact j3 c h
            · simp only [List.mem_singleton] at h
              rw [h]
              exact ⟨by omega, by omega⟩
          have HI := Lib.hid hI
          have e1 : IntKind.u8.wrap ((s[i].toNat : Int) - 48) = (s[i].toNat : Int) - 48 := by simp [IntKind.wrap, IntKind.bits, IntKind.signed]; omega
          clear hI j1 j2 j3 htk HX HY hinv
          go_wp2
          go_round
          case rel => exact ⟨i + 1, n * 10 + (s[i].toNat - 48), by go_num, by go_num, by omega, by omega, HI⟩
          case measure => simp [intOf]; omega
    · have hie : i = s.size := by omega
      obtain ⟨j1, j2, j3⟩ := hinv.out
      rw [List.take_of_length_le (by rw [size_list]; omega)] at j2 j3
      obtain ⟨y1, y2⟩ := HY.out j3
      rw [← j2] at y1 y2
      clear HX HY hinv j1 j2 j3
      by_cases hgt : most < n
      · have y := Lib.hid (y2 hgt)
        clear y1 y2
        go_wp2
        go_ret
        exact ⟨⟨_, rfl, y.out⟩, rfl⟩
      · have y := Lib.hid (y1 (by omega))
        clear y1 y2
        go_wp2
        go_ret
        exact ⟨⟨_, rfl, y.out⟩, rfl⟩
theorem number_any (s : ByteArray) (most : Nat) (hm : most < 100000000000000000) (hs : s.size ≤ 1000) (w : World) :
    Calls Tryz.prog 85 #[.string s, .int .i64 (most : Int)] w fun e w' => (∃ v, e = .returned (.int .i64 v) ∧ NumOk s.data.toList most v) ∧ w = w' := by
  have hz := size_list s
  by_cases h0 : s.data.toList = []
  · refine (num_empty s most (by rw [Lib.toList_data, h0]; rfl) w).mono ?_
    rintro e w' ⟨he, hw⟩
    exact ⟨⟨_, he, numOk_bad fun n _ h => dec_ne n (by rw [← h, h0])⟩, hw⟩
  · have hp : 0 < s.size := by rw [← hz]; exact List.length_pos_iff.2 h0
    have hne : (s.toList == []) = false := by rw [Lib.toList_data]; simpa using h0
    have hhd : s.data.toList.head? = some s[0] := by
      rw [List.head?_eq_getElem?, List.getElem?_eq_getElem (by rw [hz]; exact hp)]
      rfl
    by_cases hl : 1 < s.size ∧ s[0].toNat = 48
    · refine (num_lead s most hne hl.1 hs hl.2 w).mono ?_
      rintro e w' ⟨he, hw⟩
      refine ⟨⟨_, he, numOk_bad fun n _ h => ?_⟩, hw⟩
      have h48 : s[0] = 48 := by rw [← UInt8.ofNat_toNat (x := s[0]), hl.2]; rfl
      rw [h, h48] at hhd
      by_cases hn : n = 0
      · subst hn
        rw [h, Lib.decDigits_one (by omega)] at hz
        simp at hz
        omega
      · exact dec_lead n (by omega) hhd
    · by_cases hlen : 17 < s.size
      · refine (num_long s most hne hlen hs (fun h => hl ⟨by omega, h⟩) w).mono ?_
        rintro e w' ⟨he, hw⟩
        refine ⟨⟨_, he, numOk_bad fun n hn h => ?_⟩, hw⟩
        have := dec_len17 (n := n) (by omega)
        rw [← h, hz] at this
        omega
      · have HX : Hid (∀ i (hi : i < s.size), ¬ isD s[i] → NumOk s.data.toList most (-1)) := Lib.hid fun i hi hd => numOk_bad fun n _ h => hd (by
          refine dec_digits n s[i] ?_
          rw [← h]
          have : s[i] = s.data.toList[i]'(by rw [hz]; exact hi) := rfl
          rw [this]
          exact List.getElem_mem _)
        have HY : Hid ((∀ c ∈ s.data.toList, isD c) → (valD s.data.toList ≤ most → NumOk s.data.toList most (valD s.data.toList)) ∧ (most < valD s.data.toList → NumOk s.data.toList most (-1))) := Lib.hid fun hd => numOk_end hd h0 (fun h => by
          rw [hhd]
          intro e
          injection e with e
          exact hl ⟨by omega, by rw [e]; rfl⟩)
        by_cases h1 : s.size = 1
        · exact num_loop1 s most hm hne (by omega) h1 w HX HY
        · exact num_loop2 s most hm hne (by omega) (by omega) (by rw [beq_eq_false_iff_ne]; intro h; exact hl ⟨by omega, by omega⟩) w HX HY
end Go.Proofs.YtainigcchlgehaaGreatDoor
namespace Go.Proofs.YtainigcchlgehaaGreatDoor
open Go Go.RowKit
set_option linter.unusedVariables false
def tailOf (m : Nat) (x : Int) : List UInt8 := Lib.decDigits m ++ (112 :: Lib.itoa x)
theorem shape_tail (s : Bool) (m : Nat) (x : Int) : shape s m x = (if s = true then [45] else []) ++ tailOf m x := rfl
def Good (l : List UInt8) : Prop := ∃ (m : Nat) (x : Int), m % 2 = 1 ∧ m < 9007199254740992 ∧ Room m x ∧ l = tailOf m x
def Cut1 (l : List UInt8) (p : Nat) : Prop := p ≤ l.length ∧ (∀ c ∈ l.take p, c ≠ 112) ∧ (p = l.length ∨ l[p]? = some 112)
theorem itoa_ne (x : Int) : Lib.itoa x ≠ [] := by
  unfold Lib.itoa
  split
  · simp
  · exact dec_ne _
theorem cut_at_p {d r : List UInt8} (hd : ∀ c ∈ d, c ≠ 112) {p : Nat} (h : Cut1 (d ++ 112 :: r) p) : p = d.length := by
  obtain ⟨h1, h2, h3⟩ := h
  rcases Nat.lt_trichotomy p d.length with hlt | he | hgt
  · exfalso
    rcases h3 with h3 | h3
    · simp at h3; omega
    · rw [List.getElem?_append_left hlt, List.getElem?_eq_getElem hlt] at h3
      injection h3 with h3
      exact hd _ (List.getElem_mem hlt) h3
  · exact he
  · exfalso
    refine h2 112 ?_ rfl
    rw [List.take_append, List.mem_append]
    right
    obtain ⟨k, hk⟩ : ∃ k, p - d.length = k + 1 := ⟨p - d.length - 1, by omega⟩
    rw [hk]
    simp
theorem good_cut {l : List UInt8} {p : Nat} (hg : Good l) (hc : Cut1 l p) : ∃ (m : Nat) (x : Int), m % 2 = 1 ∧ m < 9007199254740992 ∧ Room m x ∧ l.take p = Lib.decDigits m ∧ l.drop (p + 1) = Lib.itoa x ∧ p + 1 < l.length := by
  obtain ⟨m, x, h1, h2, h3, rfl⟩ := hg
  have hp := cut_at_p (no_p m) hc
  subst hp
  refine ⟨m, x, h1, h2, h3, ?_, ?_, ?_⟩
  · unfold tailOf; simp
  · unfold tailOf; simp
  · unfold tailOf
    have := List.length_pos_iff.2 (itoa_ne x)
    simp
    omega
/-- the first number does not do -/
theorem bad1 {l : List UInt8} {p : Nat} {v : Int} (hc : Cut1 l p) (hv : NumOk (l.take p) 9007199254740991 v) (h : v < 1 ∨ v % 2 = 0 ∨ l.length ≤ p + 1) : ¬ Good l := by
  intro hg
  obtain ⟨m, x, h1, h2, h3, h4, h5, h6⟩ := good_cut hg hc
  rcases hv with ⟨n, rfl, hn, e⟩ | ⟨rfl, hb⟩
  · rw [h4] at e
    have := dec_inj e
    omega
  · exact hb m (by omega) h4
theorem itoa_first {x : Int} {c : UInt8} {t : List UInt8} (h : Lib.itoa x = c :: t) : (c = 45 → x < 0 ∧ t = Lib.decDigits x.natAbs) ∧ (c ≠ 45 → 0 ≤ x ∧ c :: t = Lib.decDigits x.toNat) := by
  unfold Lib.itoa at h
  split at h
  · rename_i hx
    injection h with h1 h2
    exact ⟨fun _ => ⟨hx, h2.symm⟩, fun hc => absurd h1.symm hc⟩
  · rename_i hx
    refine ⟨fun hc => ?_, fun _ => ⟨by omega, h.symm⟩⟩
    exfalso
    have := dec_digits x.toNat c (by rw [h]; simp)
    rw [hc] at this
    revert this
    decide
theorem bad2 {l : List UInt8} {p : Nat} {c : UInt8} {t : List UInt8} {v : Int} (hc : Cut1 l p) (hd : l.drop (p + 1) = c :: t) (hne : c ≠ 45) (hv : NumOk (c :: t) 2000 v) (h : v < 0) : ¬ Good l := by
  intro hg
  obtain ⟨m, x, h1, h2, h3, h4, h5, h6⟩ := good_cut hg hc
  rw [hd] at h5
  obtain ⟨x0, e⟩ := (itoa_first h5.symm).2 hne
  rcases hv with ⟨n, rfl, hn, e⟩ | ⟨rfl, hb⟩
  · omega
  · exact hb x.toNat (by unfold Room at h3; omega) e
theorem bad3 {l : List UInt8} {p : Nat} {t : List UInt8} {v : Int} (hc : Cut1 l p) (hd : l.drop (p + 1) = 45 :: t) (hv : NumOk t 2000 v) (h : v < 1) : ¬ Good l := by
  intro hg
  obtain ⟨m, x, h1, h2, h3, h4, h5, h6⟩ := good_cut hg hc
  rw [hd] at h5
  obtain ⟨x0, e⟩ := (itoa_first h5.symm).1 rfl
  rcases hv with ⟨n, rfl, hn, e'⟩ | ⟨rfl, hb⟩
  · rw [e] at e'
    have := dec_inj e'
    omega
  · exact hb x.natAbs (by unfold Room at h3; omega) e
theorem take_p {l : List UInt8} {p : Nat} (hc : Cut1 l p) (hlt : p + 1 < l.length) : l = l.take p ++ 112 :: l.drop (p + 1) := by
  obtain ⟨h1, h2, h3⟩ := hc
  rcases h3 with h3 | h3
  · omega
  · have hp : p < l.length := by omega
    rw [List.getElem?_eq_getElem hp] at h3
    injection h3 with h3
    have := List.drop_eq_getElem_cons hp
    rw [h3] at this
    rw [← this, List.take_append_drop]
theorem good2 {l : List UInt8} {p m k : Nat} {t : List UInt8} (hc : Cut1 l p) (hlt : p + 1 < l.length) (hm : l.take p = Lib.decDigits m) (hd : l.drop (p + 1) = t) (ht : t = Lib.decDigits k) : l = tailOf m (k : Int) := by
  rw [take_p hc hlt, hm, hd, ht]
  unfold tailOf
  rw [Lib.itoa_nonneg]
theorem good3 {l : List UInt8} {p m k : Nat} {t : List UInt8} (hc : Cut1 l p) (hlt : p + 1 < l.length) (hm : l.take p = Lib.decDigits m) (hd : l.drop (p + 1) = 45 :: t) (ht : t = Lib.decDigits k) (hk : 1 ≤ k) : l = tailOf m (-(k : Int)) := by
  rw [take_p hc hlt, hm, hd, ht]
  unfold tailOf
  rw [Lib.itoa_neg k hk]
/-- the bits that come out -/
theorem final_bits {M k m : Nat} {x e : Int} (hM : M % 2 = 1) (hm : m = M * 2 ^ k) (he : e = x - k) (h2 : m < 9007199254740992) (h3 : 4503599627370496 ≤ m ∨ e ≤ -1074) (e1 : -1074 ≤ e) (e2 : e ≤ 971) :
    Room M x ∧ Flt.rungOf M (x + 1074).toNat = (if m < 4503599627370496 then 0 else (e + 1075).toNat) * 4503599627370496 + m % 4503599627370496 := by
  have hM0 : 0 < M := by omega
  have hp : 0 < 2 ^ k := Nat.pow_pos (by decide)
  have hMm : M ≤ m := by rw [hm]; exact Nat.le_mul_of_pos_right _ hp
  have hlm : m.log2 = M.log2 + k := by
    rw [hm]
    apply Nat.le_antisymm
    · have h := (Nat.log2_lt (n := M * 2 ^ k) (k := M.log2 + k + 1) (by rw [← hm]; omega)).2 (by
        have := Nat.lt_log2_self (n := M)
        rw [show M.log2 + k + 1 = (M.log2 + 1) + k from by omega, Nat.pow_add]
        exact Nat.mul_lt_mul_of_pos_right this hp)
      omega
    · refine (Nat.le_log2 (by rw [← hm]; omega)).2 ?_
      rw [Nat.pow_add]
      exact Nat.mul_le_mul_right _ (Nat.log2_self_le (by omega))
  have hl52 := Flt.log2_le52 (m := m) (by omega) h2
  have hroom : Room M x := ⟨by omega, by omega⟩
  refine ⟨hroom, ?_⟩
  apply Flt.V_inj
  rw [Flt.V_rungOf _ hM0 (by omega)]
  have key : M * 2 ^ (x + 1074).toNat = m * 2 ^ (e + 1074).toNat := by
    rw [hm, Nat.mul_assoc, ← Nat.pow_add]
    congr 2
    omega
  rw [key]
  by_cases hs : m < 4503599627370496
  · rw [if_pos hs, Nat.zero_mul, Nat.zero_add, Nat.mod_eq_of_lt hs]
    have : (e + 1074).toNat = 0 := by omega
    have e3 : Flt.mant m = m := by unfold Flt.mant; rw [if_pos hs]
    have e4 : Flt.xp m = 0 := by unfold Flt.xp; omega
    unfold Flt.V
    rw [this, e3, e4]
  · rw [if_neg hs]
    have hmod : m % 4503599627370496 = m - 4503599627370496 := by omega
    obtain ⟨z, hz⟩ : ∃ z, z = (e + 1075).toNat * 4503599627370496 + m % 4503599627370496 := ⟨_, rfl⟩
    rw [← hz]
    have i1 : Flt.mant z = m := by rw [Flt.mant_norm (by omega)]; omega
    have i2 : Flt.xp z = (e + 1074).toNat := by unfold Flt.xp; omega
    unfold Flt.V
    rw [i1, i2]
theorem no_room {M k m : Nat} {x e : Int} (hm : m = M * 2 ^ k) (hM0 : 0 < M) (he : e = x - k) (hk : k = 0 ∨ -1074 ≤ e) (h3 : 4503599627370496 ≤ m ∨ e ≤ -1074) (h : e < -1074 ∨ 971 < e) : ¬ Room M x := by
  intro hr
  unfold Room at hr
  have hp : 0 < 2 ^ k := Nat.pow_pos (by decide)
  have hm0 : 0 < M * 2 ^ k := Nat.mul_pos hM0 hp
  rcases h with h | h
  · omega
  · rcases h3 with h3 | h3
    · have h1 : 52 ≤ (M * 2 ^ k).log2 := (Nat.le_log2 (by omega)).2 (by rw [← hm]; exact Nat.le_trans (by decide) h3)
      have h2 : (M * 2 ^ k).log2 < M.log2 + k + 1 := (Nat.log2_lt (by omega)).2 (by
        have := Nat.lt_log2_self (n := M)
        rw [show M.log2 + k + 1 = (M.log2 + 1) + k from by omega, Nat.pow_add]
        exact Nat.mul_lt_mul_of_pos_right this hp)
      omega
    · omega
end Go.Proofs.YtainigcchlgehaaGreatDoor
namespace Go.Proofs.YtainigcchlgehaaGreatDoor
open Go Go.RowKit
set_option linter.unusedVariables false
theorem number53 (s : ByteArray) (hs : s.size ≤ 1000) (w : World) :
    Calls Tryz.prog 85 #[.string s, .int .i64 9007199254740991] w fun e w' => (∃ v, e = .returned (.int .i64 v) ∧ NumOk s.data.toList 9007199254740991 v) ∧ w = w' := number_any s 9007199254740991 (by decide) hs w
theorem number2000 (s : ByteArray) (hs : s.size ≤ 1000) (w : World) :
    Calls Tryz.prog 85 #[.string s, .int .i64 2000] w fun e w' => (∃ v, e = .returned (.int .i64 v) ∧ NumOk s.data.toList 2000 v) ∧ w = w' := number_any s 2000 (by decide) hs w
theorem ext_take (s : ByteArray) (p : Nat) : (s.extract 0 p).data.toList = s.data.toList.take p := by
  rw [ByteArray.data_extract]; simp [List.extract_eq_take_drop]
theorem ext_drop (s : ByteArray) (p : Nat) : (s.extract p s.size).data.toList = s.data.toList.drop p := by
  rw [ByteArray.data_extract]
  simp only [Array.toList_extract, List.extract_eq_take_drop]
  rw [List.take_of_length_le]
  rw [List.length_drop, size_list]
  omega
theorem get_list (s : ByteArray) (i : Nat) (h : i < s.size) : s.data.toList[i]? = some s[i] := by
  rw [List.getElem?_eq_getElem (by rw [size_list]; exact h)]
  rfl
theorem ret_ps {a b : Nat} (h : a = b) : Ending.returned (.tuple #[.float .f64 a, .int .i64 0]) = Ending.returned (psTuple (some b)) := by rw [h]; rfl
set_option maxHeartbeats 4000000 in
theorem rp_plus (s : ByteArray) (hs : s.size ≤ 50) (hp0 : 0 < s.size) (h1 : (s.toList == [110, 97, 110]) = false) (h2 : (s.toList == [105, 110, 102]) = false) (h3 : (s.toList == [48, 112, 48]) = false) (hc : ((s[0].toNat : Int) == 45) = false) (R : Option Nat) (HN : Hid (¬ Good s.data.toList → R = none))
    (HR : Hid (∀ (M : Nat) (x : Int), M % 2 = 1 → M < 9007199254740992 → -2000 ≤ x → x ≤ 2000 → s.data.toList = tailOf M x → (Room M x → R = some (withSign false (Flt.rungOf M (x + 1074).toNat))) ∧ (¬ Room M x → R = none))) (w : World) :
    Calls Tryz.prog 75 #[.string s] w fun e w' => e = .returned (psTuple R) ∧ w = w' := by
  have hf := run_frombits
  go_enter Tryz.func75, Tryz.ntmps75
  go_wp2_with fail
  go_loop [6] (fun t6 => ∃ (p : Nat), t6 = .int .i64 (p : Int) ∧ p ≤ s.size ∧ Hid (∀ c ∈ s.data.toList.take p, c ≠ 112)) (fun t6 => 60 - (intOf t6).toNat)
  case atStart => exact ⟨0, rfl, by omega, Lib.hid (by simp)⟩
  case round =>
    obtain ⟨p, rfl, q1, hinv⟩ := hrel
    have hsl := size_list s
    by_cases hp : p < s.size
    · by_cases hq : s[p].toNat = 112
      · have hC : Cut1 s.data.toList p := ⟨by omega, hinv.out, Or.inr (by rw [get_list _ _ hp, ← UInt8.ofNat_toNat (x := s[p]), hq]; rfl)⟩
        clear hinv
        go_wp2_with fail
        refine (number53 (s.extract 0 p) (by rw [ByteArray.size_extract]; omega) _).mono ?_
        rintro e w' ⟨⟨v, rfl, hv⟩, rfl⟩
        rw [ext_take] at hv

        rcases hv with ⟨M, rfl, hM1, hM2⟩ | ⟨rfl, hbad⟩
        · by_cases hM0 : M = 0
          · subst hM0
            have hnn := HN.out (bad1 hC (Or.inl ⟨0, rfl, hM1, hM2⟩) (Or.inl (by decide)))
            have HNN := Lib.hid hnn
            clear hnn HN HR

            go_wp2
            go_ret2
            exact ⟨by rw [HNN.out]; rfl, rfl⟩
          · by_cases hMe : M % 2 = 0
            · have hb : ((M : Int) % 2 == 0) = true := by simp; omega
              have hnn := HN.out (bad1 hC (Or.inl ⟨M, rfl, hM1, hM2⟩) (Or.inr (Or.inl (by omega))))
              have HNN := Lib.hid hnn
              clear hnn HN HR

              go_wp2
              go_ret2
              exact ⟨by rw [HNN.out]; rfl, rfl⟩
            · have hb : ((M : Int) % 2 == 0) = false := by simp; omega
              by_cases hlen : s.size ≤ p + 1
              · have hnn := HN.out (bad1 hC (Or.inl ⟨M, rfl, hM1, hM2⟩) (Or.inr (Or.inr (by omega))))
                have HNN := Lib.hid hnn
                clear hnn HN HR
                go_wp2
                go_ret2
                exact ⟨by rw [HNN.out]; rfl, rfl⟩
              · have hp1 : p + 1 < s.size := by omega
                obtain ⟨R1, hR1⟩ : ∃ R1, s.extract (p + 1) s.size = R1 := ⟨_, rfl⟩
                have hR1l : R1.data.toList = s.data.toList.drop (p + 1) := by rw [← hR1]; exact ext_drop _ _
                have hR1s : R1.size = s.size - (p + 1) := by rw [← size_list R1, hR1l, List.length_drop, hsl]
                have hdr : s.data.toList.drop (p + 1) = s[p + 1] :: s.data.toList.drop (p + 2) := by
                  rw [List.drop_eq_getElem_cons (by rw [hsl]; exact hp1)]
                  rfl
                by_cases hm : s[p + 1].toNat = 45
                · have h45 : s[p + 1] = 45 := by rw [← UInt8.ofNat_toNat (x := s[p + 1]), hm]; rfl
                  rw [h45] at hdr
                  obtain ⟨R2, hR2⟩ : ∃ R2, R1.extract 1 R1.size = R2 := ⟨_, rfl⟩
                  have hR2l : R2.data.toList = s.data.toList.drop (p + 2) := by rw [← hR2, ext_drop, hR1l, List.drop_drop]
                  have hR2s : R2.size ≤ 50 := by rw [← size_list R2, hR2l, List.length_drop, hsl]; omega
                  rw [hR1s] at hR2
                  have H45 := Lib.hid hdr
                  clear h45 hdr
                  go_wp2_with fail
                  refine (number2000 R2 (by omega) _).mono ?_
                  rintro e w' ⟨⟨v, rfl, hv⟩, rfl⟩
                  rw [hR2l] at hv
                  rcases hv with ⟨j, rfl, hj1, hj2⟩ | ⟨rfl, hbad⟩
                  · by_cases hj0 : j = 0
                    · subst hj0
                      have hnn := HN.out (bad3 hC H45.out (Or.inl ⟨0, rfl, hj1, hj2⟩) (by decide))
                      have HNN := Lib.hid hnn
                      clear hnn HN HR

                      go_wp2
                      go_ret2
                      exact ⟨by rw [HNN.out]; rfl, rfl⟩
                    ·
                      have hbj : ((j : Int) == 0) = false := by rw [beq_eq_false_iff_ne]; omega
                      have hTL := good3 hC (by omega) hM2 H45.out hj2 (by omega)
                      have hR := HR.out M (-(j : Int)) (by omega) (by omega) (by omega) (by omega) hTL
                      have HRR := Lib.hid hR
                      have hMo := Lib.hid (show 0 < M ∧ M % 2 = 1 from ⟨by omega, by omega⟩)
                      clear hR HR HN hTL
                      go_wp2
                      go_loop [7, 10] (fun t7 t10 => ∃ (k : Nat) (m e : Int), t7 = .int .i64 m ∧ t10 = .int .i64 e ∧ 0 < m ∧ m < 9007199254740992 ∧ -2000 ≤ e ∧ e ≤ 2000 ∧ Hid (m.toNat = M * 2 ^ k ∧ e = (-(j : Int)) - k ∧ (k = 0 ∨ -1074 ≤ e))) (fun _ t10 => (intOf t10 + 3000).toNat)
                      case atStart => exact ⟨0, (M : Int), (-(j : Int)), rfl, rfl, by omega, by omega, by omega, by omega, Lib.hid ⟨by simp, by simp, Or.inl rfl⟩⟩
                      case round =>
                        obtain ⟨k, m, e, rfl, rfl, q1, q2, q3, q4, hinv⟩ := hrel
                        clear hM0 hMe hb hM1 hM2
                        by_cases c1 : m < 4503599627370496
                        · by_cases c2 : -1074 < e
                          · obtain ⟨j1, j2, j3⟩ := hinv.out
                            have hI : (m * 2).toNat = M * 2 ^ (k + 1) ∧ e - 1 = (-(j : Int)) - ((k + 1 : Nat) : Int) ∧ (k + 1 = 0 ∨ -1074 ≤ e - 1) := ⟨by rw [Nat.pow_succ, ← Nat.mul_assoc, ← j1]; omega, by omega, by omega⟩
                            have HI := Lib.hid hI
                            clear hI j1 j2 j3 hinv HRR
                            go_wp2
                            go_round
                            case rel => exact ⟨k + 1, m * 2, e - 1, by go_num, by go_num, by omega, by omega, by omega, by omega, HI⟩
                            case measure => simp [intOf]; omega
                          · obtain ⟨j1, j2, j3⟩ := hinv.out
                            by_cases c3 : e < -1074
                            · have hnn := HRR.out.2 (no_room j1 hMo.out.1 j2 j3 (by omega) (by omega))
                              have HNN := Lib.hid hnn
                              clear hnn HRR j1 j2 j3 hinv
                              go_wp2
                              go_ret2
                              exact ⟨by rw [HNN.out]; rfl, rfl⟩
                            · obtain ⟨hro, hbits⟩ := final_bits hMo.out.2 j1 j2 (by omega) (by omega) (by omega) (by omega)
                              have hnn := HRR.out.1 hro
                              rw [hbits, if_pos (by omega)] at hnn
                              have HNN := Lib.hid hnn
                              have hee : e = -1074 := by omega
                              subst hee
                              clear hnn HRR j1 j2 j3 hinv hro hbits
                              have b1 : bits .and .u64 m 4503599627370495 = m := by
                                have h := u64_and_nat m.toNat 4503599627370495 (by omega) (by decide)
                                rw [show ((m.toNat : Nat) : Int) = m from by omega] at h
                                refine h.trans ?_
                                rw [show (4503599627370495 : Nat) = 2 ^ 52 - 1 from by decide, Nat.and_two_pow_sub_one_eq_mod]
                                omega
                              go_wp2
                              go_ret2
                              refine ⟨?_, rfl⟩
                              rw [HNN.out]
                              exact ret_ps (by unfold withSign; rw [if_neg (by decide)]; omega)
                        · obtain ⟨j1, j2, j3⟩ := hinv.out
                          by_cases c3 : e < -1074
                          · have hnn := HRR.out.2 (no_room j1 hMo.out.1 j2 j3 (by omega) (by omega))
                            have HNN := Lib.hid hnn
                            clear hnn HRR j1 j2 j3 hinv
                            go_wp2
                            go_ret2
                            exact ⟨by rw [HNN.out]; rfl, rfl⟩
                          · by_cases c4 : 971 < e
                            · have hnn := HRR.out.2 (no_room j1 hMo.out.1 j2 j3 (by omega) (by omega))
                              have HNN := Lib.hid hnn
                              clear hnn HRR j1 j2 j3 hinv
                              go_wp2
                              go_ret2
                              exact ⟨by rw [HNN.out]; rfl, rfl⟩
                            · obtain ⟨hro, hbits⟩ := final_bits hMo.out.2 j1 j2 (by omega) (by omega) (by omega) (by omega)
                              have hnn := HRR.out.1 hro
                              rw [hbits, if_neg (by omega)] at hnn
                              have HNN := Lib.hid hnn
                              clear hnn HRR j1 j2 j3 hinv hro hbits
                              have b1 : bits .and .u64 m 4503599627370495 = m - 4503599627370496 := by
                                have h := u64_and_nat m.toNat 4503599627370495 (by omega) (by decide)
                                rw [show ((m.toNat : Nat) : Int) = m from by omega] at h
                                refine h.trans ?_
                                rw [show (4503599627370495 : Nat) = 2 ^ 52 - 1 from by decide, Nat.and_two_pow_sub_one_eq_mod]
                                omega
                              go_wp2
                              go_ret2
                              refine ⟨?_, rfl⟩
                              rw [HNN.out]
                              exact ret_ps (by unfold withSign; rw [if_neg (by decide)]; omega)
                  ·
                    have hnn := HN.out (bad3 hC H45.out (Or.inr ⟨rfl, hbad⟩) (by decide))
                    have HNN := Lib.hid hnn
                    clear hnn HN HR

                    go_wp2
                    go_ret2
                    exact ⟨by rw [HNN.out]; rfl, rfl⟩
                · have hne : s[p + 1] ≠ 45 := fun h => hm (by rw [h]; rfl)
                  have hbm : ((s[p + 1].toNat : Int) == 45) = false := by rw [beq_eq_false_iff_ne]; omega
                  have H45 := Lib.hid hdr
                  have HNE := Lib.hid hne
                  clear hdr hne
                  go_wp2_with fail
                  refine (number2000 R1 (by omega) _).mono ?_
                  rintro e w' ⟨⟨v, rfl, hv⟩, rfl⟩
                  rw [hR1l] at hv
                  rcases hv with ⟨j, rfl, hj1, hj2⟩ | ⟨rfl, hbad⟩
                  ·
                    have hTL := good2 hC (by omega) hM2 rfl hj2
                    have hR := HR.out M (j : Int) (by omega) (by omega) (by omega) (by omega) hTL
                    have HRR := Lib.hid hR
                    have hMo := Lib.hid (show 0 < M ∧ M % 2 = 1 from ⟨by omega, by omega⟩)
                    clear hR HR HN hTL
                    go_wp2
                    go_loop [7, 10] (fun t7 t10 => ∃ (k : Nat) (m e : Int), t7 = .int .i64 m ∧ t10 = .int .i64 e ∧ 0 < m ∧ m < 9007199254740992 ∧ -2000 ≤ e ∧ e ≤ 2000 ∧ Hid (m.toNat = M * 2 ^ k ∧ e = (j : Int) - k ∧ (k = 0 ∨ -1074 ≤ e))) (fun _ t10 => (intOf t10 + 3000).toNat)
                    case atStart => exact ⟨0, (M : Int), (j : Int), rfl, rfl, by omega, by omega, by omega, by omega, Lib.hid ⟨by simp, by simp, Or.inl rfl⟩⟩
                    case round =>
                      obtain ⟨k, m, e, rfl, rfl, q1, q2, q3, q4, hinv⟩ := hrel
                      clear hM0 hMe hb hM1 hM2
                      by_cases c1 : m < 4503599627370496
                      · by_cases c2 : -1074 < e
                        · obtain ⟨j1, j2, j3⟩ := hinv.out
                          have hI : (m * 2).toNat = M * 2 ^ (k + 1) ∧ e - 1 = (j : Int) - ((k + 1 : Nat) : Int) ∧ (k + 1 = 0 ∨ -1074 ≤ e - 1) := ⟨by rw [Nat.pow_succ, ← Nat.mul_assoc, ← j1]; omega, by omega, by omega⟩
                          have HI := Lib.hid hI
                          clear hI j1 j2 j3 hinv HRR
                          go_wp2
                          go_round
                          case rel => exact ⟨k + 1, m * 2, e - 1, by go_num, by go_num, by omega, by omega, by omega, by omega, HI⟩
                          case measure => simp [intOf]; omega
                        · obtain ⟨j1, j2, j3⟩ := hinv.out
                          by_cases c3 : e < -1074
                          · have hnn := HRR.out.2 (no_room j1 hMo.out.1 j2 j3 (by omega) (by omega))
                            have HNN := Lib.hid hnn
                            clear hnn HRR j1 j2 j3 hinv
                            go_wp2
                            go_ret2
                            exact ⟨by rw [HNN.out]; rfl, rfl⟩
                          · obtain ⟨hro, hbits⟩ := final_bits hMo.out.2 j1 j2 (by omega) (by omega) (by omega) (by omega)
                            have hnn := HRR.out.1 hro
                            rw [hbits, if_pos (by omega)] at hnn
                            have HNN := Lib.hid hnn
                            have hee : e = -1074 := by omega
                            subst hee
                            clear hnn HRR j1 j2 j3 hinv hro hbits
                            have b1 : bits .and .u64 m 4503599627370495 = m := by
                              have h := u64_and_nat m.toNat 4503599627370495 (by omega) (by decide)
                              rw [show ((m.toNat : Nat) : Int) = m from by omega] at h
                              refine h.trans ?_
                              rw [show (4503599627370495 : Nat) = 2 ^ 52 - 1 from by decide, Nat.and_two_pow_sub_one_eq_mod]
                              omega
                            go_wp2
                            go_ret2
                            refine ⟨?_, rfl⟩
                            rw [HNN.out]
                            exact ret_ps (by unfold withSign; rw [if_neg (by decide)]; omega)
                      · obtain ⟨j1, j2, j3⟩ := hinv.out
                        by_cases c3 : e < -1074
                        · have hnn := HRR.out.2 (no_room j1 hMo.out.1 j2 j3 (by omega) (by omega))
                          have HNN := Lib.hid hnn
                          clear hnn HRR j1 j2 j3 hinv
                          go_wp2
                          go_ret2
                          exact ⟨by rw [HNN.out]; rfl, rfl⟩
                        · by_cases c4 : 971 < e
                          · have hnn := HRR.out.2 (no_room j1 hMo.out.1 j2 j3 (by omega) (by omega))
                            have HNN := Lib.hid hnn
                            clear hnn HRR j1 j2 j3 hinv
                            go_wp2
                            go_ret2
                            exact ⟨by rw [HNN.out]; rfl, rfl⟩
                          · obtain ⟨hro, hbits⟩ := final_bits hMo.out.2 j1 j2 (by omega) (by omega) (by omega) (by omega)
                            have hnn := HRR.out.1 hro
                            rw [hbits, if_neg (by omega)] at hnn
                            have HNN := Lib.hid hnn
                            clear hnn HRR j1 j2 j3 hinv hro hbits
                            have b1 : bits .and .u64 m 4503599627370495 = m - 4503599627370496 := by
                              have h := u64_and_nat m.toNat 4503599627370495 (by omega) (by decide)
                              rw [show ((m.toNat : Nat) : Int) = m from by omega] at h
                              refine h.trans ?_
                              rw [show (4503599627370495 : Nat) = 2 ^ 52 - 1 from by decide, Nat.and_two_pow_sub_one_eq_mod]
                              omega
                            go_wp2
                            go_ret2
                            refine ⟨?_, rfl⟩
                            rw [HNN.out]
                            exact ret_ps (by unfold withSign; rw [if_neg (by decide)]; omega)
                  ·
                    have hnn := HN.out (bad2 hC H45.out HNE.out (by rw [← H45.out]; exact Or.inr ⟨rfl, hbad⟩) (by decide))
                    have HNN := Lib.hid hnn
                    clear hnn HN HR

                    go_wp2
                    go_ret2
                    exact ⟨by rw [HNN.out]; rfl, rfl⟩
        ·
          have hnn := HN.out (bad1 hC (Or.inr ⟨rfl, hbad⟩) (Or.inl (by decide)))
          have HNN := Lib.hid hnn
          clear hnn HN HR

          go_wp2
          go_ret2
          exact ⟨by rw [HNN.out]; rfl, rfl⟩
      · have hI : ∀ c ∈ s.data.toList.take (p + 1), c ≠ 112 := by
          intro c hc
          rw [List.take_succ_eq_append_getElem (by rw [hsl]; exact hp)] at hc
          rcases List.mem_append.1 hc with h | h
          · exact hinv.out c h
          · simp only [List.mem_singleton] at h
            intro e
            apply hq
            have : s[p] = 112 := by rw [← e, h]; rfl
            rw [this]; rfl
        have HI := Lib.hid hI
        have hbq : ((s[p].toNat : Int) == 112) = false := by rw [beq_eq_false_iff_ne]; omega
        clear hI hinv HN HR
        go_wp2
        go_round
        case rel => exact ⟨p + 1, by go_num, by omega, HI⟩
        case measure => simp [intOf]; omega
    · have hC : Cut1 s.data.toList p := ⟨by omega, hinv.out, Or.inl (by omega)⟩
      clear hinv
      go_wp2_with fail
      refine (number53 (s.extract 0 p) (by rw [ByteArray.size_extract]; omega) _).mono ?_
      rintro e w' ⟨⟨v, rfl, hv⟩, rfl⟩
      rw [ext_take] at hv

      have hnn := HN.out (bad1 hC hv (Or.inr (Or.inr (by omega))))
      have HNN := Lib.hid hnn
      clear hnn HN HR
      rcases hv with ⟨M, rfl, hM1, hM2⟩ | ⟨rfl, hbad⟩
      · by_cases hM0 : M = 0
        · subst hM0
          go_wp2
          go_ret2
          exact ⟨by rw [HNN.out]; rfl, rfl⟩
        · by_cases hMe : M % 2 = 0
          · have hb : ((M : Int) % 2 == 0) = true := by simp; omega
            go_wp2
            go_ret2
            exact ⟨by rw [HNN.out]; rfl, rfl⟩
          · have hb : ((M : Int) % 2 == 0) = false := by simp; omega
            go_wp2
            go_ret2
            exact ⟨by rw [HNN.out]; rfl, rfl⟩
      ·
        go_wp2
        go_ret2
        exact ⟨by rw [HNN.out]; rfl, rfl⟩
end Go.Proofs.YtainigcchlgehaaGreatDoor
namespace Go.Proofs.YtainigcchlgehaaGreatDoor
open Go Go.RowKit
set_option linter.unusedVariables false
set_option maxHeartbeats 4000000 in
theorem rp_minus (s T : ByteArray) (hs : s.size ≤ 50) (hp0 : 0 < s.size) (hT : s.extract 1 s.size = T) (hTs : T.size ≤ 49) (h1 : (s.toList == [110, 97, 110]) = false) (h2 : (T.toList == [105, 110, 102]) = false) (h3 : (T.toList == [48, 112, 48]) = false) (hc : s[0].toNat = 45) (R : Option Nat) (HN : Hid (¬ Good T.data.toList → R = none))
    (HR : Hid (∀ (M : Nat) (x : Int), M % 2 = 1 → M < 9007199254740992 → -2000 ≤ x → x ≤ 2000 → T.data.toList = tailOf M x → (Room M x → R = some (withSign true (Flt.rungOf M (x + 1074).toNat))) ∧ (¬ Room M x → R = none))) (w : World) :
    Calls Tryz.prog 75 #[.string s] w fun e w' => e = .returned (psTuple R) ∧ w = w' := by
  have hf := run_frombits
  go_enter Tryz.func75, Tryz.ntmps75
  go_wp2_with fail
  go_loop [6] (fun t6 => ∃ (p : Nat), t6 = .int .i64 (p : Int) ∧ p ≤ T.size ∧ Hid (∀ c ∈ T.data.toList.take p, c ≠ 112)) (fun t6 => 60 - (intOf t6).toNat)
  case atStart => exact ⟨0, rfl, by omega, Lib.hid (by simp)⟩
  case round =>
    obtain ⟨p, rfl, q1, hinv⟩ := hrel
    have hsl := size_list T
    by_cases hp : p < T.size
    · by_cases hq : T[p].toNat = 112
      · have hC : Cut1 T.data.toList p := ⟨by omega, hinv.out, Or.inr (by rw [get_list _ _ hp, ← UInt8.ofNat_toNat (x := T[p]), hq]; rfl)⟩
        clear hinv
        go_wp2_with fail
        refine (number53 (T.extract 0 p) (by rw [ByteArray.size_extract]; omega) _).mono ?_
        rintro e w' ⟨⟨v, rfl, hv⟩, rfl⟩
        rw [ext_take] at hv

        rcases hv with ⟨M, rfl, hM1, hM2⟩ | ⟨rfl, hbad⟩
        · by_cases hM0 : M = 0
          · subst hM0
            have hnn := HN.out (bad1 hC (Or.inl ⟨0, rfl, hM1, hM2⟩) (Or.inl (by decide)))
            have HNN := Lib.hid hnn
            clear hnn HN HR

            go_wp2
            go_ret2
            exact ⟨by rw [HNN.out]; rfl, rfl⟩
          · by_cases hMe : M % 2 = 0
            · have hb : ((M : Int) % 2 == 0) = true := by simp; omega
              have hnn := HN.out (bad1 hC (Or.inl ⟨M, rfl, hM1, hM2⟩) (Or.inr (Or.inl (by omega))))
              have HNN := Lib.hid hnn
              clear hnn HN HR

              go_wp2
              go_ret2
              exact ⟨by rw [HNN.out]; rfl, rfl⟩
            · have hb : ((M : Int) % 2 == 0) = false := by simp; omega
              by_cases hlen : T.size ≤ p + 1
              · have hnn := HN.out (bad1 hC (Or.inl ⟨M, rfl, hM1, hM2⟩) (Or.inr (Or.inr (by omega))))
                have HNN := Lib.hid hnn
                clear hnn HN HR
                go_wp2
                go_ret2
                exact ⟨by rw [HNN.out]; rfl, rfl⟩
              · have hp1 : p + 1 < T.size := by omega
                obtain ⟨R1, hR1⟩ : ∃ R1, T.extract (p + 1) T.size = R1 := ⟨_, rfl⟩
                have hR1l : R1.data.toList = T.data.toList.drop (p + 1) := by rw [← hR1]; exact ext_drop _ _
                have hR1s : R1.size = T.size - (p + 1) := by rw [← size_list R1, hR1l, List.length_drop, hsl]
                have hdr : T.data.toList.drop (p + 1) = T[p + 1] :: T.data.toList.drop (p + 2) := by
                  rw [List.drop_eq_getElem_cons (by rw [hsl]; exact hp1)]
                  rfl
                by_cases hm : T[p + 1].toNat = 45
                · have h45 : T[p + 1] = 45 := by rw [← UInt8.ofNat_toNat (x := T[p + 1]), hm]; rfl
                  rw [h45] at hdr
                  obtain ⟨R2, hR2⟩ : ∃ R2, R1.extract 1 R1.size = R2 := ⟨_, rfl⟩
                  have hR2l : R2.data.toList = T.data.toList.drop (p + 2) := by rw [← hR2, ext_drop, hR1l, List.drop_drop]
                  have hR2s : R2.size ≤ 50 := by rw [← size_list R2, hR2l, List.length_drop, hsl]; omega
                  rw [hR1s] at hR2
                  have H45 := Lib.hid hdr
                  clear h45 hdr
                  go_wp2_with fail
                  refine (number2000 R2 (by omega) _).mono ?_
                  rintro e w' ⟨⟨v, rfl, hv⟩, rfl⟩
                  rw [hR2l] at hv
                  rcases hv with ⟨j, rfl, hj1, hj2⟩ | ⟨rfl, hbad⟩
                  · by_cases hj0 : j = 0
                    · subst hj0
                      have hnn := HN.out (bad3 hC H45.out (Or.inl ⟨0, rfl, hj1, hj2⟩) (by decide))
                      have HNN := Lib.hid hnn
                      clear hnn HN HR

                      go_wp2
                      go_ret2
                      exact ⟨by rw [HNN.out]; rfl, rfl⟩
                    ·
                      have hbj : ((j : Int) == 0) = false := by rw [beq_eq_false_iff_ne]; omega
                      have hTL := good3 hC (by omega) hM2 H45.out hj2 (by omega)
                      have hR := HR.out M (-(j : Int)) (by omega) (by omega) (by omega) (by omega) hTL
                      have HRR := Lib.hid hR
                      have hMo := Lib.hid (show 0 < M ∧ M % 2 = 1 from ⟨by omega, by omega⟩)
                      clear hR HR HN hTL
                      go_wp2
                      go_loop [7, 10] (fun t7 t10 => ∃ (k : Nat) (m e : Int), t7 = .int .i64 m ∧ t10 = .int .i64 e ∧ 0 < m ∧ m < 9007199254740992 ∧ -2000 ≤ e ∧ e ≤ 2000 ∧ Hid (m.toNat = M * 2 ^ k ∧ e = (-(j : Int)) - k ∧ (k = 0 ∨ -1074 ≤ e))) (fun _ t10 => (intOf t10 + 3000).toNat)
                      case atStart => exact ⟨0, (M : Int), (-(j : Int)), rfl, rfl, by omega, by omega, by omega, by omega, Lib.hid ⟨by simp, by simp, Or.inl rfl⟩⟩
                      case round =>
                        obtain ⟨k, m, e, rfl, rfl, q1, q2, q3, q4, hinv⟩ := hrel
                        clear hM0 hMe hb hM1 hM2
                        by_cases c1 : m < 4503599627370496
                        · by_cases c2 : -1074 < e
                          · obtain ⟨j1, j2, j3⟩ := hinv.out
                            have hI : (m * 2).toNat = M * 2 ^ (k + 1) ∧ e - 1 = (-(j : Int)) - ((k + 1 : Nat) : Int) ∧ (k + 1 = 0 ∨ -1074 ≤ e - 1) := ⟨by rw [Nat.pow_succ, ← Nat.mul_assoc, ← j1]; omega, by omega, by omega⟩
                            have HI := Lib.hid hI
                            clear hI j1 j2 j3 hinv HRR
                            go_wp2
                            go_round
                            case rel => exact ⟨k + 1, m * 2, e - 1, by go_num, by go_num, by omega, by omega, by omega, by omega, HI⟩
                            case measure => simp [intOf]; omega
                          · obtain ⟨j1, j2, j3⟩ := hinv.out
                            by_cases c3 : e < -1074
                            · have hnn := HRR.out.2 (no_room j1 hMo.out.1 j2 j3 (by omega) (by omega))
                              have HNN := Lib.hid hnn
                              clear hnn HRR j1 j2 j3 hinv
                              go_wp2
                              go_ret2
                              exact ⟨by rw [HNN.out]; rfl, rfl⟩
                            · obtain ⟨hro, hbits⟩ := final_bits hMo.out.2 j1 j2 (by omega) (by omega) (by omega) (by omega)
                              have hnn := HRR.out.1 hro
                              rw [hbits, if_pos (by omega)] at hnn
                              have HNN := Lib.hid hnn
                              have hee : e = -1074 := by omega
                              subst hee
                              clear hnn HRR j1 j2 j3 hinv hro hbits
                              have b1 : bits .and .u64 m 4503599627370495 = m := by
                                have h := u64_and_nat m.toNat 4503599627370495 (by omega) (by decide)
                                rw [show ((m.toNat : Nat) : Int) = m from by omega] at h
                                refine h.trans ?_
                                rw [show (4503599627370495 : Nat) = 2 ^ 52 - 1 from by decide, Nat.and_two_pow_sub_one_eq_mod]
                                omega
                              go_wp2
                              go_ret2
                              refine ⟨?_, rfl⟩
                              rw [HNN.out]
                              exact ret_ps (by unfold withSign; rw [if_pos rfl]; omega)
                        · obtain ⟨j1, j2, j3⟩ := hinv.out
                          by_cases c3 : e < -1074
                          · have hnn := HRR.out.2 (no_room j1 hMo.out.1 j2 j3 (by omega) (by omega))
                            have HNN := Lib.hid hnn
                            clear hnn HRR j1 j2 j3 hinv
                            go_wp2
                            go_ret2
                            exact ⟨by rw [HNN.out]; rfl, rfl⟩
                          · by_cases c4 : 971 < e
                            · have hnn := HRR.out.2 (no_room j1 hMo.out.1 j2 j3 (by omega) (by omega))
                              have HNN := Lib.hid hnn
                              clear hnn HRR j1 j2 j3 hinv
                              go_wp2
                              go_ret2
                              exact ⟨by rw [HNN.out]; rfl, rfl⟩
                            · obtain ⟨hro, hbits⟩ := final_bits hMo.out.2 j1 j2 (by omega) (by omega) (by omega) (by omega)
                              have hnn := HRR.out.1 hro
                              rw [hbits, if_neg (by omega)] at hnn
                              have HNN := Lib.hid hnn
                              clear hnn HRR j1 j2 j3 hinv hro hbits
                              have b1 : bits .and .u64 m 4503599627370495 = m - 4503599627370496 := by
                                have h := u64_and_nat m.toNat 4503599627370495 (by omega) (by decide)
                                rw [show ((m.toNat : Nat) : Int) = m from by omega] at h
                                refine h.trans ?_
                                rw [show (4503599627370495 : Nat) = 2 ^ 52 - 1 from by decide, Nat.and_two_pow_sub_one_eq_mod]
                                omega
                              go_wp2
                              go_ret2
                              refine ⟨?_, rfl⟩
                              rw [HNN.out]
                              exact ret_ps (by unfold withSign; rw [if_pos rfl]; omega)
                  ·
                    have hnn := HN.out (bad3 hC H45.out (Or.inr ⟨rfl, hbad⟩) (by decide))
                    have HNN := Lib.hid hnn
                    clear hnn HN HR

                    go_wp2
                    go_ret2
                    exact ⟨by rw [HNN.out]; rfl, rfl⟩
                · have hne : T[p + 1] ≠ 45 := fun h => hm (by rw [h]; rfl)
                  have hbm : ((T[p + 1].toNat : Int) == 45) = false := by rw [beq_eq_false_iff_ne]; omega
                  have H45 := Lib.hid hdr
                  have HNE := Lib.hid hne
                  clear hdr hne
                  go_wp2_with fail
                  refine (number2000 R1 (by omega) _).mono ?_
                  rintro e w' ⟨⟨v, rfl, hv⟩, rfl⟩
                  rw [hR1l] at hv
                  rcases hv with ⟨j, rfl, hj1, hj2⟩ | ⟨rfl, hbad⟩
                  ·
                    have hTL := good2 hC (by omega) hM2 rfl hj2
                    have hR := HR.out M (j : Int) (by omega) (by omega) (by omega) (by omega) hTL
                    have HRR := Lib.hid hR
                    have hMo := Lib.hid (show 0 < M ∧ M % 2 = 1 from ⟨by omega, by omega⟩)
                    clear hR HR HN hTL
                    go_wp2
                    go_loop [7, 10] (fun t7 t10 => ∃ (k : Nat) (m e : Int), t7 = .int .i64 m ∧ t10 = .int .i64 e ∧ 0 < m ∧ m < 9007199254740992 ∧ -2000 ≤ e ∧ e ≤ 2000 ∧ Hid (m.toNat = M * 2 ^ k ∧ e = (j : Int) - k ∧ (k = 0 ∨ -1074 ≤ e))) (fun _ t10 => (intOf t10 + 3000).toNat)
                    case atStart => exact ⟨0, (M : Int), (j : Int), rfl, rfl, by omega, by omega, by omega, by omega, Lib.hid ⟨by simp, by simp, Or.inl rfl⟩⟩
                    case round =>
                      obtain ⟨k, m, e, rfl, rfl, q1, q2, q3, q4, hinv⟩ := hrel
                      clear hM0 hMe hb hM1 hM2
                      by_cases c1 : m < 4503599627370496
                      · by_cases c2 : -1074 < e
                        · obtain ⟨j1, j2, j3⟩ := hinv.out
                          have hI : (m * 2).toNat = M * 2 ^ (k + 1) ∧ e - 1 = (j : Int) - ((k + 1 : Nat) : Int) ∧ (k + 1 = 0 ∨ -1074 ≤ e - 1) := ⟨by rw [Nat.pow_succ, ← Nat.mul_assoc, ← j1]; omega, by omega, by omega⟩
                          have HI := Lib.hid hI
                          clear hI j1 j2 j3 hinv HRR
                          go_wp2
                          go_round
                          case rel => exact ⟨k + 1, m * 2, e - 1, by go_num, by go_num, by omega, by omega, by omega, by omega, HI⟩
                          case measure => simp [intOf]; omega
                        · obtain ⟨j1, j2, j3⟩ := hinv.out
                          by_cases c3 : e < -1074
                          · have hnn := HRR.out.2 (no_room j1 hMo.out.1 j2 j3 (by omega) (by omega))
                            have HNN := Lib.hid hnn
                            clear hnn HRR j1 j2 j3 hinv
                            go_wp2
                            go_ret2
                            exact ⟨by rw [HNN.out]; rfl, rfl⟩
                          · obtain ⟨hro, hbits⟩ := final_bits hMo.out.2 j1 j2 (by omega) (by omega) (by omega) (by omega)
                            have hnn := HRR.out.1 hro
                            rw [hbits, if_pos (by omega)] at hnn
                            have HNN := Lib.hid hnn
                            have hee : e = -1074 := by omega
                            subst hee
                            clear hnn HRR j1 j2 j3 hinv hro hbits
                            have b1 : bits .and .u64 m 4503599627370495 = m := by
                              have h := u64_and_nat m.toNat 4503599627370495 (by omega) (by decide)
                              rw [show ((m.toNat : Nat) : Int) = m from by omega] at h
                              refine h.trans ?_
                              rw [show (4503599627370495 : Nat) = 2 ^ 52 - 1 from by decide, Nat.and_two_pow_sub_one_eq_mod]
                              omega
                            go_wp2
                            go_ret2
                            refine ⟨?_, rfl⟩
                            rw [HNN.out]
                            exact ret_ps (by unfold withSign; rw [if_pos rfl]; omega)
                      · obtain ⟨j1, j2, j3⟩ := hinv.out
                        by_cases c3 : e < -1074
                        · have hnn := HRR.out.2 (no_room j1 hMo.out.1 j2 j3 (by omega) (by omega))
                          have HNN := Lib.hid hnn
                          clear hnn HRR j1 j2 j3 hinv
                          go_wp2
                          go_ret2
                          exact ⟨by rw [HNN.out]; rfl, rfl⟩
                        · by_cases c4 : 971 < e
                          · have hnn := HRR.out.2 (no_room j1 hMo.out.1 j2 j3 (by omega) (by omega))
                            have HNN := Lib.hid hnn
                            clear hnn HRR j1 j2 j3 hinv
                            go_wp2
                            go_ret2
                            exact ⟨by rw [HNN.out]; rfl, rfl⟩
                          · obtain ⟨hro, hbits⟩ := final_bits hMo.out.2 j1 j2 (by omega) (by omega) (by omega) (by omega)
                            have hnn := HRR.out.1 hro
                            rw [hbits, if_neg (by omega)] at hnn
                            have HNN := Lib.hid hnn
                            clear hnn HRR j1 j2 j3 hinv hro hbits
                            have b1 : bits .and .u64 m 4503599627370495 = m - 4503599627370496 := by
                              have h := u64_and_nat m.toNat 4503599627370495 (by omega) (by decide)
                              rw [show ((m.toNat : Nat) : Int) = m from by omega] at h
                              refine h.trans ?_
                              rw [show (4503599627370495 : Nat) = 2 ^ 52 - 1 from by decide, Nat.and_two_pow_sub_one_eq_mod]
                              omega
                            go_wp2
                            go_ret2
                            refine ⟨?_, rfl⟩
                            rw [HNN.out]
                            exact ret_ps (by unfold withSign; rw [if_pos rfl]; omega)
                  ·
                    have hnn := HN.out (bad2 hC H45.out HNE.out (by rw [← H45.out]; exact Or.inr ⟨rfl, hbad⟩) (by decide))
                    have HNN := Lib.hid hnn
                    clear hnn HN HR

                    go_wp2
                    go_ret2
                    exact ⟨by rw [HNN.out]; rfl, rfl⟩
        ·
          have hnn := HN.out (bad1 hC (Or.inr ⟨rfl, hbad⟩) (Or.inl (by decide)))
          have HNN := Lib.hid hnn
          clear hnn HN HR

          go_wp2
          go_ret2
          exact ⟨by rw [HNN.out]; rfl, rfl⟩
      · have hI : ∀ c ∈ T.data.toList.take (p + 1), c ≠ 112 := by
          intro c hc
          rw [List.take_succ_eq_append_getElem (by rw [hsl]; exact hp)] at hc
          rcases List.mem_append.1 hc with h | h
          · exact hinv.out c h
          · simp only [List.mem_singleton] at h
            intro e
            apply hq
            have : T[p] = 112 := by rw [← e, h]; rfl
            rw [this]; rfl
        have HI := Lib.hid hI
        have hbq : ((T[p].toNat : Int) == 112) = false := by rw [beq_eq_false_iff_ne]; omega
        clear hI hinv HN HR
        go_wp2
        go_round
        case rel => exact ⟨p + 1, by go_num, by omega, HI⟩
        case measure => simp [intOf]; omega
    · have hC : Cut1 T.data.toList p := ⟨by omega, hinv.out, Or.inl (by omega)⟩
      clear hinv
      go_wp2_with fail
      refine (number53 (T.extract 0 p) (by rw [ByteArray.size_extract]; omega) _).mono ?_
      rintro e w' ⟨⟨v, rfl, hv⟩, rfl⟩
      rw [ext_take] at hv

      have hnn := HN.out (bad1 hC hv (Or.inr (Or.inr (by omega))))
      have HNN := Lib.hid hnn
      clear hnn HN HR
      rcases hv with ⟨M, rfl, hM1, hM2⟩ | ⟨rfl, hbad⟩
      · by_cases hM0 : M = 0
        · subst hM0
          go_wp2
          go_ret2
          exact ⟨by rw [HNN.out]; rfl, rfl⟩
        · by_cases hMe : M % 2 = 0
          · have hb : ((M : Int) % 2 == 0) = true := by simp; omega
            go_wp2
            go_ret2
            exact ⟨by rw [HNN.out]; rfl, rfl⟩
          · have hb : ((M : Int) % 2 == 0) = false := by simp; omega
            go_wp2
            go_ret2
            exact ⟨by rw [HNN.out]; rfl, rfl⟩
      ·
        go_wp2
        go_ret2
        exact ⟨by rw [HNN.out]; rfl, rfl⟩
end Go.Proofs.YtainigcchlgehaaGreatDoor
namespace Go.Proofs.YtainigcchlgehaaGreatDoor
open Go Go.RowKit
set_option linter.unusedVariables false
theorem rp_nan (s : ByteArray) (h1 : (s.toList == [110, 97, 110]) = true) (w : World) : Calls Tryz.prog 75 #[.string s] w fun e w' => e = .returned (.tuple #[.float .f64 9221120237041090561, .int .i64 0]) ∧ w = w' := by
  have hf := run_frombits
  go_enter Tryz.func75, Tryz.ntmps75
  go_wp2
  go_ret2
  exact ⟨ret_tup2 (val_float (by omega)) rfl, rfl⟩
theorem rp_inf (s : ByteArray) (hs : s.size ≤ 50) (hp0 : 0 < s.size) (h1 : (s.toList == [110, 97, 110]) = false) (h2 : (s.toList == [105, 110, 102]) = true) (h3 : (s.toList == [48, 112, 48]) = false) (hc : ((s[0].toNat : Int) == 45) = false) (w : World) : Calls Tryz.prog 75 #[.string s] w fun e w' => e = .returned (.tuple #[.float .f64 9218868437227405312, .int .i64 0]) ∧ w = w' := by
  have hf := run_frombits
  go_enter Tryz.func75, Tryz.ntmps75
  go_wp2
  go_ret2
  exact ⟨ret_tup2 (val_float (by omega)) rfl, rfl⟩
theorem rp_zero (s : ByteArray) (hs : s.size ≤ 50) (hp0 : 0 < s.size) (h1 : (s.toList == [110, 97, 110]) = false) (h2 : (s.toList == [105, 110, 102]) = false) (h3 : (s.toList == [48, 112, 48]) = true) (hc : ((s[0].toNat : Int) == 45) = false) (w : World) : Calls Tryz.prog 75 #[.string s] w fun e w' => e = .returned (.tuple #[.float .f64 0, .int .i64 0]) ∧ w = w' := by
  have hf := run_frombits
  go_enter Tryz.func75, Tryz.ntmps75
  go_wp2
  go_ret2
  exact ⟨ret_tup2 (val_float (by omega)) rfl, rfl⟩
theorem rp_minf (s T : ByteArray) (hs : s.size ≤ 50) (hp0 : 0 < s.size) (hT : s.extract 1 s.size = T) (hTs : T.size ≤ 49) (h1 : (s.toList == [110, 97, 110]) = false) (h2 : (T.toList == [105, 110, 102]) = true) (h3 : (T.toList == [48, 112, 48]) = false) (hc : s[0].toNat = 45) (w : World) : Calls Tryz.prog 75 #[.string s] w fun e w' => e = .returned (.tuple #[.float .f64 18442240474082181120, .int .i64 0]) ∧ w = w' := by
  have hf := run_frombits
  go_enter Tryz.func75, Tryz.ntmps75
  go_wp2
  go_ret2
  exact ⟨ret_tup2 (val_float (by omega)) rfl, rfl⟩
theorem rp_mzero (s T : ByteArray) (hs : s.size ≤ 50) (hp0 : 0 < s.size) (hT : s.extract 1 s.size = T) (hTs : T.size ≤ 49) (h1 : (s.toList == [110, 97, 110]) = false) (h2 : (T.toList == [105, 110, 102]) = false) (h3 : (T.toList == [48, 112, 48]) = true) (hc : s[0].toNat = 45) (w : World) : Calls Tryz.prog 75 #[.string s] w fun e w' => e = .returned (.tuple #[.float .f64 9223372036854775808, .int .i64 0]) ∧ w = w' := by
  have hf := run_frombits
  go_enter Tryz.func75, Tryz.ntmps75
  go_wp2
  go_ret2
  exact ⟨ret_tup2 (val_float (by omega)) rfl, rfl⟩
theorem rp_empty (w : World) : Calls Tryz.prog 75 #[.string ⟨#[]⟩] w fun e w' => e = .returned (.tuple #[.float .f64 0, .int .i64 2]) ∧ w = w' := by
  have HE := num_empty ⟨#[]⟩ 9007199254740991 (by rw [Lib.toList_data]; rfl)
  go_enter Tryz.func75, Tryz.ntmps75
  go_wp2_with fail
  go_loop [6] (fun t6 => t6 = .int .i64 0) (fun _ => 0)
  case atStart => rfl
  case round =>
    subst hrel
    go_wp2_with fail
    refine (HE _).mono ?_
    rintro e w' ⟨rfl, rfl⟩
    go_wp2
    go_ret2
    exact ⟨rfl, rfl⟩
theorem ps_nan : parseSem [110, 97, 110] = some 9221120237041090561 := by
  have h := parseSem_text (a := 9221120237041090561) (by decide)
  rw [show Flt.text 9221120237041090561 = [110, 97, 110] from by decide, show Flt.canon 9221120237041090561 = 9221120237041090561 from by decide] at h
  exact h
theorem ps_inf : parseSem [105, 110, 102] = some 9218868437227405312 := by
  have h := parseSem_text (a := 9218868437227405312) (by decide)
  rw [show Flt.text 9218868437227405312 = [105, 110, 102] from by decide, show Flt.canon 9218868437227405312 = 9218868437227405312 from by decide] at h
  exact h
theorem ps_minf : parseSem [45, 105, 110, 102] = some 18442240474082181120 := by
  have h := parseSem_text (a := 18442240474082181120) (by decide)
  rw [show Flt.text 18442240474082181120 = [45, 105, 110, 102] from by decide, show Flt.canon 18442240474082181120 = 18442240474082181120 from by decide] at h
  exact h
theorem ps_z (s : Bool) : parseSem ((if s = true then [45] else []) ++ [48, 112, 48]) = some (withSign s 0) := by
  obtain ⟨t1, t2, t3, t4, t5⟩ := text_shape s (r := 0) (by decide)
  have hz : shape s (Flt.oddM 0) (Flt.oddE 0) = (if s = true then [45] else []) ++ [48, 112, 48] := by
    unfold shape
    rw [show Flt.oddM 0 = 0 from rfl, show Flt.oddE 0 = ((0 : Nat) : Int) from rfl, Lib.itoa_nonneg, Lib.decDigits_one (by omega)]
    rfl
  have h := parseSem_text t4
  rw [t1, hz, t3] at h
  exact h
theorem first_shape (s : Bool) (m : Nat) (x : Int) : (shape s m x).head? = some 45 ↔ s = true := by
  obtain ⟨c, r, hcr, hc1, hc2⟩ := digit_first _ (rfl : Lib.decDigits m = _)
  unfold shape
  rw [hcr]
  cases s
  · simp
    intro h
    rw [h] at hc1
    revert hc1
    decide
  · simp
theorem ps_none {l : List UInt8} (h1 : l ≠ [110, 97, 110]) (h2 : l ≠ [105, 110, 102]) (h3 : l ≠ [45, 105, 110, 102]) (h4 : l ≠ [48, 112, 48]) (h5 : l ≠ [45, 48, 112, 48])
    (h6 : ∀ (s : Bool) (m : Nat) (x : Int), m % 2 = 1 → m < 9007199254740992 → Room m x → l ≠ shape s m x) : parseSem l = none := by
  cases h : parseSem l with
  | none => rfl
  | some g =>
    exfalso
    rcases parse_inv h with h | h | h | h | h | ⟨s, m, x, o, hm, hr, h⟩
    · exact h1 h
    · exact h2 h
    · exact h3 h
    · exact h4 h
    · exact h5 h
    · exact h6 s m x o hm hr h
theorem ps_room (s : Bool) {l : List UInt8} {M : Nat} {x : Int} (ho : M % 2 = 1) (hM : M < 9007199254740992) (h1 : -2000 ≤ x) (h2 : x ≤ 2000) (hl : l = shape s M x) :
    (Room M x → parseSem l = some (withSign s (Flt.rungOf M (x + 1074).toNat))) ∧ (¬ Room M x → parseSem l = none) := by
  rw [hl]
  exact ⟨fun hr => (room_some s ho hM hr).2, fun hr => room_none s ho hM (by omega) (by omega) hr⟩
theorem rparse_any (s : ByteArray) (hs : s.size ≤ 50) (w : World) :
    Calls Tryz.prog 75 #[.string s] w fun e w' => e = .returned (psTuple (parseSem s.data.toList)) ∧ w = w' := by
  have hz := size_list s
  have beqT : ∀ (S : ByteArray) (l : List UInt8), S.data.toList = l → (S.toList == l) = true := fun S l h => by rw [Lib.toList_data, h]; simp
  have beqF : ∀ (S : ByteArray) (l : List UInt8), S.data.toList ≠ l → (S.toList == l) = false := fun S l h => by rw [Lib.toList_data]; simpa using h
  by_cases h1 : s.data.toList = [110, 97, 110]
  · rw [h1, ps_nan]
    exact rp_nan s (beqT s _ h1) w
  by_cases h0 : s.data.toList = []
  · have he : s = ⟨#[]⟩ := by
      apply ByteArray.ext
      apply Array.toList_inj.1
      exact h0
    have hn : parseSem [] = none := ps_none (by decide) (by decide) (by decide) (by decide) (by decide) (fun s m x _ _ _ h => by
      have := congrArg List.length h
      unfold shape at this
      simp at this)
    rw [h0, hn, he]
    exact rp_empty w
  have hp : 0 < s.size := by rw [← hz]; exact List.length_pos_iff.2 h0
  have hhd : s.data.toList.head? = some s[0] := by
    rw [List.head?_eq_getElem?, List.getElem?_eq_getElem (by rw [hz]; exact hp)]
    rfl
  by_cases hc : s[0].toNat = 45
  · have h45 : s[0] = 45 := by rw [← UInt8.ofNat_toNat (x := s[0]), hc]; rfl
    rw [h45] at hhd
    obtain ⟨T, hT⟩ : ∃ T, s.extract 1 s.size = T := ⟨_, rfl⟩
    have hTl : T.data.toList = s.data.toList.drop 1 := by rw [← hT]; exact ext_drop _ _
    have hTs : T.size ≤ 49 := by rw [← size_list T, hTl, List.length_drop, hz]; omega
    have hL : s.data.toList = 45 :: T.data.toList := by
      rw [hTl]
      cases hl : s.data.toList with
      | nil => exact absurd hl h0
      | cons a t => rw [hl] at hhd; simp at hhd; subst hhd; rfl
    by_cases h2 : T.data.toList = [105, 110, 102]
    · rw [hL, h2, ps_minf]
      exact rp_minf s T hs hp hT hTs (beqF s _ h1) (beqT T _ h2) (beqF T _ (by rw [h2]; decide)) hc w
    by_cases h3 : T.data.toList = [48, 112, 48]
    · have hzz := ps_z true
      rw [hL, h3, show (45 : UInt8) :: [48, 112, 48] = (if true = true then [45] else []) ++ [48, 112, 48] from rfl, hzz]
      exact rp_mzero s T hs hp hT hTs (beqF s _ h1) (beqF T _ h2) (beqT T _ h3) hc w
    refine rp_minus s T hs hp hT hTs (beqF s _ h1) (beqF T _ h2) (beqF T _ h3) hc _ (Lib.hid ?_) (Lib.hid ?_) w
    · intro hg
      rw [hL]
      refine ps_none (by intro h; injection h with h _; revert h; decide) (by intro h; injection h with h _; revert h; decide) (by intro h; injection h with _ h; exact h2 h) (by intro h; injection h with h _; revert h; decide) (by intro h; injection h with _ h; exact h3 h) ?_
      intro sg m x ho hm hr h
      have hsg := (first_shape sg m x).1 (by rw [← h]; rfl)
      subst hsg
      rw [shape_tail] at h
      injection h with _ h
      exact hg ⟨m, x, ho, hm, hr, h⟩
    · intro M x ho hM x1 x2 ht
      refine ps_room true ho hM x1 x2 ?_
      rw [hL, ht, shape_tail]
      rfl
  · have hne : s.data.toList.head? ≠ some 45 := by
      rw [hhd]
      intro h
      injection h with h
      exact hc (by rw [h]; rfl)
    have hb : ((s[0].toNat : Int) == 45) = false := by rw [beq_eq_false_iff_ne]; omega
    by_cases h2 : s.data.toList = [105, 110, 102]
    · rw [h2, ps_inf]
      exact rp_inf s hs hp (beqF s _ h1) (beqT s _ h2) (beqF s _ (by rw [h2]; decide)) hb w
    by_cases h3 : s.data.toList = [48, 112, 48]
    · have hzz := ps_z false
      rw [h3, show ([48, 112, 48] : List UInt8) = (if false = true then [45] else []) ++ [48, 112, 48] from rfl, hzz]
      exact rp_zero s hs hp (beqF s _ h1) (beqF s _ h2) (beqT s _ h3) hb w
    refine rp_plus s hs hp (beqF s _ h1) (beqF s _ h2) (beqF s _ h3) hb _ (Lib.hid ?_) (Lib.hid ?_) w
    · intro hg
      refine ps_none h1 h2 (by intro h; rw [h] at hne; exact hne rfl) h3 (by intro h; rw [h] at hne; exact hne rfl) ?_
      intro sg m x ho hm hr h
      cases sg
      · exact hg ⟨m, x, ho, hm, hr, h⟩
      · rw [h] at hne
        exact hne ((first_shape true m x).2 rfl)
    · intro M x ho hM x1 x2 ht
      exact ps_room false ho hM x1 x2 ht
end Go.Proofs.YtainigcchlgehaaGreatDoor


