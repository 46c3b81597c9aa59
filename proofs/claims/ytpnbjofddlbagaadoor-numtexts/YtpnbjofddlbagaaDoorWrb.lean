import Derived.Test.YtpnbjofddlbagaaDoorWra
namespace Go.Proofs.YtpnbjofddlbagaaDoor
open Go Go.RowKit
set_option maxHeartbeats 1000000
theorem rtext_nan (a : Nat) (s : Bool) (f : Int) (f1 : 0 < f) (f2 : f < 4503599627370496)
    (PT : ∀ w, Calls Tryd.prog 46 #[.float .f64 a] w fun e w' => e = .returned (.tuple #[.bool s, .int .i64 2047, .int .i64 f]) ∧ w = w') (w : World) :
    Calls Tryd.prog 26 #[.float .f64 a] w fun e w' => e = .returned (.string ⟨#[110, 97, 110]⟩) ∧ Below w.heap.size w w' := by
  have g3 : (f == 0) = false := by rw [beq_eq_false_iff_ne]; omega
  go_enter Tryd.func26, Tryd.ntmps26
  go_wp2_with (go_at_call 46; refine (PT _).mono ?_; rintro e w' ⟨rfl, rfl⟩)
  go_ret
  exact ⟨ret_str rfl, Below.refl _ _⟩
theorem rtext_inf (a : Nat) (s : Bool)
    (PT : ∀ w, Calls Tryd.prog 46 #[.float .f64 a] w fun e w' => e = .returned (.tuple #[.bool s, .int .i64 2047, .int .i64 0]) ∧ w = w') (w : World) :
    Calls Tryd.prog 26 #[.float .f64 a] w fun e w' => e = .returned (.string ⟨((if s = true then [45] else []) ++ ([105, 110, 102] : List UInt8)).toArray⟩) ∧ Below w.heap.size w w' := by
  cases s
  all_goals
    go_enter Tryd.func26, Tryd.ntmps26
    go_wp2_with (go_at_call 46; refine (PT _).mono ?_; rintro e w' ⟨rfl, rfl⟩)
    go_ret
    exact ⟨ret_str rfl, Below.refl _ _⟩
theorem rtext_zero (a : Nat) (s : Bool)
    (PT : ∀ w, Calls Tryd.prog 46 #[.float .f64 a] w fun e w' => e = .returned (.tuple #[.bool s, .int .i64 0, .int .i64 0]) ∧ w = w') (w : World) :
    Calls Tryd.prog 26 #[.float .f64 a] w fun e w' => e = .returned (.string ⟨((if s = true then [45] else []) ++ ([48, 112, 48] : List UInt8)).toArray⟩) ∧ Below w.heap.size w w' := by
  cases s
  all_goals
    go_enter Tryd.func26, Tryd.ntmps26
    go_wp2_with (go_at_call 46; refine (PT _).mono ?_; rintro e w' ⟨rfl, rfl⟩)
    go_ret
    exact ⟨ret_str rfl, Below.refl _ _⟩
theorem rtext_norm (a : Nat) (s : Bool) (F f : Int) (m0 : Nat) (e0 : Int) (F1 : 1 ≤ F) (F2 : F ≤ 2046)
    (f1 : 0 ≤ f) (f2 : f < 4503599627370496) (hm1 : 0 < m0) (hm2 : m0 < 9007199254740992) (he1 : -1074 ≤ e0) (he2 : e0 ≤ 971) (hm0 : f + 4503599627370496 = (m0 : Int)) (he0 : F - 1075 = e0) (M : Nat) (E : Int) (D I : List UInt8) (hD : D.length ≤ 20) (hI : I.length ≤ 21)
    (hodd : ∀ (m : Nat) (e : Int), e0 ≤ e → m % 2 = 1 → m * 2 ^ (e - e0).toNat = m0 → m = M ∧ e = E)
    (HDg : ∀ w, Calls Tryd.prog 32 #[.int .i64 (M : Int)] w fun e w' => e = .returned (.string ⟨D.toArray⟩) ∧ Below w.heap.size w w')
    (HIt : ∀ w, Calls Tryd.prog 33 #[.int .i64 E] w fun e w' => e = .returned (.string ⟨I.toArray⟩) ∧ Below w.heap.size w w')
    (PT : ∀ w, Calls Tryd.prog 46 #[.float .f64 a] w fun e w' => e = .returned (.tuple #[.bool s, .int .i64 F, .int .i64 f]) ∧ w = w') (w : World) :
    Calls Tryd.prog 26 #[.float .f64 a] w fun e w' => e = .returned (.string ⟨((if s = true then [45] else []) ++ (D ++ (112 :: I))).toArray⟩) ∧ Below w.heap.size w w' := by
  have hsum : ∀ A B C E : List UInt8, (ByteArray.mk A.toArray ++ ByteArray.mk B.toArray ++ ByteArray.mk C.toArray ++ ByteArray.mk E.toArray) = ByteArray.mk (A ++ (B ++ (C ++ E))).toArray := by
    intro A B C E
    rw [ByteArray.mk_append_mk, ByteArray.mk_append_mk, ByteArray.mk_append_mk]; simp
  have hsum0 := hsum [] D [112] I
  have hsum1 := hsum [45] D [112] I
  have H0 := Lib.hid hsum0
  have H1 := Lib.hid hsum1
  clear hsum hsum0 hsum1
  have HO := Lib.hid hodd
  clear hodd
  have g1 : (F == 2047) = false := by rw [beq_eq_false_iff_ne]; omega
  have g3 : (F == 0) = false := by rw [beq_eq_false_iff_ne]; omega
  have HM := Lib.hid hm0
  have HF := Lib.hid he0
  clear hm0 he0
  cases s
  all_goals
    go_enter Tryd.func26, Tryd.ntmps26
    go_wp2_with (go_at_call 46; refine (PT _).mono ?_; rintro e w' ⟨rfl, rfl⟩)
    rw [HM.out, HF.out]
    go_loop [4, 5] (fun t7 t8 => ∃ (e : Int) (m : Nat), t7 = .int .i64 e ∧ t8 = .int .i64 (m : Int) ∧ e0 ≤ e ∧ 0 < m ∧ m < 9007199254740992 ∧ e + m ≤ 9007199254743000 ∧ Hid (m * 2 ^ (e - e0).toNat = m0)) (fun _ t8 => (intOf t8).toNat)
    case atStart => exact ⟨e0, m0, rfl, rfl, by omega, hm1, hm2, by omega, Lib.hid (by simp)⟩
    case round =>
      obtain ⟨e, m, rfl, rfl, q1, q2, q3, q4, hinv⟩ := hrel
      by_cases hodd : m % 2 = 1
      · obtain ⟨rfl, rfl⟩ := HO.out m e q1 hodd hinv.out
        have hb : ((m : Int) % 2 == 0) = false := by simp; omega
        clear HO hinv hodd
        go_wp2_with fail
        refine (HDg _).mono ?_
        rintro e w1 ⟨rfl, hb1⟩
        go_wp2_with fail
        refine (HIt _).mono ?_
        rintro e w2 ⟨rfl, hb2⟩
        go_wp2_with fail
        go_ret
        first
          | exact ⟨ret_str H0.out, Below.chain hb1 hb2⟩
          | exact ⟨ret_str H1.out, Below.chain hb1 hb2⟩
      · have hb : ((m : Int) % 2 == 0) = true := by simp; omega
        have hq : m = 2 * (m / 2) := by omega
        have hi : (m / 2) * 2 ^ (e + 1 - e0).toNat = m0 := by
          rw [show (e + 1 - e0).toNat = (e - e0).toNat + 1 from by omega, Nat.pow_succ, Nat.mul_comm (2 ^ _) 2, ← Nat.mul_assoc, Nat.mul_comm (m / 2) 2, ← hq]
          exact hinv.out
        have HI := Lib.hid hi
        have hp : 0 < m / 2 := by omega
        have HP := Lib.hid hp
        clear hp
        clear hi hq hodd HO
        go_wp2
        go_round
        case rel => exact ⟨e + 1, m / 2, rfl, by go_num, by omega, HP.out, by omega, by have := HP.out; omega, HI⟩
        case measure => have := HP.out; simp [intOf]; omega
theorem rtext_sub (a : Nat) (s : Bool) (f : Int) (m0 : Nat) (e0 : Int) 
    (f1 : 0 ≤ f) (f2 : f < 4503599627370496) (hm1 : 0 < m0) (hm2 : m0 < 9007199254740992) (he1 : -1074 ≤ e0) (he2 : e0 ≤ 971) (hm0 : f = (m0 : Int)) (he0 : (-1074 : Int) = e0) (M : Nat) (E : Int) (D I : List UInt8) (hD : D.length ≤ 20) (hI : I.length ≤ 21)
    (hodd : ∀ (m : Nat) (e : Int), e0 ≤ e → m % 2 = 1 → m * 2 ^ (e - e0).toNat = m0 → m = M ∧ e = E)
    (HDg : ∀ w, Calls Tryd.prog 32 #[.int .i64 (M : Int)] w fun e w' => e = .returned (.string ⟨D.toArray⟩) ∧ Below w.heap.size w w')
    (HIt : ∀ w, Calls Tryd.prog 33 #[.int .i64 E] w fun e w' => e = .returned (.string ⟨I.toArray⟩) ∧ Below w.heap.size w w')
    (PT : ∀ w, Calls Tryd.prog 46 #[.float .f64 a] w fun e w' => e = .returned (.tuple #[.bool s, .int .i64 0, .int .i64 f]) ∧ w = w') (w : World) :
    Calls Tryd.prog 26 #[.float .f64 a] w fun e w' => e = .returned (.string ⟨((if s = true then [45] else []) ++ (D ++ (112 :: I))).toArray⟩) ∧ Below w.heap.size w w' := by
  have hsum : ∀ A B C E : List UInt8, (ByteArray.mk A.toArray ++ ByteArray.mk B.toArray ++ ByteArray.mk C.toArray ++ ByteArray.mk E.toArray) = ByteArray.mk (A ++ (B ++ (C ++ E))).toArray := by
    intro A B C E
    rw [ByteArray.mk_append_mk, ByteArray.mk_append_mk, ByteArray.mk_append_mk]; simp
  have hsum0 := hsum [] D [112] I
  have hsum1 := hsum [45] D [112] I
  have H0 := Lib.hid hsum0
  have H1 := Lib.hid hsum1
  clear hsum hsum0 hsum1
  have HO := Lib.hid hodd
  clear hodd
  have g3 : (f == 0) = false := by rw [beq_eq_false_iff_ne]; omega
  have HM := Lib.hid hm0
  have HF := Lib.hid he0
  clear hm0 he0
  cases s
  all_goals
    go_enter Tryd.func26, Tryd.ntmps26
    go_wp2_with (go_at_call 46; refine (PT _).mono ?_; rintro e w' ⟨rfl, rfl⟩)
    rw [HM.out, HF.out]
    go_loop [4, 5] (fun t7 t8 => ∃ (e : Int) (m : Nat), t7 = .int .i64 e ∧ t8 = .int .i64 (m : Int) ∧ e0 ≤ e ∧ 0 < m ∧ m < 9007199254740992 ∧ e + m ≤ 9007199254743000 ∧ Hid (m * 2 ^ (e - e0).toNat = m0)) (fun _ t8 => (intOf t8).toNat)
    case atStart => exact ⟨e0, m0, rfl, rfl, by omega, hm1, hm2, by omega, Lib.hid (by simp)⟩
    case round =>
      obtain ⟨e, m, rfl, rfl, q1, q2, q3, q4, hinv⟩ := hrel
      by_cases hodd : m % 2 = 1
      · obtain ⟨rfl, rfl⟩ := HO.out m e q1 hodd hinv.out
        have hb : ((m : Int) % 2 == 0) = false := by simp; omega
        clear HO hinv hodd
        go_wp2_with fail
        refine (HDg _).mono ?_
        rintro e w1 ⟨rfl, hb1⟩
        go_wp2_with fail
        refine (HIt _).mono ?_
        rintro e w2 ⟨rfl, hb2⟩
        go_wp2_with fail
        go_ret
        first
          | exact ⟨ret_str H0.out, Below.chain hb1 hb2⟩
          | exact ⟨ret_str H1.out, Below.chain hb1 hb2⟩
      · have hb : ((m : Int) % 2 == 0) = true := by simp; omega
        have hq : m = 2 * (m / 2) := by omega
        have hi : (m / 2) * 2 ^ (e + 1 - e0).toNat = m0 := by
          rw [show (e + 1 - e0).toNat = (e - e0).toNat + 1 from by omega, Nat.pow_succ, Nat.mul_comm (2 ^ _) 2, ← Nat.mul_assoc, Nat.mul_comm (m / 2) 2, ← hq]
          exact hinv.out
        have HI := Lib.hid hi
        have hp : 0 < m / 2 := by omega
        have HP := Lib.hid hp
        clear hp
        clear hi hq hodd HO
        go_wp2
        go_round
        case rel => exact ⟨e + 1, m / 2, rfl, by go_num, by omega, HP.out, by omega, by have := HP.out; omega, HI⟩
        case measure => have := HP.out; simp [intOf]; omega
namespace Flt
theorem pow_uniq {a b i j : Nat} (ha : a % 2 = 1) (hb : b % 2 = 1) (h : a * 2 ^ i = b * 2 ^ j) : a = b ∧ i = j := by
  have key : ∀ {a b i j : Nat}, a % 2 = 1 → b % 2 = 1 → a * 2 ^ i = b * 2 ^ j → i ≤ j → a = b ∧ i = j := by
    intro a b i j ha hb h hij
    obtain ⟨k, rfl⟩ : ∃ k, j = i + k := ⟨j - i, by omega⟩
    rw [Nat.pow_add, Nat.mul_comm (2 ^ i), ← Nat.mul_assoc] at h
    have h' := Nat.eq_of_mul_eq_mul_right (Nat.pow_pos (by omega)) h
    cases k with
    | zero => simp at h'; exact ⟨h', by omega⟩
    | succ k => rw [Nat.pow_succ, ← Nat.mul_assoc] at h'; omega
  rcases Nat.le_total i j with hij | hij
  · exact key ha hb h hij
  · have := key hb ha h.symm hij
    exact ⟨this.1.symm, this.2.symm⟩
theorem odd_uniq {r : Nat} (h0 : 0 < r) (hr : r < 9218868437227405312) (m : Nat) (e : Int) (he : (xp r : Int) - 1074 ≤ e) (hm : m % 2 = 1) (h : m * 2 ^ (e - ((xp r : Int) - 1074)).toNat = mant r) : m = oddM r ∧ e = oddE r := by
  obtain ⟨E, hE, hV, ho, _⟩ := odd_facts h0 hr
  unfold V at hV
  rw [← h, Nat.mul_assoc, ← Nat.pow_add] at hV
  obtain ⟨h1, h2⟩ := pow_uniq ho hm hV
  refine ⟨h1.symm, ?_⟩
  rw [hE, h2]
  omega
end Flt
theorem rtext_any (a : Nat) (ha : a < 18446744073709551616) (w : World) :
    Calls Tryd.prog 26 #[.float .f64 a] w fun e w' => e = .returned (.string ⟨(Flt.text a).toArray⟩) ∧ Below w.heap.size w w' := by
  have PT := parts_any a ha
  have hfr : Flt.frac a < 4503599627370496 := by unfold Flt.frac; omega
  have hrf : Flt.rung a = Flt.field a * 4503599627370496 + Flt.frac a := by unfold Flt.rung Flt.field Flt.frac; omega
  have hfl : Flt.field a < 2048 := by unfold Flt.field; omega
  cases hn : Flt.isNan a
  · have hnn : ¬ (Flt.field a = 2047 ∧ Flt.frac a ≠ 0) := fun h => by rw [(Flt.isNan_iff a).2 h] at hn; cases hn
    by_cases hi : Flt.field a = 2047
    · have hf0 : Flt.frac a = 0 := by omega
      rw [hi, hf0] at PT
      have h := rtext_inf a (Flt.neg a) PT w
      refine h.mono ?_
      rintro e w' ⟨he, hb⟩
      refine ⟨he.trans (ret_str ?_), hb⟩
      have hr : Flt.rung a = 9218868437227405312 := by rw [hrf, hi, hf0]
      by_cases hs : 9223372036854775808 ≤ a
      · have h2 : a = 18442240474082181120 := by unfold Flt.rung at hr; omega
        subst h2
        exact congrArg (fun l : List UInt8 => ByteArray.mk l.toArray) (by decide)
      · have h2 : a = 9218868437227405312 := by unfold Flt.rung at hr; omega
        subst h2
        exact congrArg (fun l : List UInt8 => ByteArray.mk l.toArray) (by decide)
    · have hrl : Flt.rung a < 9218868437227405312 := by omega
      have h1 : a ≠ 9218868437227405312 := fun h => by rw [h] at hrl; revert hrl; decide
      have h2 : a ≠ 18442240474082181120 := fun h => by rw [h] at hrl; revert hrl; decide
      have et : Flt.text a = (if Flt.neg a = true then [45] else []) ++ (Lib.decDigits (Flt.oddM (Flt.rung a)) ++ (112 :: Lib.itoa (Flt.oddE (Flt.rung a)))) := by
        unfold Flt.text
        rw [hn, if_neg (by decide), if_neg h1, if_neg h2]
      by_cases h0 : Flt.rung a = 0
      · have hf0 : Flt.frac a = 0 := by omega
        have hF0 : Flt.field a = 0 := by omega
        rw [hF0, hf0] at PT
        have hz : Lib.decDigits (Flt.oddM 0) ++ 112 :: Lib.itoa (Flt.oddE 0) = [48, 112, 48] := by
          rw [show Flt.oddM 0 = 0 from rfl, show Flt.oddE 0 = ((0 : Nat) : Int) from rfl, Lib.itoa_nonneg, Lib.decDigits_one (by omega)]
          rfl
        rw [et, h0]
        exact (rtext_zero a (Flt.neg a) PT w).mono fun e w' ⟨he, hb⟩ => ⟨he.trans (ret_str (by rw [hz])), hb⟩
      · have hx := Flt.oddE_bounds hrl
        have hm := Flt.oddM_lt (Flt.rung a)
        have hmp := Flt.mant_pos (show 0 < Flt.rung a by omega)
        have hml := Flt.mant_lt (Flt.rung a)
        rw [et]
        by_cases hF : Flt.field a = 0
        · have e1 : Flt.xp (Flt.rung a) = 0 := by unfold Flt.xp; omega
          have e2 : Flt.mant (Flt.rung a) = Flt.frac a := by unfold Flt.mant; rw [if_pos (by omega)]; omega
          rw [hF] at PT
          refine rtext_sub a (Flt.neg a) (Flt.frac a) (Flt.frac a) (-1074) (by omega) (by omega) (by omega) (by omega) (by omega) (by omega) rfl rfl (Flt.oddM (Flt.rung a)) (Flt.oddE (Flt.rung a)) _ _ (Flt.dec_len (by omega)) (Flt.itoa_len (by omega) (by omega)) ?_ (fun w => digits_any _ (by omega) w) (fun w => signed_any _ (by omega) (by omega) w) PT w
          intro m e q1 q2 q3
          exact Flt.odd_uniq (by omega) hrl m e (by rw [e1]; omega) q2 (by rw [e1, e2]; simpa using q3)
        · have e1 : (Flt.xp (Flt.rung a) : Int) - 1074 = Flt.field a - 1075 := by unfold Flt.xp; omega
          have e2 : Flt.mant (Flt.rung a) = Flt.frac a + 4503599627370496 := by rw [Flt.mant_norm (by omega)]; omega
          refine rtext_norm a (Flt.neg a) (Flt.field a) (Flt.frac a) (Flt.frac a + 4503599627370496) ((Flt.field a : Int) - 1075) (by omega) (by omega) (by omega) (by omega) (by omega) (by omega) (by omega) (by omega) (by omega) rfl (Flt.oddM (Flt.rung a)) (Flt.oddE (Flt.rung a)) _ _ (Flt.dec_len (by omega)) (Flt.itoa_len (by omega) (by omega)) ?_ (fun w => digits_any _ (by omega) w) (fun w => signed_any _ (by omega) (by omega) w) PT w
          intro m e q1 q2 q3
          exact Flt.odd_uniq (by omega) hrl m e (by rw [e1]; omega) q2 (by rw [e1, e2]; exact q3)
  · obtain ⟨h1, h2⟩ := (Flt.isNan_iff a).1 hn
    rw [h1] at PT
    have e : Flt.text a = [110, 97, 110] := by unfold Flt.text; rw [if_pos hn]
    rw [e]
    exact (rtext_nan a (Flt.neg a) (Flt.frac a) (by omega) (by omega) PT w).mono fun e w' ⟨he, hb⟩ => ⟨he, hb⟩
end Go.Proofs.YtpnbjofddlbagaaDoor
