import Derived.Test.YtnjlcdemfdokoaaGreatDoorB7
import Derived.Test.YtnjlcdemfdokoaaGreatDoorB5
namespace Go.Proofs.YtnjlcdemfdokoaaGreatDoor
open Go Go.RowKit
set_option linter.unusedVariables false
/-- the reference's Against of a float that is no nan -/
theorem rag_all (n : Int) (a : Nat) (n1 : -9223372036854775808 ≤ n) (n2 : n ≤ 9223372036854775807) (ha : a < 18446744073709551616) (hn : Flt.isNan a = false) (w : World) :
    Calls Tryz.prog 88 #[.int .i64 n, .float .f64 a] w fun e w' => e = .returned (.tuple #[.int .i64 (Flt.cmp3 (n * ((2 ^ Flt.K : Nat) : Int)) (Flt.sv a)), .bool true]) ∧ w = w' := by
  have PT := parts_any a ha
  have hF : Flt.field a = Flt.rung a / 4503599627370496 := by unfold Flt.field Flt.rung; omega
  have hf : Flt.frac a = Flt.rung a % 4503599627370496 := by unfold Flt.frac Flt.rung; omega
  have hrl : Flt.rung a < 9223372036854775808 := Nat.mod_lt _ (by decide)
  have hni : Flt.rung a ≤ 9218868437227405312 := by unfold Flt.isNan at hn; simpa using hn
  have hkey := Flt.key_eq a
  by_cases hr : Flt.rung a < 4890909195324358656
  · rw [← agn_sv n ha (by omega)]
    exact ragainst_mid n a n1 n2 ha hr w
  · have hFb : 1086 ≤ ((Flt.field a : Nat) : Int) := by omega
    have hnn : ((((Flt.field a : Nat) : Int) == 2047) && (((Flt.frac a : Nat) : Int) != 0)) = false := by
      rw [Bool.and_eq_false_iff, beq_eq_false_iff_ne, bne_eq_false_iff_eq]
      omega
    cases hs : Flt.neg a
    · rw [hs, if_neg (by decide)] at hkey
      rw [hs] at PT
      have hV : Flt.V 4890909195324358656 ≤ Flt.V (Flt.rung a) := by
        rcases Nat.lt_or_eq_of_le (show 4890909195324358656 ≤ Flt.rung a by omega) with h | h
        · exact Nat.le_of_lt (Flt.V_lt h)
        · rw [← h]; exact Nat.le_refl _
      rw [Flt.V_63] at hV
      have hp : 0 < 2 ^ Flt.K := Nat.pow_pos (by decide)
      have e : Flt.cmp3 (n * ((2 ^ Flt.K : Nat) : Int)) (Flt.sv a) = -1 := by
        apply Flt.cmp3_lt
        unfold Flt.sv
        rw [hs, if_neg (by decide)]
        generalize Flt.V (Flt.rung a) = v at *
        generalize 2 ^ Flt.K = c at *
        have h3 := Flt.le_scale c (show n ≤ 9223372036854775807 from n2)
        omega
      rw [e]
      exact rag_bigP n a _ _ _ _ rfl rfl hnn hFb PT w
    · rw [hs, if_pos rfl] at hkey
      rw [hs] at PT
      by_cases he : Flt.rung a = 4890909195324358656
      · have e1 : Flt.field a = 1086 := by omega
        have e2 : Flt.frac a = 0 := by omega
        rw [e1, e2] at PT
        have hv : Flt.V (Flt.rung a) = Flt.whole (Flt.rung a) * 2 ^ Flt.K := by
          rw [he, Flt.whole_63]
          have e1 : Flt.mant 4890909195324358656 = 4503599627370496 := by decide
          have e2 : Flt.xp 4890909195324358656 = 1085 := by decide
          unfold Flt.V
          rw [e1, e2, show (1085 : Nat) = 11 + Flt.K from by rw [Flt.K_eq], Nat.pow_add, ← Nat.mul_assoc]
        have hg : agn n a = Flt.cmp3 n (-9223372036854775808) := by
          rw [agn_whole n ha hv]
          congr 1
          unfold Flt.wholeInt
          rw [hs, if_pos rfl, he, Flt.whole_63]
          rfl
        rw [← agn_sv n ha (by omega), hg]
        exact rag_m63 n a PT w
      · have hV : Flt.V 4890909195324358656 < Flt.V (Flt.rung a) := Flt.V_lt (by omega)
        rw [Flt.V_63] at hV
        have hp : 0 < 2 ^ Flt.K := Nat.pow_pos (by decide)
        have e : Flt.cmp3 (n * ((2 ^ Flt.K : Nat) : Int)) (Flt.sv a) = 1 := by
          apply Flt.cmp3_gt
          unfold Flt.sv
          rw [hs, if_pos rfl]
          generalize Flt.V (Flt.rung a) = v at *
          generalize 2 ^ Flt.K = c at *
          have h3 := Flt.le_scale c (show -9223372036854775808 ≤ n from n1)
          omega
        rw [e]
        refine rag_bigM n a _ _ _ _ _ _ rfl rfl hnn hFb rfl rfl ?_ PT w
        rw [Bool.and_eq_false_iff, beq_eq_false_iff_ne, beq_eq_false_iff_ne]
        omega
theorem rag_nans (n : Int) (a : Nat) (ha : a < 18446744073709551616) (hn : Flt.isNan a = true) (w : World) :
    Calls Tryz.prog 88 #[.int .i64 n, .float .f64 a] w fun e w' => e = .returned (.tuple #[.int .i64 0, .bool false]) ∧ w = w' := by
  have PT := parts_any a ha
  have hni := (Flt.isNan_iff a).1 hn
  exact rag_nan n a _ _ _ (by rw [beq_iff_eq]; omega) (by rw [bne_iff_ne]; omega) PT w
/-- what less tells of an order -/
def LessT (o : Int) (a b ok : Bool) : Prop := (ok = false ∧ (o = 2 ∨ o = -2)) ∨ (ok = true ∧ a = (o == -1) ∧ b = (o == 0) ∧ (o = -1 ∨ o = 0 ∨ o = 1))
theorem cmp3_three (x y : Int) : Flt.cmp3 x y = -1 ∨ Flt.cmp3 x y = 0 ∨ Flt.cmp3 x y = 1 := by
  have := cmp3_bd x y; omega
theorem lessT_c (c : Int) (h : c = -1 ∨ c = 0 ∨ c = 1) : LessT c (decide (c < 0)) (c == 0) true := by
  rcases h with rfl | rfl | rfl <;> exact .inr ⟨rfl, by decide, by decide, by decide⟩
theorem lessT_n (c : Int) (h : c = -1 ∨ c = 0 ∨ c = 1) : LessT (-c) (decide (0 < c)) (c == 0) true := by
  rcases h with rfl | rfl | rfl <;> exact .inr ⟨rfl, by decide, by decide, by decide⟩
theorem lessT_s (s s' : ByteArray) : LessT (cmpS s s') (Op.bytesLess s.toList s'.toList) (s.toList == s'.toList) true := by
  refine .inr ⟨rfl, ?_⟩
  unfold cmpS
  rcases bl_tri s.toList s'.toList with ⟨h1, h2, h3⟩ | ⟨h1, h2, h3⟩ | ⟨h1, h2, h3⟩
  · simp [h1, h3]
  · simp [h1, h3]
  · simp [h3, bl_irr]
theorem shl1 (x : Nat) (hx : x < 18446744073709551616) : (IntKind.u64.wrap ((x : Int) * 2) == 0) = decide (x = 0 ∨ x = 9223372036854775808) := by
  rw [IntKind.wrap_u64, Bool.eq_iff_iff]
  simp only [beq_iff_eq, decide_eq_true_eq]
  omega
theorem cmp3_lt0 (x y : Int) : decide (Flt.cmp3 x y < 0) = decide (x < y) := by
  unfold Flt.cmp3; rw [decide_eq_decide]; (repeat' split) <;> omega
theorem cmp3_eq0 (x y : Int) : (Flt.cmp3 x y == 0) = decide (x = y) := by
  unfold Flt.cmp3; rw [Bool.eq_iff_iff, beq_iff_eq, decide_eq_true_iff]; (repeat' split) <;> omega
theorem cmp3_m1 (x y : Int) : (Flt.cmp3 x y == -1) = decide (x < y) := by
  unfold Flt.cmp3; rw [Bool.eq_iff_iff, beq_iff_eq, decide_eq_true_iff]; (repeat' split) <;> omega
theorem lessT_cmp (x y : Int) : LessT (Flt.cmp3 x y) (decide (x < y)) (x == y) true :=
  .inr ⟨rfl, (cmp3_m1 x y).symm, (cmp3_eq0 x y).symm, cmp3_three x y⟩
theorem keys_zero (f f' : Nat) (hf : f < 18446744073709551616) (hf' : f' < 18446744073709551616) (hn : Flt.isNan f = false) (hm : Flt.isNan f' = false) :
    ((f = 0 ∨ f = 9223372036854775808) ∧ (f' = 0 ∨ f' = 9223372036854775808) → Flt.key f = Flt.key f') ∧
    (¬ ((f = 0 ∨ f = 9223372036854775808) ∧ (f' = 0 ∨ f' = 9223372036854775808)) → (((Flt.kbits f : Nat) : Int) < (Flt.kbits f' : Nat) ↔ Flt.key f < Flt.key f') ∧ (((Flt.kbits f : Nat) : Int) = (Flt.kbits f' : Nat) ↔ Flt.key f = Flt.key f')) := by
  have hkf : Flt.kbits f = if 9223372036854775808 ≤ f then 18446744073709551615 - f else f + 9223372036854775808 := by unfold Flt.kbits; rw [if_neg (by simp [hn])]
  have hkf' : Flt.kbits f' = if 9223372036854775808 ≤ f' then 18446744073709551615 - f' else f' + 9223372036854775808 := by unfold Flt.kbits; rw [if_neg (by simp [hm])]
  rw [hkf, hkf']
  unfold Flt.key Flt.rung
  constructor
  · intro h
    by_cases a1 : 9223372036854775808 ≤ f <;> by_cases a2 : 9223372036854775808 ≤ f' <;> simp only [a1, a2, if_true, if_false] <;> omega
  · intro h
    by_cases a1 : 9223372036854775808 ≤ f <;> by_cases a2 : 9223372036854775808 ≤ f' <;> simp only [a1, a2, if_true, if_false] <;> omega
theorem lessT_f (f f' : Nat) (hf : f < 18446744073709551616) (hf' : f' < 18446744073709551616) (zx zy c1 c2 : Bool) (hx : (IntKind.u64.wrap ((Flt.canon f : Nat) * 2 : Int) == 0) = zx) (hy : (IntKind.u64.wrap ((Flt.canon f' : Nat) * 2 : Int) == 0) = zy)
    (h1 : decide (Flt.rord f f' < 0) = c1) (h2 : (Flt.rord f f' == 0) = c2) : LessT (fOrd f f') (c1 && !(zx && zy)) (c2 || (zx && zy)) (!Flt.isNan f && !Flt.isNan f') := by
  unfold fOrd
  cases hn : Flt.isNan f
  · cases hm : Flt.isNan f'
    · rw [if_neg (by simp)]
      rw [shl1 _ (Flt.canon_lt hf), Flt.canon_num hn] at hx
      rw [shl1 _ (Flt.canon_lt hf'), Flt.canon_num hm] at hy
      rw [Flt.rord_eq f f' hf hf', cmp3_lt0] at h1
      rw [Flt.rord_eq f f' hf hf', cmp3_eq0] at h2
      obtain ⟨k1, k2⟩ := keys_zero f f' hf hf' hn hm
      refine .inr ⟨rfl, ?_, ?_, cmp3_three _ _⟩
      · rw [cmp3_m1, ← hx, ← hy, ← h1]
        by_cases hz : (f = 0 ∨ f = 9223372036854775808) ∧ (f' = 0 ∨ f' = 9223372036854775808)
        · rw [k1 hz, decide_eq_true hz.1, decide_eq_true hz.2]; simp
        · have e : (decide (f = 0 ∨ f = 9223372036854775808) && decide (f' = 0 ∨ f' = 9223372036854775808)) = false := by
            rw [← Bool.decide_and]; exact decide_eq_false hz
          rw [e, Bool.not_false, Bool.and_true, decide_eq_decide]
          exact (k2 hz).1
      · rw [cmp3_eq0, ← hx, ← hy, ← h2]
        by_cases hz : (f = 0 ∨ f = 9223372036854775808) ∧ (f' = 0 ∨ f' = 9223372036854775808)
        · rw [k1 hz, decide_eq_true hz.1, decide_eq_true hz.2]; simp
        · have e : (decide (f = 0 ∨ f = 9223372036854775808) && decide (f' = 0 ∨ f' = 9223372036854775808)) = false := by
            rw [← Bool.decide_and]; exact decide_eq_false hz
          rw [e, Bool.or_false, decide_eq_decide]
          exact (k2 hz).2
    · rw [if_pos (by simp)]; exact .inl ⟨by simp, .inl rfl⟩
  · rw [if_pos (by simp)]; exact .inl ⟨by simp, .inl rfl⟩
/-- the reference's less, of all that goes together -/
theorem rlow_any (k n k' n' : Int) (f f' : Nat) (s s' : ByteArray) (n1 : -9223372036854775808 ≤ n) (n2 : n ≤ 9223372036854775807) (n1' : -9223372036854775808 ≤ n') (n2' : n' ≤ 9223372036854775807) (hf : f < 18446744073709551616) (hf' : f' < 18446744073709551616)
    (hk : k = k' ∨ (numB k && numB k') = true) : ∃ a b ok, LessT (ordI k n f s k' n' f' s') a b ok ∧ ∀ w, Calls Tryz.prog 54 #[.agg #[.int .i64 k, .int .i64 n, .float .f64 f, .string s], .agg #[.int .i64 k', .int .i64 n', .float .f64 f', .string s']] w fun e w' => e = .returned (.tuple #[.bool a, .bool b, .bool ok]) ∧ Below w.heap.size w w' := by
  unfold ordI
  by_cases h4 : k = 4
  · subst h4
    rw [if_pos rfl]
    exact ⟨_, _, _, lessT_s s s', fun w => rless_t n n' f f' s s' k' _ _ rfl rfl w⟩
  rw [if_neg h4]
  by_cases h3 : k = 3
  · by_cases h3' : k' = 3
    · subst h3 h3'
      rw [if_pos ⟨rfl, rfl⟩]
      exact ⟨_, _, _, lessT_f f f' hf hf' _ _ _ _ rfl rfl rfl rfl, fun w => rless_ff n n' f f' s s' _ _ _ _ _ _ _ _ _ rfl rfl rfl rfl (rnan_any f hf) (rnan_any f' hf') (rorder_any f f' hf hf') (rbits_any f hf) (rbits_any f' hf') w⟩
    · subst h3
      rw [if_neg (by simp [h3']), if_neg h3', if_pos rfl]
      have h2' : k' = 2 := by
        rcases hk with h | h
        · exact absurd h.symm h3'
        · simp [numB] at h; rcases h with h | h
          · exact h
          · exact absurd h h3'
      subst h2'
      unfold mOrd
      cases hn : Flt.isNan f
      · rw [if_neg (by decide)]
        exact ⟨_, _, _, lessT_n _ (cmp3_three _ _), fun w => rless_fi n n' f f' s s' _ _ (rag_all n' f n1' n2' hf hn) w⟩
      · rw [if_pos rfl]
        exact ⟨_, _, _, .inl ⟨rfl, .inr rfl⟩, fun w => rless_fi n n' f f' s s' _ _ (rag_nans n' f hf hn) w⟩
  · rw [if_neg (by simp [h3])]
    by_cases h3' : k' = 3
    · subst h3'
      rw [if_pos rfl]
      have h2 : k = 2 := by
        rcases hk with h | h
        · exact absurd h h3
        · simp [numB] at h; rcases h with h | h
          · exact h
          · exact absurd h h3
      subst h2
      unfold mOrd
      cases hn : Flt.isNan f'
      · rw [if_neg (by decide)]
        exact ⟨_, _, _, lessT_c _ (cmp3_three _ _), fun w => rless_if n n' f f' s s' _ _ (rag_all n f' n1 n2 hf' hn) w⟩
      · rw [if_pos rfl]
        exact ⟨_, _, _, .inl ⟨rfl, .inl rfl⟩, fun w => rless_if n n' f f' s s' _ _ (rag_nans n f' hf' hn) w⟩
    · rw [if_neg h3', if_neg h3]
      exact ⟨_, _, _, lessT_cmp n n', fun w => rless_nn k k' n n' f f' s s' (by simpa using h4) (by simpa using h3) (by simpa using h3') w⟩
end Go.Proofs.YtnjlcdemfdokoaaGreatDoor
