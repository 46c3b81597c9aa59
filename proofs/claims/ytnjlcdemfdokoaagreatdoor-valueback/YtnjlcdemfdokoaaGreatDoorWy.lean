import Derived.Test.YtnjlcdemfdokoaaGreatDoorWx
namespace Go.Proofs.YtnjlcdemfdokoaaGreatDoor
open Go Go.RowKit
theorem rag_nan (n : Int) (a : Nat) (s : Bool) (F f : Int) (g1 : (F == 2047) = true) (g2 : (f != 0) = true) (PT : ∀ w, Calls Tryz.prog 106 #[.float .f64 a] w fun e w' => e = .returned (.tuple #[.bool s, .int .i64 F, .int .i64 f]) ∧ w = w') (w : World) :
    Calls Tryz.prog 88 #[.int .i64 n, .float .f64 a] w fun e w' => e = .returned (.tuple #[.int .i64 0, .bool false]) ∧ w = w' := by
  go_enter Tryz.func88, Tryz.ntmps88
  go_wp2_with (go_at_call 106; refine (PT _).mono ?_; rintro e w' ⟨rfl, rfl⟩)
  go_ret2
  exact ⟨rfl, rfl⟩
theorem rag_m63 (n : Int) (a : Nat) (PT : ∀ w, Calls Tryz.prog 106 #[.float .f64 a] w fun e w' => e = .returned (.tuple #[.bool true, .int .i64 1086, .int .i64 0]) ∧ w = w') (w : World) :
    Calls Tryz.prog 88 #[.int .i64 n, .float .f64 a] w fun e w' => e = .returned (.tuple #[.int .i64 (Flt.cmp3 n (-9223372036854775808)), .bool true]) ∧ w = w' := by
  go_enter Tryz.func88, Tryz.ntmps88
  go_wp2_with (first | (go_at_call 106; refine (PT _).mono ?_; rintro e w' ⟨rfl, rfl⟩) | (go_at_call 117; refine (sign_any _ _ _).mono ?_; rintro e w' ⟨rfl, rfl⟩))
  go_ret2
  exact ⟨rfl, rfl⟩
theorem rag_zero (n : Int) (a : Nat) (s : Bool) (PT : ∀ w, Calls Tryz.prog 106 #[.float .f64 a] w fun e w' => e = .returned (.tuple #[.bool s, .int .i64 0, .int .i64 0]) ∧ w = w') (w : World) :
    Calls Tryz.prog 88 #[.int .i64 n, .float .f64 a] w fun e w' => e = .returned (.tuple #[.int .i64 (Flt.cmp3 n 0), .bool true]) ∧ w = w' := by
  cases s
  all_goals
    go_enter Tryz.func88, Tryz.ntmps88
    go_wp2_with (first | (go_at_call 106; refine (PT _).mono ?_; rintro e w' ⟨rfl, rfl⟩) | (go_at_call 117; refine (sign_any _ _ _).mono ?_; rintro e w' ⟨rfl, rfl⟩))
    go_ret2
    exact ⟨rfl, rfl⟩
theorem rag_bigP (n : Int) (a : Nat) (F f : Int) (b1 b2 : Bool) (g1 : (F == 2047) = b1) (g2 : (f != 0) = b2) (g3 : (b1 && b2) = false) (g4 : 1086 ≤ F)
    (PT : ∀ w, Calls Tryz.prog 106 #[.float .f64 a] w fun e w' => e = .returned (.tuple #[.bool false, .int .i64 F, .int .i64 f]) ∧ w = w') (w : World) :
    Calls Tryz.prog 88 #[.int .i64 n, .float .f64 a] w fun e w' => e = .returned (.tuple #[.int .i64 (-1), .bool true]) ∧ w = w' := by
  cases b1 <;> cases b2
  case true.true => cases g3
  all_goals
    clear g3
    go_enter Tryz.func88, Tryz.ntmps88
    go_wp2_with (go_at_call 106; refine (PT _).mono ?_; rintro e w' ⟨rfl, rfl⟩)
    go_ret2
    exact ⟨rfl, rfl⟩
theorem rag_bigM (n : Int) (a : Nat) (F f : Int) (b1 b2 b3 b4 : Bool) (g1 : (F == 2047) = b1) (g2 : (f != 0) = b2) (g3 : (b1 && b2) = false) (g4 : 1086 ≤ F) (g5 : (F == 1086) = b3) (g6 : (f == 0) = b4) (g7 : (b3 && b4) = false)
    (PT : ∀ w, Calls Tryz.prog 106 #[.float .f64 a] w fun e w' => e = .returned (.tuple #[.bool true, .int .i64 F, .int .i64 f]) ∧ w = w') (w : World) :
    Calls Tryz.prog 88 #[.int .i64 n, .float .f64 a] w fun e w' => e = .returned (.tuple #[.int .i64 1, .bool true]) ∧ w = w' := by
  have h8 : b4 = !b2 := by rw [← g2, ← g6]; simp [bne]
  subst h8
  cases b1 <;> cases b2 <;> cases b3
  case true.true.true => cases g3
  case true.true.false => cases g3
  case true.false.true => cases g7
  case false.false.true => cases g7
  all_goals
    clear g3 g7
    simp only [Bool.not_false, Bool.not_true] at g6
    go_enter Tryz.func88, Tryz.ntmps88
    go_wp2_with (go_at_call 106; refine (PT _).mono ?_; rintro e w' ⟨rfl, rfl⟩)
    go_ret2
    exact ⟨rfl, rfl⟩
theorem trunc_whole {a : Nat} (ha : a < 18446744073709551616) (h : Flt.V (Flt.rung a) = Flt.whole (Flt.rung a) * 2 ^ Flt.K) : Flt.trunc a = a := by
  have e : Flt.wrung (Flt.rung a) = Flt.rung a := Flt.V_inj (by rw [Flt.V_wrung, h])
  unfold Flt.trunc Flt.neg
  rw [e]
  unfold Flt.rung
  by_cases hs : 9223372036854775808 ≤ a
  · rw [decide_eq_true hs, if_pos rfl]; omega
  · rw [decide_eq_false hs, if_neg (by decide)]; omega
theorem agn_whole (n : Int) {a : Nat} (ha : a < 18446744073709551616) (h : Flt.V (Flt.rung a) = Flt.whole (Flt.rung a) * 2 ^ Flt.K) : agn n a = Flt.cmp3 n (Flt.wholeInt a) := by
  unfold agn
  rw [trunc_whole ha h]
  split
  · rename_i h0
    rw [h0]
    unfold Flt.cmp3
    rw [if_neg (by omega), if_neg (by omega)]
  · rfl
theorem agn_part (n : Int) {a : Nat} (hr : Flt.rung a < 9218868437227405312) (h : Flt.V (Flt.rung a) ≠ Flt.whole (Flt.rung a) * 2 ^ Flt.K) : agn n a = btw n (Flt.neg a) (Flt.whole (Flt.rung a)) := by
  have h1 : Flt.wrung (Flt.rung a) < Flt.rung a := by
    apply Flt.V_lt_iff.1
    rw [Flt.V_wrung]
    have : Flt.whole (Flt.rung a) * 2 ^ Flt.K ≤ Flt.V (Flt.rung a) := Nat.div_mul_le_self _ _
    omega
  have hwl := Flt.wrung_lt hr
  have hrt := Flt.rung_trunc hr
  have hnt := Flt.neg_trunc hr
  have hk : Flt.key (Flt.trunc a) = if Flt.neg a = true then -((Flt.wrung (Flt.rung a) : Nat) : Int) else (Flt.wrung (Flt.rung a) : Nat) := by
    unfold Flt.key
    rw [hrt]
    unfold Flt.neg at hnt ⊢
    by_cases hs : 9223372036854775808 ≤ a
    · rw [decide_eq_true hs] at hnt ⊢
      rw [if_pos (of_decide_eq_true hnt), if_pos rfl]
    · rw [decide_eq_false hs] at hnt ⊢
      rw [if_neg (of_decide_eq_false hnt), if_neg (by decide)]
  have hka : Flt.key a = if Flt.neg a = true then -((Flt.rung a : Nat) : Int) else (Flt.rung a : Nat) := by
    unfold Flt.key Flt.neg
    by_cases hs : 9223372036854775808 ≤ a
    · rw [if_pos hs, decide_eq_true hs, if_pos rfl]
    · rw [if_neg hs, decide_eq_false hs, if_neg (by decide)]
  unfold agn
  rw [hk, hka]
  unfold Flt.wholeInt
  generalize Flt.whole (Flt.rung a) = l
  cases Flt.neg a
  · rw [btw_f]
    simp only [Bool.false_eq_true, if_false]
    unfold Flt.cmp3
    (repeat' split) <;> omega
  · rw [btw_t]
    simp only [if_true]
    unfold Flt.cmp3
    (repeat' split) <;> omega
/-- the document's Against, of every float -/
theorem ragainst_mid (n : Int) (a : Nat) (n1 : -9223372036854775808 ≤ n) (n2 : n ≤ 9223372036854775807) (ha : a < 18446744073709551616) (hr : Flt.rung a < 4890909195324358656) (w : World) :
    Calls Tryz.prog 88 #[.int .i64 n, .float .f64 a] w fun e w' => e = .returned (.tuple #[.int .i64 (agn n a), .bool true]) ∧ w = w' := by
  have PT := parts_any a ha
  have hF : Flt.field a = Flt.rung a / 4503599627370496 := by unfold Flt.field Flt.rung; omega
  have hf : Flt.frac a = Flt.rung a % 4503599627370496 := by unfold Flt.frac Flt.rung; omega
  rw [hF, hf] at PT
  have hK := Flt.K_eq
  by_cases h0 : Flt.rung a = 0
  · rw [h0] at PT
    have h1 := rag_zero n a (Flt.neg a) PT w
    have h2 : agn n a = Flt.cmp3 n 0 := by
      rw [agn_whole n ha (by rw [h0]; unfold Flt.whole; rw [Flt.V_zero]; simp)]
      congr 1
      unfold Flt.wholeInt Flt.whole
      rw [h0, Flt.V_zero]
      simp
    rw [h2]
    exact h1
  · -- V r is m0 times 2 to the power of e0 + 1074
    have main : ∀ (m0 : Nat) (e0 : Int), -1074 ≤ e0 → Flt.V (Flt.rung a) = m0 * 2 ^ (e0 + 1074).toNat →
        (∀ d m : Nat, 1 ≤ d → d ≤ 1074 → m % 2 = 1 → m * 2 ^ ((-(d : Int)) - e0).toNat = m0 → e0 ≤ -(d : Int) → btw n (Flt.neg a) (m / 2 ^ d) = agn n a) ∧
        (∀ m : Nat, ∀ e : Nat, (e : Int) = 0 ∨ (e : Int) = e0 → m * 2 ^ ((e : Int) - e0).toNat = m0 → e0 ≤ (e : Int) → Flt.cmp3 n (if Flt.neg a = true then -((m * 2 ^ e : Nat) : Int) else ((m * 2 ^ e : Nat) : Int)) = agn n a) := by
      intro m0 e0 he hV
      constructor
      · intro d m d1 d2 hodd hm hle
        have hV2 : Flt.V (Flt.rung a) = m * 2 ^ (Flt.K - d) := by
          rw [hV, ← hm, Nat.mul_assoc, ← Nat.pow_add, show (-(d : Int) - e0).toNat + (e0 + 1074).toNat = Flt.K - d from by omega]
        have hK2 : (2 : Nat) ^ Flt.K = 2 ^ d * 2 ^ (Flt.K - d) := by rw [← Nat.pow_add]; congr 1; omega
        have hw : Flt.whole (Flt.rung a) = m / 2 ^ d := by
          unfold Flt.whole
          rw [hV2, hK2, Nat.mul_div_mul_right _ _ (Nat.pow_pos (by decide))]
        have hne : Flt.V (Flt.rung a) ≠ Flt.whole (Flt.rung a) * 2 ^ Flt.K := by
          rw [hV2, hK2, ← Nat.mul_assoc]
          intro e
          have e2 := Nat.eq_of_mul_eq_mul_right (Nat.pow_pos (by decide)) e
          obtain ⟨d', rfl⟩ : ∃ d', d = d' + 1 := ⟨d - 1, by omega⟩
          rw [Nat.pow_succ, ← Nat.mul_assoc] at e2
          omega
        rw [agn_part n (by omega) hne, hw]
      · intro m e hee hm hle
        have hV2 : Flt.V (Flt.rung a) = m * 2 ^ e * 2 ^ Flt.K := by
          rw [hV, ← hm, Nat.mul_assoc, ← Nat.pow_add, Nat.mul_assoc, ← Nat.pow_add, show ((e : Int) - e0).toNat + (e0 + 1074).toNat = e + Flt.K from by omega]
        have hw : Flt.whole (Flt.rung a) = m * 2 ^ e := by
          unfold Flt.whole
          rw [hV2, Nat.mul_div_cancel _ (Nat.pow_pos (by decide))]
        rw [agn_whole n ha (by rw [hw, hV2])]
        unfold Flt.wholeInt
        rw [hw]
    by_cases hs : Flt.rung a < 4503599627370496
    · have e1 : Flt.rung a / 4503599627370496 = 0 := by omega
      have e2 : Flt.rung a % 4503599627370496 = Flt.rung a := by omega
      rw [e1, e2] at PT
      have hV : Flt.V (Flt.rung a) = Flt.rung a * 2 ^ ((-1074 : Int) + 1074).toNat := by
        unfold Flt.V Flt.mant Flt.xp
        rw [if_pos hs, e1]
        simp
      obtain ⟨m1, m2⟩ := main (Flt.rung a) (-1074) (by omega) hV
      exact rag_sub n a (Flt.neg a) 0 (Flt.rung a : Nat) (Flt.rung a) (-1074) n1 n2 rfl (by omega) (by omega) (by omega) (by omega) (by omega) (by omega) (by omega) rfl rfl (agn n a) m1 m2 PT w
    · have hx : ((Flt.rung a / 4503599627370496 : Nat) : Int) - 1075 + 1074 = (Flt.xp (Flt.rung a) : Nat) := by unfold Flt.xp; omega
      have hV : Flt.V (Flt.rung a) = (Flt.rung a % 4503599627370496 + 4503599627370496) * 2 ^ (((Flt.rung a / 4503599627370496 : Nat) : Int) - 1075 + 1074).toNat := by
        rw [hx]
        unfold Flt.V Flt.mant
        rw [if_neg hs, Nat.add_comm, Int.toNat_natCast]
      obtain ⟨m1, m2⟩ := main _ _ (by omega) hV
      exact rag_norm n a (Flt.neg a) _ _ (Flt.rung a % 4503599627370496 + 4503599627370496) _ n1 n2 (by omega) (by omega) (by omega) (by omega) (by omega) (by omega) (by omega) (by omega) (by omega) rfl (agn n a) m1 m2 PT w
end Go.Proofs.YtnjlcdemfdokoaaGreatDoor
