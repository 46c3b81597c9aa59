/- The walk of the law NumAgainst. -/
import Derived.Test.YtpnbjofddlbagaaDoorWo
import Derived.Test.YtpnbjofddlbagaaDoorWy
namespace Go.Proofs.YtpnbjofddlbagaaDoor.NumAgainst
open Go Go.RowKit
set_option linter.unusedVariables false
theorem of_nat (a : Nat) (w : World) : Calls Tryd.prog 13 #[.int .u64 (a : Int)] w fun e w' => e = .returned (.float .f64 a) ∧ w = w' := of_any (a : Int) w
theorem core (n : Int) (a : Nat) (c : Int) (b : Bool) (A : ∀ w, Calls Tryd.prog 27 #[.int .i64 n, .float .f64 a] w fun e w' => e = .returned (.tuple #[.int .i64 c, .bool b]) ∧ w = w')
    (B : ∀ w, Calls Tryd.prog 28 #[.int .i64 n, .float .f64 a] w fun e w' => e = .returned (.tuple #[.int .i64 c, .bool b]) ∧ w = w') (w : World) (hT : Tabs w) :
    Calls Tryd.prog 7 #[.int .i64 n, .int .u64 (a : Int)] w fun e w' => e = .returned (.bool true) ∧ Below w.heap.size w w' := by
  cases b
  all_goals
    go_enter Tryd.func7, Tryd.ntmps7
    go_wp2_with fail
    refine (shown_any _ hT).mono ?_; rintro e w1 ⟨rfl, hb1⟩
    go_wp2_with fail
    refine (of_nat a _).mono ?_; rintro e w' ⟨rfl, rfl⟩
    go_wp2_with fail
    refine (A _).mono ?_; rintro e w' ⟨rfl, rfl⟩
    go_wp2_with fail
    refine (of_nat a _).mono ?_; rintro e w' ⟨rfl, rfl⟩
    go_wp2_with fail
    refine (B _).mono ?_; rintro e w' ⟨rfl, rfl⟩
    go_wp2_with fail
    go_ret
    exact ⟨rfl, hb1⟩
theorem walk (n : Int) (a : Nat) (n1 : -9223372036854775808 ≤ n) (n2 : n ≤ 9223372036854775807) (ha : a < 18446744073709551616) (w : World) (hT : Tabs w) :
    Calls Tryd.prog 7 #[.int .i64 n, .int .u64 (a : Int)] w fun e w' => e = .returned (.bool true) ∧ Below w.heap.size w w' := by
  have PT := parts_any a ha
  have hF : Flt.field a = Flt.rung a / 4503599627370496 := by unfold Flt.field Flt.rung; omega
  have hf : Flt.frac a = Flt.rung a % 4503599627370496 := by unfold Flt.frac Flt.rung; omega
  have hrl : Flt.rung a < 9223372036854775808 := Nat.mod_lt _ (by decide)
  cases hn : Flt.isNan a
  · have hni : Flt.rung a ≤ 9218868437227405312 := by unfold Flt.isNan at hn; simpa using hn
    have hkey : Flt.key a = if Flt.neg a = true then -((Flt.rung a : Nat) : Int) else (Flt.rung a : Nat) := by
      unfold Flt.key Flt.neg
      by_cases hs : 9223372036854775808 ≤ a
      · rw [if_pos hs, decide_eq_true hs, if_pos rfl]
      · rw [if_neg hs, decide_eq_false hs, if_neg (by decide)]
    by_cases hr : Flt.rung a < 4890909195324358656
    · have hk : -4890909195324358656 ≤ Flt.key a ∧ Flt.key a < 4890909195324358656 := by rw [hkey]; split <;> omega
      exact core n a _ true (against_mid n a ha hn hk.1 hk.2) (fun w => ragainst_mid n a n1 n2 ha hr w) w hT
    · have hFb : 1086 ≤ ((Flt.field a : Nat) : Int) := by omega
      have hnn : ((((Flt.field a : Nat) : Int) == 2047) && (((Flt.frac a : Nat) : Int) != 0)) = false := by
        rw [Bool.and_eq_false_iff, beq_eq_false_iff_ne, bne_eq_false_iff_eq]
        omega
      cases hs : Flt.neg a
      · rw [hs, if_neg (by decide)] at hkey
        rw [hs] at PT
        exact core n a (-1) true (against_high n a ha hn (by omega)) (fun w => rag_bigP n a _ _ _ _ rfl rfl hnn hFb PT w) w hT
      · rw [hs, if_pos rfl] at hkey
        rw [hs] at PT
        by_cases he : Flt.rung a = 4890909195324358656
        · have e1 : Flt.field a = 1086 := by omega
          have e2 : Flt.frac a = 0 := by omega
          rw [e1, e2] at PT
          have hv : Flt.V (Flt.rung a) = Flt.whole (Flt.rung a) * 2 ^ Flt.K := by
            rw [he, Flt.whole_63]
            have e1 : Flt.mant 4890909195324358656 = 4503599627370496 := by decide
            have e2 : Flt.xp 4890909195324358656 = 1085 := by decide
            unfold Flt.V
            rw [e1, e2, show (1085 : Nat) = 11 + Flt.K from by rw [Flt.K_eq], Nat.pow_add, ← Nat.mul_assoc]
          have hg : agn n a = Flt.cmp3 n (-9223372036854775808) := by
            rw [agn_whole n ha hv]
            congr 1
            unfold Flt.wholeInt
            rw [hs, if_pos rfl, he, Flt.whole_63]
            rfl
          have A := against_mid n a ha hn (by omega) (by omega)
          rw [hg] at A
          exact core n a _ true A (fun w => rag_m63 n a PT w) w hT
        · refine core n a 1 true (against_low n a ha hn (by omega)) (fun w => rag_bigM n a _ _ _ _ _ _ rfl rfl hnn hFb rfl rfl ?_ PT w) w hT
          rw [Bool.and_eq_false_iff, beq_eq_false_iff_ne, beq_eq_false_iff_ne]
          omega
  · have hni := (Flt.isNan_iff a).1 hn
    exact core n a 0 false (against_nan n a ha hn) (fun w => rag_nan n a _ _ _ (by rw [beq_iff_eq]; omega) (by rw [bne_iff_ne]; omega) PT w) w hT
end Go.Proofs.YtpnbjofddlbagaaDoor.NumAgainst
