/- The walk of the law NumSteps. -/
import Derived.Test.YtpnbjofddlbagaaDoorWo
import Derived.Test.YtpnbjofddlbagaaDoorWt
namespace Go.Proofs.YtpnbjofddlbagaaDoor.NumSteps
open Go Go.RowKit
set_option linter.unusedVariables false
theorem of_nat (a : Nat) (w : World) : Calls Tryd.prog 13 #[.int .u64 (a : Int)] w fun e w' => e = .returned (.float .f64 a) ∧ w = w' := of_any (a : Int) w
theorem early (a : Nat) (n : Int) (b : Bool) (hn : (FloatKind.f64.format.order a a != some Ordering.eq) = b) (IX : b = false → ∀ w, Calls Tryd.prog 29 #[.float .f64 a, .int .i64 1] w fun e w' => e = .returned (.bool true) ∧ w = w') (w : World) (hT : Tabs w) :
    Calls Tryd.prog 8 #[.int .u64 (a : Int), .int .i64 n] w fun e w' => e = .returned (.bool true) ∧ Below w.heap.size w w' := by
  cases b
  · have IX' := IX rfl
    clear IX
    go_enter Tryd.func8, Tryd.ntmps8
    go_wp2_with fail
    refine (shown_any _ hT).mono ?_; rintro e w1 ⟨rfl, hb1⟩
    go_wp2_with fail
    refine (of_nat a _).mono ?_; rintro e w' ⟨rfl, rfl⟩
    go_wp2_with fail
    refine (IX' _).mono ?_; rintro e w' ⟨rfl, rfl⟩
    go_wp2_with fail
    go_ret
    exact ⟨rfl, hb1⟩
  · clear IX
    go_enter Tryd.func8, Tryd.ntmps8
    go_wp2_with fail
    refine (shown_any _ hT).mono ?_; rintro e w1 ⟨rfl, hb1⟩
    go_wp2_with fail
    refine (of_nat a _).mono ?_; rintro e w' ⟨rfl, rfl⟩
    go_wp2_with fail
    go_ret
    exact ⟨rfl, hb1⟩
set_option maxHeartbeats 2000000 in
theorem core1 (a y z : Nat) (n p c d : Int) (p0 : 0 ≤ p) (p1 : p ≤ 18446744073709551614) (hcd : d ≤ c) (hn : (FloatKind.f64.format.order a a != some Ordering.eq) = false)
    (IX : ∀ w, Calls Tryd.prog 29 #[.float .f64 a, .int .i64 1] w fun e w' => e = .returned (.bool false) ∧ w = w')
    (KX : ∀ w, Calls Tryd.prog 19 #[.float .f64 a] w fun e w' => e = .returned (.int .u64 p) ∧ w = w') (FX : ∀ w, Calls Tryd.prog 21 #[.int .u64 (p + 1)] w fun e w' => e = .returned (.tuple #[.float .f64 y, .bool true]) ∧ w = w')
    (OX : ∀ w, Calls Tryd.prog 17 #[.float .f64 a, .float .f64 y] w fun e w' => e = .returned (.int .i64 (-1)) ∧ w = w') (NX : ∀ w, Calls Tryd.prog 30 #[.float .f64 a, .float .f64 9218868437227405312] w fun e w' => e = .returned (.float .f64 z) ∧ w = w')
    (AX : ∀ w, Calls Tryd.prog 27 #[.int .i64 n, .float .f64 a] w fun e w' => e = .returned (.tuple #[.int .i64 c, .bool true]) ∧ w = w') (AY : ∀ w, Calls Tryd.prog 27 #[.int .i64 n, .float .f64 y] w fun e w' => e = .returned (.tuple #[.int .i64 d, .bool true]) ∧ w = w')
    (zx : (FloatKind.f64.format.order a 0 == some Ordering.eq) = true) (w : World) (hT : Tabs w) :
    Calls Tryd.prog 8 #[.int .u64 (a : Int), .int .i64 n] w fun e w' => e = .returned (.bool true) ∧ Below w.heap.size w w' := by
  go_enter Tryd.func8, Tryd.ntmps8
  go_wp2_with fail
  refine (shown_any _ hT).mono ?_; rintro e w1 ⟨rfl, hb1⟩
  go_wp2_with fail
  refine (of_nat a _).mono ?_; rintro e w' ⟨rfl, rfl⟩
  go_wp2_with fail
  refine (IX _).mono ?_; rintro e w' ⟨rfl, rfl⟩
  go_wp2_with fail
  refine (KX _).mono ?_; rintro e w' ⟨rfl, rfl⟩
  go_wp2_with fail
  refine (FX _).mono ?_; rintro e w' ⟨rfl, rfl⟩
  go_wp2_with fail
  refine (OX _).mono ?_; rintro e w' ⟨rfl, rfl⟩
  go_wp2_with fail
  refine (inf_pos _).mono ?_; rintro e w' ⟨rfl, rfl⟩
  go_wp2_with fail
  refine (NX _).mono ?_; rintro e w' ⟨rfl, rfl⟩
  go_wp2_with fail
  refine (AX _).mono ?_; rintro e w' ⟨rfl, rfl⟩
  go_wp2_with fail
  refine (AY _).mono ?_; rintro e w' ⟨rfl, rfl⟩
  go_wp2_with fail
  go_ret
  exact ⟨rfl, hb1⟩
set_option maxHeartbeats 2000000 in
theorem core2 (a y z : Nat) (n p c d : Int) (p0 : 0 ≤ p) (p1 : p ≤ 18446744073709551614) (hcd : d ≤ c) (hn : (FloatKind.f64.format.order a a != some Ordering.eq) = false)
    (IX : ∀ w, Calls Tryd.prog 29 #[.float .f64 a, .int .i64 1] w fun e w' => e = .returned (.bool false) ∧ w = w')
    (KX : ∀ w, Calls Tryd.prog 19 #[.float .f64 a] w fun e w' => e = .returned (.int .u64 p) ∧ w = w') (FX : ∀ w, Calls Tryd.prog 21 #[.int .u64 (p + 1)] w fun e w' => e = .returned (.tuple #[.float .f64 y, .bool true]) ∧ w = w')
    (OX : ∀ w, Calls Tryd.prog 17 #[.float .f64 a, .float .f64 y] w fun e w' => e = .returned (.int .i64 (-1)) ∧ w = w') (NX : ∀ w, Calls Tryd.prog 30 #[.float .f64 a, .float .f64 9218868437227405312] w fun e w' => e = .returned (.float .f64 z) ∧ w = w')
    (AX : ∀ w, Calls Tryd.prog 27 #[.int .i64 n, .float .f64 a] w fun e w' => e = .returned (.tuple #[.int .i64 c, .bool true]) ∧ w = w') (AY : ∀ w, Calls Tryd.prog 27 #[.int .i64 n, .float .f64 y] w fun e w' => e = .returned (.tuple #[.int .i64 d, .bool true]) ∧ w = w')
    (zx : (FloatKind.f64.format.order a 0 == some Ordering.eq) = false) (zy : (FloatKind.f64.format.order y 0 == some Ordering.eq) = true) (w : World) (hT : Tabs w) :
    Calls Tryd.prog 8 #[.int .u64 (a : Int), .int .i64 n] w fun e w' => e = .returned (.bool true) ∧ Below w.heap.size w w' := by
  go_enter Tryd.func8, Tryd.ntmps8
  go_wp2_with fail
  refine (shown_any _ hT).mono ?_; rintro e w1 ⟨rfl, hb1⟩
  go_wp2_with fail
  refine (of_nat a _).mono ?_; rintro e w' ⟨rfl, rfl⟩
  go_wp2_with fail
  refine (IX _).mono ?_; rintro e w' ⟨rfl, rfl⟩
  go_wp2_with fail
  refine (KX _).mono ?_; rintro e w' ⟨rfl, rfl⟩
  go_wp2_with fail
  refine (FX _).mono ?_; rintro e w' ⟨rfl, rfl⟩
  go_wp2_with fail
  refine (OX _).mono ?_; rintro e w' ⟨rfl, rfl⟩
  go_wp2_with fail
  refine (inf_pos _).mono ?_; rintro e w' ⟨rfl, rfl⟩
  go_wp2_with fail
  refine (NX _).mono ?_; rintro e w' ⟨rfl, rfl⟩
  go_wp2_with fail
  refine (AX _).mono ?_; rintro e w' ⟨rfl, rfl⟩
  go_wp2_with fail
  refine (AY _).mono ?_; rintro e w' ⟨rfl, rfl⟩
  go_wp2_with fail
  go_ret
  exact ⟨rfl, hb1⟩
set_option maxHeartbeats 2000000 in
theorem core3 (a y z : Nat) (n p c d : Int) (p0 : 0 ≤ p) (p1 : p ≤ 18446744073709551614) (hcd : d ≤ c) (hn : (FloatKind.f64.format.order a a != some Ordering.eq) = false)
    (IX : ∀ w, Calls Tryd.prog 29 #[.float .f64 a, .int .i64 1] w fun e w' => e = .returned (.bool false) ∧ w = w')
    (KX : ∀ w, Calls Tryd.prog 19 #[.float .f64 a] w fun e w' => e = .returned (.int .u64 p) ∧ w = w') (FX : ∀ w, Calls Tryd.prog 21 #[.int .u64 (p + 1)] w fun e w' => e = .returned (.tuple #[.float .f64 y, .bool true]) ∧ w = w')
    (OX : ∀ w, Calls Tryd.prog 17 #[.float .f64 a, .float .f64 y] w fun e w' => e = .returned (.int .i64 (-1)) ∧ w = w') (NX : ∀ w, Calls Tryd.prog 30 #[.float .f64 a, .float .f64 9218868437227405312] w fun e w' => e = .returned (.float .f64 z) ∧ w = w')
    (AX : ∀ w, Calls Tryd.prog 27 #[.int .i64 n, .float .f64 a] w fun e w' => e = .returned (.tuple #[.int .i64 c, .bool true]) ∧ w = w') (AY : ∀ w, Calls Tryd.prog 27 #[.int .i64 n, .float .f64 y] w fun e w' => e = .returned (.tuple #[.int .i64 d, .bool true]) ∧ w = w')
    (zx : (FloatKind.f64.format.order a 0 == some Ordering.eq) = false) (zy : (FloatKind.f64.format.order y 0 == some Ordering.eq) = false) (SX : ∀ w, Calls Tryd.prog 22 #[.float .f64 z, .float .f64 y] w fun e w' => e = .returned (.bool true) ∧ w = w') (w : World) (hT : Tabs w) :
    Calls Tryd.prog 8 #[.int .u64 (a : Int), .int .i64 n] w fun e w' => e = .returned (.bool true) ∧ Below w.heap.size w w' := by
  go_enter Tryd.func8, Tryd.ntmps8
  go_wp2_with fail
  refine (shown_any _ hT).mono ?_; rintro e w1 ⟨rfl, hb1⟩
  go_wp2_with fail
  refine (of_nat a _).mono ?_; rintro e w' ⟨rfl, rfl⟩
  go_wp2_with fail
  refine (IX _).mono ?_; rintro e w' ⟨rfl, rfl⟩
  go_wp2_with fail
  refine (KX _).mono ?_; rintro e w' ⟨rfl, rfl⟩
  go_wp2_with fail
  refine (FX _).mono ?_; rintro e w' ⟨rfl, rfl⟩
  go_wp2_with fail
  refine (OX _).mono ?_; rintro e w' ⟨rfl, rfl⟩
  go_wp2_with fail
  refine (inf_pos _).mono ?_; rintro e w' ⟨rfl, rfl⟩
  go_wp2_with fail
  refine (NX _).mono ?_; rintro e w' ⟨rfl, rfl⟩
  go_wp2_with fail
  refine (SX _).mono ?_; rintro e w' ⟨rfl, rfl⟩
  go_wp2_with fail
  refine (AX _).mono ?_; rintro e w' ⟨rfl, rfl⟩
  go_wp2_with fail
  refine (AY _).mono ?_; rintro e w' ⟨rfl, rfl⟩
  go_wp2_with fail
  go_ret
  exact ⟨rfl, hb1⟩
theorem walk (a : Nat) (n : Int) (ha : a < 18446744073709551616) (n1 : -9223372036854775808 ≤ n) (n2 : n ≤ 9223372036854775807) (w : World) (hT : Tabs w) :
    Calls Tryd.prog 8 #[.int .u64 (a : Int), .int .i64 n] w fun e w' => e = .returned (.bool true) ∧ Below w.heap.size w w' := by
  have ho := Flt.ord_self ha
  cases hn : Flt.isNan a
  · rw [hn] at ho
    by_cases hi : a = 9218868437227405312
    · have I := isinf1_any a ha
      rw [decide_eq_true hi] at I
      exact early a n false ho (fun _ => I) w hT
    · have I := isinf1_any a ha
      rw [decide_eq_false hi] at I
      have hr : Flt.rung a ≤ 9218868437227405312 := by unfold Flt.isNan at hn; simpa using hn
      -- the next one
      have hy : ∃ y : Nat, y < 18446744073709551616 ∧ Flt.isNan y = false ∧ Flt.kbits a + 1 < 18446744073709551616 ∧ Flt.okb (Flt.kbits a + 1) = y ∧ Flt.kbits y = Flt.kbits a + 1 ∧ Flt.key a ≤ Flt.key y ∧
          ((a < 9223372036854775808 ∧ y = a + 1) ∨ (a = 9223372036854775808 ∧ y = 0) ∨ (9223372036854775808 < a ∧ y = a - 1)) := by
        unfold Flt.rung at hr
        by_cases s1 : a < 9223372036854775808
        · have k := Flt.kbits_pos hn s1
          have hny : Flt.isNan (a + 1) = false := by unfold Flt.isNan Flt.rung; rw [decide_eq_false_iff_not]; omega
          refine ⟨a + 1, by omega, hny, by omega, ?_, ?_, ?_, Or.inl ⟨s1, rfl⟩⟩
          · rw [k]; unfold Flt.okb; rw [if_pos (by omega)]; omega
          · have h9 := Flt.kbits_pos hny (by omega); omega
          · unfold Flt.key Flt.rung; rw [if_neg (by omega), if_neg (by omega)]; omega
        · have k := Flt.kbits_neg hn (by omega)
          by_cases s2 : a = 9223372036854775808
          · refine ⟨0, by omega, by decide, by omega, ?_, ?_, ?_, Or.inr (Or.inl ⟨s2, rfl⟩)⟩
            · rw [k]; unfold Flt.okb; rw [if_pos (by omega)]; omega
            · have h9 := Flt.kbits_pos (a := 0) (by decide) (by omega); omega
            · rw [s2]; decide
          · have hny : Flt.isNan (a - 1) = false := by unfold Flt.isNan Flt.rung; rw [decide_eq_false_iff_not]; omega
            refine ⟨a - 1, by omega, hny, by omega, ?_, ?_, ?_, Or.inr (Or.inr ⟨by omega, rfl⟩)⟩
            · rw [k]; unfold Flt.okb; rw [if_neg (by omega)]; omega
            · have h9 := Flt.kbits_neg hny (by omega); omega
            · unfold Flt.key Flt.rung; rw [if_pos (by omega), if_pos (by omega)]; omega
      obtain ⟨y, y1, y2, y3, y4, y5, y6, y7⟩ := hy
      have FX := ofkey_any (Flt.kbits a + 1) y3
      rw [y4, Flt.canon_num y2, y5, decide_eq_true rfl, if_pos rfl] at FX
      have OX := order_any a y ha y1
      rw [y5, Flt.cmp3_lt (by omega)] at OX
      have AX := against_all n a n1 n2 ha hn
      have AY := against_all n y n1 n2 y1 y2
      have hcd := Flt.cmp3_mono (x := n * ((2 ^ Flt.K : Nat) : Int)) (Flt.sv_mono y6)
      have z1 := Flt.ord_eq ha (show 0 < 18446744073709551616 by decide)
      have z2 := Flt.ord_eq y1 (show 0 < 18446744073709551616 by decide)
      rw [hn, show Flt.isNan 0 = false from by decide, show Flt.key 0 = 0 from by decide] at z1
      rw [y2, show Flt.isNan 0 = false from by decide, show Flt.key 0 = 0 from by decide] at z2
      simp only [Bool.not_false, Bool.true_and] at z1 z2
      have i1 := Flt.ord_eq ha (show 9218868437227405312 < 18446744073709551616 by decide)
      rw [hn, show Flt.isNan 9218868437227405312 = false from by decide, Flt.key_small (a := 9218868437227405312) (by decide)] at i1
      have hki : Flt.key a < 9218868437227405312 := by
        rw [Flt.key_eq]
        unfold Flt.neg Flt.rung at *
        by_cases s1 : 9223372036854775808 ≤ a
        · rw [decide_eq_true s1, if_pos rfl]; omega
        · rw [decide_eq_false s1, if_neg (by decide)]; omega
      simp only [Bool.not_false, Bool.true_and] at i1
      rw [show decide (Flt.key a = ((9218868437227405312 : Nat) : Int)) = false from by rw [decide_eq_false_iff_not]; omega] at i1
      have N1 := isnan_any a ha
      rw [hn] at N1
      by_cases hz : Flt.key a = 0
      · rw [decide_eq_true hz] at z1
        exact core1 a y 1 n _ _ _ (by omega) (by omega) hcd ho I (key_any a ha) FX OX (fun w => next_core0 a i1 z1 N1 w) AX AY z1 w hT
      · rw [decide_eq_false hz] at z1
        have g1 := Flt.ord_gt (show 9218868437227405312 < 18446744073709551616 by decide) ha
        rw [hn, show Flt.isNan 9218868437227405312 = false from by decide, Flt.key_small (a := 9218868437227405312) (by decide)] at g1
        simp only [Bool.not_false, Bool.true_and] at g1
        rw [show decide (Flt.key a < ((9218868437227405312 : Nat) : Int)) = true from by rw [decide_eq_true_eq]; omega] at g1
        have g2 := Flt.ord_gt ha (show 0 < 18446744073709551616 by decide)
        rw [hn, show Flt.isNan 0 = false from by decide, show Flt.key 0 = 0 from by decide] at g2
        simp only [Bool.not_false, Bool.true_and] at g2
        have hke := Flt.key_eq a
        have hzy : (y : Int) = if 0 < Flt.key a then (a : Int) + 1 else (a : Int) - 1 := by
          unfold Flt.key Flt.rung at hz ⊢
          by_cases s1 : 9223372036854775808 ≤ a
          · rw [if_pos s1] at hz ⊢
            rw [if_neg (by omega)]; omega
          · rw [if_neg s1] at hz ⊢
            rw [if_pos (by omega)]; omega
        have ha1 : 1 ≤ a := by
          rcases Nat.eq_zero_or_pos a with e | e
          · subst e; exact absurd (by decide) hz
          · exact e
        have ha2 : a < 18446744073709551615 := by unfold Flt.rung at hr; omega
        have NX := fun w => next_core a y _ i1 z1 g1 g2 (fun h => by rw [hzy, if_pos (of_decide_eq_true h)]) (fun h => by rw [hzy, if_neg (of_decide_eq_false h)]) ha1 ha2 N1 w
        by_cases hyz : Flt.key y = 0
        · rw [decide_eq_true hyz] at z2
          exact core2 a y y n _ _ _ (by omega) (by omega) hcd ho I (key_any a ha) FX OX NX AX AY z1 z2 w hT
        · rw [decide_eq_false hyz] at z2
          have SX := same_any y y
          rw [decide_eq_true rfl] at SX
          exact core3 a y y n _ _ _ (by omega) (by omega) hcd ho I (key_any a ha) FX OX NX AX AY z1 z2 SX w hT
  · rw [hn] at ho
    exact early a n true ho (fun h => by cases h) w hT
end Go.Proofs.YtpnbjofddlbagaaDoor.NumSteps
