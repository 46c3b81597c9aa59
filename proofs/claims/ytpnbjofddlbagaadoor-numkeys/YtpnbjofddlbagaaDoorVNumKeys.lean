/- The walk of the law NumKeys. -/
import Derived.Test.YtpnbjofddlbagaaDoorWo
import Derived.Test.YtpnbjofddlbagaaDoorWp
namespace Go.Proofs.YtpnbjofddlbagaaDoor.NumKeys
open Go Go.RowKit
set_option linter.unusedVariables false
theorem of_nat (a : Nat) (w : World) : Calls Tryd.prog 13 #[.int .u64 (a : Int)] w fun e w' => e = .returned (.float .f64 a) ∧ w = w' := of_any (a : Int) w
set_option maxHeartbeats 4000000 in
theorem coreT (a b c p q f k : Nat) (o o' : Int) (hT0 : ∀ w, Tabs w → Calls Tryd.prog 12 #[] w fun e w' => e = .returned (.bool true) ∧ Below w.heap.size w w')
    (KX : ∀ w, Calls Tryd.prog 19 #[.float .f64 a] w fun e w' => e = .returned (.int .u64 p) ∧ w = w') (KY : ∀ w, Calls Tryd.prog 19 #[.float .f64 b] w fun e w' => e = .returned (.int .u64 q) ∧ w = w')
    (O1 : ∀ w, Calls Tryd.prog 17 #[.float .f64 a, .float .f64 b] w fun e w' => e = .returned (.int .i64 o) ∧ w = w') (O2 : ∀ w, Calls Tryd.prog 17 #[.float .f64 b, .float .f64 a] w fun e w' => e = .returned (.int .i64 o') ∧ w = w')
    (F1 : ∀ w, Calls Tryd.prog 21 #[.int .u64 p] w fun e w' => e = .returned (.tuple #[.float .f64 c, .bool true]) ∧ w = w') (F2 : ∀ w, Calls Tryd.prog 21 #[.int .u64 k] w fun e w' => e = .returned (.tuple #[.float .f64 f, .bool true]) ∧ w = w')
    (CX : ∀ w, Calls Tryd.prog 15 #[.float .f64 a] w fun e w' => e = .returned (.float .f64 c) ∧ w = w') (S1 : ∀ w, Calls Tryd.prog 22 #[.float .f64 c, .float .f64 c] w fun e w' => e = .returned (.bool true) ∧ w = w')
    (KF : ∀ w, Calls Tryd.prog 19 #[.float .f64 f] w fun e w' => e = .returned (.int .u64 k) ∧ w = w')
    (ho : (p < q ∧ o = -1 ∧ o' = 1) ∨ (p = q ∧ o = 0 ∧ o' = 0) ∨ (q < p ∧ o = 1 ∧ o' = -1)) (w : World) (hT : Tabs w) :
    Calls Tryd.prog 4 #[.int .u64 (a : Int), .int .u64 (b : Int), .int .u64 (k : Int)] w fun e w' => e = .returned (.bool true) ∧ Below w.heap.size w w' := by
  rcases ho with ⟨h1, rfl, rfl⟩ | ⟨rfl, rfl, rfl⟩ | ⟨h1, rfl, rfl⟩
  all_goals
    go_enter Tryd.func4, Tryd.ntmps4
    go_wp2_with fail
    refine (hT0 _ hT).mono ?_; rintro e w1 ⟨rfl, hb1⟩
    go_wp2_with fail
    refine (of_nat a _).mono ?_; rintro e w' ⟨rfl, rfl⟩
    go_wp2_with fail
    refine (of_nat b _).mono ?_; rintro e w' ⟨rfl, rfl⟩
    go_wp2_with fail
    refine (KX _).mono ?_; rintro e w' ⟨rfl, rfl⟩
    go_wp2_with fail
    refine (KY _).mono ?_; rintro e w' ⟨rfl, rfl⟩
    go_wp2_with fail
    refine (KX _).mono ?_; rintro e w' ⟨rfl, rfl⟩
    go_wp2_with fail
    refine (KY _).mono ?_; rintro e w' ⟨rfl, rfl⟩
    go_wp2_with fail
    refine (O1 _).mono ?_; rintro e w' ⟨rfl, rfl⟩
    go_wp2_with fail
    refine (KX _).mono ?_; rintro e w' ⟨rfl, rfl⟩
    go_wp2_with fail
    refine (F1 _).mono ?_; rintro e w' ⟨rfl, rfl⟩
    go_wp2_with fail
    refine (F2 _).mono ?_; rintro e w' ⟨rfl, rfl⟩
    go_wp2_with fail
    refine (CX _).mono ?_; rintro e w' ⟨rfl, rfl⟩
    go_wp2_with fail
    refine (S1 _).mono ?_; rintro e w' ⟨rfl, rfl⟩
    go_wp2_with fail
    refine (O2 _).mono ?_; rintro e w' ⟨rfl, rfl⟩
    go_wp2_with fail
    refine (KF _).mono ?_; rintro e w' ⟨rfl, rfl⟩
    go_wp2_with fail
    go_ret
    exact ⟨rfl, hb1⟩
set_option maxHeartbeats 4000000 in
set_option maxRecDepth 100000 in
theorem coreF (a b c p q f : Nat) (k : Int) (o o' : Int) (hT0 : ∀ w, Tabs w → Calls Tryd.prog 12 #[] w fun e w' => e = .returned (.bool true) ∧ Below w.heap.size w w')
    (KX : ∀ w, Calls Tryd.prog 19 #[.float .f64 a] w fun e w' => e = .returned (.int .u64 p) ∧ w = w') (KY : ∀ w, Calls Tryd.prog 19 #[.float .f64 b] w fun e w' => e = .returned (.int .u64 q) ∧ w = w')
    (O1 : ∀ w, Calls Tryd.prog 17 #[.float .f64 a, .float .f64 b] w fun e w' => e = .returned (.int .i64 o) ∧ w = w') (O2 : ∀ w, Calls Tryd.prog 17 #[.float .f64 b, .float .f64 a] w fun e w' => e = .returned (.int .i64 o') ∧ w = w')
    (F1 : ∀ w, Calls Tryd.prog 21 #[.int .u64 p] w fun e w' => e = .returned (.tuple #[.float .f64 c, .bool true]) ∧ w = w') (F2 : ∀ w, Calls Tryd.prog 21 #[.int .u64 k] w fun e w' => e = .returned (.tuple #[.float .f64 f, .bool false]) ∧ w = w')
    (CX : ∀ w, Calls Tryd.prog 15 #[.float .f64 a] w fun e w' => e = .returned (.float .f64 c) ∧ w = w') (S1 : ∀ w, Calls Tryd.prog 22 #[.float .f64 c, .float .f64 c] w fun e w' => e = .returned (.bool true) ∧ w = w')
    (S2 : ∀ w, Calls Tryd.prog 22 #[.float .f64 f, .float .f64 0] w fun e w' => e = .returned (.bool true) ∧ w = w') (h8 : k < 4503599627370496 ∨ 18442240474082181119 < k)
    (ho : (p < q ∧ o = -1 ∧ o' = 1) ∨ (p = q ∧ o = 0 ∧ o' = 0) ∨ (q < p ∧ o = 1 ∧ o' = -1)) (w : World) (hT : Tabs w) :
    Calls Tryd.prog 4 #[.int .u64 (a : Int), .int .u64 (b : Int), .int .u64 k] w fun e w' => e = .returned (.bool true) ∧ Below w.heap.size w w' := by
  rcases h8 with h9 | h9
  all_goals rcases ho with ⟨h1, rfl, rfl⟩ | ⟨rfl, rfl, rfl⟩ | ⟨h1, rfl, rfl⟩
  all_goals
    go_enter Tryd.func4, Tryd.ntmps4
    go_wp2_with fail
    refine (hT0 _ hT).mono ?_; rintro e w1 ⟨rfl, hb1⟩
    go_wp2_with fail
    refine (of_nat a _).mono ?_; rintro e w' ⟨rfl, rfl⟩
    go_wp2_with fail
    refine (of_nat b _).mono ?_; rintro e w' ⟨rfl, rfl⟩
    go_wp2_with fail
    refine (KX _).mono ?_; rintro e w' ⟨rfl, rfl⟩
    go_wp2_with fail
    refine (KY _).mono ?_; rintro e w' ⟨rfl, rfl⟩
    go_wp2_with fail
    refine (KX _).mono ?_; rintro e w' ⟨rfl, rfl⟩
    go_wp2_with fail
    refine (KY _).mono ?_; rintro e w' ⟨rfl, rfl⟩
    go_wp2_with fail
    refine (O1 _).mono ?_; rintro e w' ⟨rfl, rfl⟩
    go_wp2_with fail
    refine (KX _).mono ?_; rintro e w' ⟨rfl, rfl⟩
    go_wp2_with fail
    refine (F1 _).mono ?_; rintro e w' ⟨rfl, rfl⟩
    go_wp2_with fail
    refine (F2 _).mono ?_; rintro e w' ⟨rfl, rfl⟩
    go_wp2_with fail
    refine (CX _).mono ?_; rintro e w' ⟨rfl, rfl⟩
    go_wp2_with fail
    refine (S1 _).mono ?_; rintro e w' ⟨rfl, rfl⟩
    go_wp2_with fail
    refine (O2 _).mono ?_; rintro e w' ⟨rfl, rfl⟩
    go_wp2_with fail
    refine (S2 _).mono ?_; rintro e w' ⟨rfl, rfl⟩
    go_wp2_with fail
    go_ret
    refine ⟨ret_bool (b := true) ?_, hb1⟩
    with_reducible rfl
theorem walk (a b k : Nat) (ha : a < 18446744073709551616) (hb : b < 18446744073709551616) (hk : k < 18446744073709551616) (w : World) (hT : Tabs w) :
    Calls Tryd.prog 4 #[.int .u64 (a : Int), .int .u64 (b : Int), .int .u64 (k : Int)] w fun e w' => e = .returned (.bool true) ∧ Below w.heap.size w w' := by
  have F1 := ofkey_any (Flt.kbits a) (Flt.kbits_lt a ha)
  rw [Flt.okb_kbits ha, Flt.kbits_canon, decide_eq_true rfl, if_pos rfl] at F1
  have F2 := ofkey_any k hk
  have hl := Flt.okb_lt hk
  have S1 := same_any (Flt.canon a) (Flt.canon a)
  rw [decide_eq_true rfl] at S1
  have ho : (Flt.kbits a < Flt.kbits b ∧ Flt.cmp3 (Flt.kbits a : Nat) (Flt.kbits b : Nat) = -1 ∧ Flt.cmp3 (Flt.kbits b : Nat) (Flt.kbits a : Nat) = 1) ∨ (Flt.kbits a = Flt.kbits b ∧ Flt.cmp3 (Flt.kbits a : Nat) (Flt.kbits b : Nat) = 0 ∧ Flt.cmp3 (Flt.kbits b : Nat) (Flt.kbits a : Nat) = 0) ∨ (Flt.kbits b < Flt.kbits a ∧ Flt.cmp3 (Flt.kbits a : Nat) (Flt.kbits b : Nat) = 1 ∧ Flt.cmp3 (Flt.kbits b : Nat) (Flt.kbits a : Nat) = -1) := by
    unfold Flt.cmp3
    rcases Nat.lt_trichotomy (Flt.kbits a) (Flt.kbits b) with h | h | h
    · left; refine ⟨h, by rw [if_pos (by omega)], by rw [if_neg (by omega), if_pos (by omega)]⟩
    · right; left; refine ⟨h, by rw [if_neg (by omega), if_neg (by omega)], by rw [if_neg (by omega), if_neg (by omega)]⟩
    · right; right; refine ⟨h, by rw [if_neg (by omega), if_pos (by omega)], by rw [if_pos (by omega)]⟩
  by_cases h : Flt.kbits (Flt.canon (Flt.okb k)) = k
  · rw [decide_eq_true h, if_pos rfl] at F2
    have KF := key_any (Flt.canon (Flt.okb k)) (Flt.canon_lt hl)
    rw [h] at KF
    exact coreT a b (Flt.canon a) (Flt.kbits a) (Flt.kbits b) _ k _ _ shown_any (key_any a ha) (key_any b hb) (order_any a b ha hb) (order_any b a hb ha) F1 F2 (canon_any a ha) S1 KF ho w hT
  · rw [decide_eq_false h, if_neg (by decide)] at F2
    have S2 := same_any 0 0
    rw [decide_eq_true rfl] at S2
    exact coreF a b (Flt.canon a) (Flt.kbits a) (Flt.kbits b) _ (k : Int) _ _ shown_any (key_any a ha) (key_any b hb) (order_any a b ha hb) (order_any b a hb ha) F1 F2 (canon_any a ha) S1 S2 (by have := Flt.okb_far hk h; omega) ho w hT
end Go.Proofs.YtpnbjofddlbagaaDoor.NumKeys
