import Derived.Test.YtnjlcdemfdokoaaGreatDoorA1
import Derived.Test.YtnjlcdemfdokoaaGreatDoorA2
namespace Go.Proofs.YtnjlcdemfdokoaaGreatDoor
open Go Go.RowKit
theorem sign_any (x y : Int) (w : World) : Calls Tryz.prog 117 #[.int .i64 x, .int .i64 y] w fun e w' => e = .returned (.int .i64 (Flt.cmp3 x y)) ∧ w = w' := by
  go_enter Tryz.func117, Tryz.ntmps117
  go_wp2
  all_goals go_ret
  all_goals exact ⟨ret_int (by unfold Flt.cmp3; (repeat' split) <;> omega), rfl⟩
/-- against a number that is not whole -/
def btw (n : Int) (s : Bool) (l : Nat) : Int := if n ≤ (if s = true then -(l : Int) - 1 else (l : Int)) then -1 else 1
theorem btw_f (n : Int) (l : Nat) : btw n false l = if n ≤ (l : Int) then -1 else 1 := by unfold btw; simp
theorem btw_t (n : Int) (l : Nat) : btw n true l = if n ≤ -(l : Int) - 1 then -1 else 1 := by unfold btw; simp
theorem between_any (n : Int) (s : Bool) (m d : Nat) (n1 : -9223372036854775808 ≤ n) (n2 : n ≤ 9223372036854775807) (hm : m < 9007199254740992) (d1 : 1 ≤ d) (d2 : d ≤ 1074) (w : World) :
    Calls Tryz.prog 118 #[.int .i64 n, .bool s, .int .i64 (m : Int), .int .i64 (-(d : Int))] w fun e w' => e = .returned (.int .i64 (btw n s (m / 2 ^ d))) ∧ w = w' := by
  obtain ⟨l, hl⟩ : ∃ l, m / 2 ^ d = l := ⟨_, rfl⟩
  have hl2 : l < 9007199254740992 := by rw [← hl]; exact Nat.lt_of_le_of_lt (Nat.div_le_self _ _) hm
  rw [hl]
  by_cases hd : d < 63
  · have hsh : (m : Int) / 2 ^ d = (l : Int) := by rw [← hl]; simp
    have t1 : decide (-63 < -(d : Int)) = true := by simp; omega
    clear hl
    cases s
    · by_cases hn : n ≤ (l : Int)
      all_goals
        go_enter Tryz.func118, Tryz.ntmps118
        go_wp2
        go_ret
        exact ⟨ret_int (by first | (rw [btw_f, if_pos (by omega)]; done) | (rw [btw_f, if_neg (by omega)]; done)), rfl⟩
    · by_cases hn : n ≤ -(l : Int) - 1
      all_goals
        go_enter Tryz.func118, Tryz.ntmps118
        go_wp2
        go_ret
        exact ⟨ret_int (by first | (rw [btw_t, if_pos (by omega)]; done) | (rw [btw_t, if_neg (by omega)]; done)), rfl⟩
  · have h0 : l = 0 := by
      rw [← hl]
      apply Nat.div_eq_of_lt
      have : 2 ^ 63 ≤ 2 ^ d := Nat.pow_le_pow_right (by decide) (by omega)
      have e : (2 : Nat) ^ 63 = 9223372036854775808 := by decide
      omega
    have t1 : decide (-63 < -(d : Int)) = false := by simp; omega
    subst h0
    clear hl
    cases s
    · by_cases hn : n ≤ 0
      all_goals
        go_enter Tryz.func118, Tryz.ntmps118
        go_wp2
        go_ret
        exact ⟨ret_int (by first | (rw [btw_f, if_pos (by omega)]; done) | (rw [btw_f, if_neg (by omega)]; done)), rfl⟩
    · by_cases hn : n ≤ -1
      all_goals
        go_enter Tryz.func118, Tryz.ntmps118
        go_wp2
        go_ret
        exact ⟨ret_int (by first | (rw [btw_t, if_pos (by omega)]; done) | (rw [btw_t, if_neg (by omega)]; done)), rfl⟩
end Go.Proofs.YtnjlcdemfdokoaaGreatDoor
namespace Go.Proofs.YtnjlcdemfdokoaaGreatDoor
open Go Go.RowKit
set_option linter.unusedVariables false
set_option maxHeartbeats 4000000 in
theorem rag_norm (n : Int) (a : Nat) (s : Bool) (F f : Int) (m0 : Nat) (e0 : Int) (n1 : -9223372036854775808 ≤ n) (n2 : n ≤ 9223372036854775807) (F1 : 1 ≤ F) (F2 : F ≤ 1085)
    (f1 : 0 ≤ f) (f2 : f < 4503599627370496) (hm1 : 0 < m0) (hm2 : m0 < 9007199254740992) (he1 : -1074 ≤ e0) (he2 : e0 ≤ 10) (hm0 : f + 4503599627370496 = (m0 : Int)) (he0 : F - 1075 = e0) (R : Int)
    (hodd : ∀ d m : Nat, 1 ≤ d → d ≤ 1074 → m % 2 = 1 → m * 2 ^ ((-(d : Int)) - e0).toNat = m0 → e0 ≤ -(d : Int) → btw n s (m / 2 ^ d) = R)
    (heven : ∀ m : Nat, ∀ e : Nat, (e : Int) = 0 ∨ (e : Int) = e0 → m * 2 ^ ((e : Int) - e0).toNat = m0 → e0 ≤ (e : Int) → Flt.cmp3 n (if s = true then -((m * 2 ^ e : Nat) : Int) else ((m * 2 ^ e : Nat) : Int)) = R)
    (PT : ∀ w, Calls Tryz.prog 106 #[.float .f64 a] w fun e w' => e = .returned (.tuple #[.bool s, .int .i64 F, .int .i64 f]) ∧ w = w') (w : World) :
    Calls Tryz.prog 88 #[.int .i64 n, .float .f64 a] w fun e w' => e = .returned (.tuple #[.int .i64 R, .bool true]) ∧ w = w' := by
  have HO := Lib.hid hodd
  have HE := Lib.hid heven
  clear hodd heven
  have g1 : (F == 2047) = false := by rw [beq_eq_false_iff_ne]; omega
  have g2 : (F == 1086) = false := by rw [beq_eq_false_iff_ne]; omega
  have g3 : (F == 0) = false := by rw [beq_eq_false_iff_ne]; omega
  have HM := Lib.hid hm0
  have HF := Lib.hid he0
  clear hm0 he0
  cases s
  all_goals
    go_enter Tryz.func88, Tryz.ntmps88
    go_wp2_with (go_at_call 106; refine (PT _).mono ?_; rintro e w' ⟨rfl, rfl⟩)
    rw [HM.out, HF.out]
    go_loop [7, 8] (fun t7 t8 => ∃ (e : Int) (m : Nat), t7 = .int .i64 e ∧ t8 = .int .i64 (m : Int) ∧ e0 ≤ e ∧ (e ≤ 0 ∨ e = e0) ∧ m < 9007199254740992 ∧ Hid (m * 2 ^ (e - e0).toNat = m0)) (fun t7 _ => (-(intOf t7)).toNat)
    case atStart => exact ⟨e0, m0, rfl, rfl, by omega, by omega, hm2, Lib.hid (by simp)⟩
    case round =>
      obtain ⟨e, m, rfl, rfl, q1, q2, q3, hinv⟩ := hrel
      by_cases hneg : e < 0
      · by_cases hodd : m % 2 = 1
        · obtain ⟨d, rfl⟩ : ∃ d : Nat, e = -(d : Int) := ⟨(-e).toNat, by omega⟩
          have ho := HO.out d m (by omega) (by omega) hodd hinv.out (by omega)
          have HR := Lib.hid ho
          have hb : ((m : Int) % 2 == 1) = true := by simp; omega
          clear ho hodd q2
          go_wp2_with (go_at_call 118; refine (between_any n _ m d n1 n2 q3 (by omega) (by omega) _).mono ?_; rintro e w' ⟨rfl, rfl⟩)
          go_ret2
          exact ⟨ret_tup2 (val_int HR.out) rfl, rfl⟩
        · have hb : ((m : Int) % 2 == 1) = false := by simp; omega
          have hq : m = 2 * (m / 2) := by omega
          have hi : (m / 2) * 2 ^ (e + 1 - e0).toNat = m0 := by
            rw [show (e + 1 - e0).toNat = (e - e0).toNat + 1 from by omega, Nat.pow_succ, Nat.mul_comm (2 ^ _) 2, ← Nat.mul_assoc, Nat.mul_comm (m / 2) 2, ← hq]
            exact hinv.out
          have HI := Lib.hid hi
          clear hi hq hodd
          go_wp2
          go_round
          case rel => exact ⟨e + 1, m / 2, rfl, by go_num, by omega, by omega, by omega, HI⟩
          case measure => simp [intOf]; omega
      · obtain ⟨d, rfl⟩ : ∃ d : Nat, e = (d : Int) := ⟨e.toNat, by omega⟩
        have hr := HE.out m d (by omega) hinv.out q1
        have HR := Lib.hid hr
        have hlt : m * 2 ^ d < 9223372036854775808 := by
          have : 2 ^ d ≤ 2 ^ 10 := Nat.pow_le_pow_right (by decide) (by omega)
          have e : (2 : Nat) ^ 10 = 1024 := by decide
          have : m * 2 ^ d ≤ m * 1024 := Nat.mul_le_mul_left _ (by omega)
          omega
        clear hr
        obtain ⟨v, hv⟩ : ∃ v, m * 2 ^ d = v := ⟨_, rfl⟩
        rw [hv] at HR hlt
        have hv2 : (m : Int) * 2 ^ d = (v : Int) := by rw [← hv]; simp
        clear hv
        go_wp2_with fail
        refine (sign_any _ _ _).mono ?_; rintro e w' ⟨rfl, rfl⟩
        go_wp2_with fail
        go_ret2
        refine ⟨ret_tup2 (val_int (Eq.trans ?_ HR.out)) rfl, rfl⟩
        congr 1
set_option maxHeartbeats 4000000 in
theorem rag_sub (n : Int) (a : Nat) (s : Bool) (F f : Int) (m0 : Nat) (e0 : Int) (n1 : -9223372036854775808 ≤ n) (n2 : n ≤ 9223372036854775807) (F1 : F = 0) (f3 : 0 < f)
    (f1 : 0 ≤ f) (f2 : f < 4503599627370496) (hm1 : 0 < m0) (hm2 : m0 < 9007199254740992) (he1 : -1074 ≤ e0) (he2 : e0 ≤ 10) (hm0 : f = (m0 : Int)) (he0 : (-1074 : Int) = e0) (R : Int)
    (hodd : ∀ d m : Nat, 1 ≤ d → d ≤ 1074 → m % 2 = 1 → m * 2 ^ ((-(d : Int)) - e0).toNat = m0 → e0 ≤ -(d : Int) → btw n s (m / 2 ^ d) = R)
    (heven : ∀ m : Nat, ∀ e : Nat, (e : Int) = 0 ∨ (e : Int) = e0 → m * 2 ^ ((e : Int) - e0).toNat = m0 → e0 ≤ (e : Int) → Flt.cmp3 n (if s = true then -((m * 2 ^ e : Nat) : Int) else ((m * 2 ^ e : Nat) : Int)) = R)
    (PT : ∀ w, Calls Tryz.prog 106 #[.float .f64 a] w fun e w' => e = .returned (.tuple #[.bool s, .int .i64 F, .int .i64 f]) ∧ w = w') (w : World) :
    Calls Tryz.prog 88 #[.int .i64 n, .float .f64 a] w fun e w' => e = .returned (.tuple #[.int .i64 R, .bool true]) ∧ w = w' := by
  have HO := Lib.hid hodd
  have HE := Lib.hid heven
  clear hodd heven
  subst F1
  have g3 : (f == 0) = false := by rw [beq_eq_false_iff_ne]; omega
  have g4 : (f != 0) = true := by rw [bne_iff_ne]; omega
  have HM := Lib.hid hm0
  have HF := Lib.hid he0
  clear hm0 he0
  cases s
  all_goals
    go_enter Tryz.func88, Tryz.ntmps88
    go_wp2_with (go_at_call 106; refine (PT _).mono ?_; rintro e w' ⟨rfl, rfl⟩)
    rw [HM.out, HF.out]
    go_loop [7, 8] (fun t7 t8 => ∃ (e : Int) (m : Nat), t7 = .int .i64 e ∧ t8 = .int .i64 (m : Int) ∧ e0 ≤ e ∧ (e ≤ 0 ∨ e = e0) ∧ m < 9007199254740992 ∧ Hid (m * 2 ^ (e - e0).toNat = m0)) (fun t7 _ => (-(intOf t7)).toNat)
    case atStart => exact ⟨e0, m0, rfl, rfl, by omega, by omega, hm2, Lib.hid (by simp)⟩
    case round =>
      obtain ⟨e, m, rfl, rfl, q1, q2, q3, hinv⟩ := hrel
      by_cases hneg : e < 0
      · by_cases hodd : m % 2 = 1
        · obtain ⟨d, rfl⟩ : ∃ d : Nat, e = -(d : Int) := ⟨(-e).toNat, by omega⟩
          have ho := HO.out d m (by omega) (by omega) hodd hinv.out (by omega)
          have HR := Lib.hid ho
          have hb : ((m : Int) % 2 == 1) = true := by simp; omega
          clear ho hodd q2
          go_wp2_with (go_at_call 118; refine (between_any n _ m d n1 n2 q3 (by omega) (by omega) _).mono ?_; rintro e w' ⟨rfl, rfl⟩)
          go_ret2
          exact ⟨ret_tup2 (val_int HR.out) rfl, rfl⟩
        · have hb : ((m : Int) % 2 == 1) = false := by simp; omega
          have hq : m = 2 * (m / 2) := by omega
          have hi : (m / 2) * 2 ^ (e + 1 - e0).toNat = m0 := by
            rw [show (e + 1 - e0).toNat = (e - e0).toNat + 1 from by omega, Nat.pow_succ, Nat.mul_comm (2 ^ _) 2, ← Nat.mul_assoc, Nat.mul_comm (m / 2) 2, ← hq]
            exact hinv.out
          have HI := Lib.hid hi
          clear hi hq hodd
          go_wp2
          go_round
          case rel => exact ⟨e + 1, m / 2, rfl, by go_num, by omega, by omega, by omega, HI⟩
          case measure => simp [intOf]; omega
      · obtain ⟨d, rfl⟩ : ∃ d : Nat, e = (d : Int) := ⟨e.toNat, by omega⟩
        have hr := HE.out m d (by omega) hinv.out q1
        have HR := Lib.hid hr
        have hlt : m * 2 ^ d < 9223372036854775808 := by
          have : 2 ^ d ≤ 2 ^ 10 := Nat.pow_le_pow_right (by decide) (by omega)
          have e : (2 : Nat) ^ 10 = 1024 := by decide
          have : m * 2 ^ d ≤ m * 1024 := Nat.mul_le_mul_left _ (by omega)
          omega
        clear hr
        obtain ⟨v, hv⟩ : ∃ v, m * 2 ^ d = v := ⟨_, rfl⟩
        rw [hv] at HR hlt
        have hv2 : (m : Int) * 2 ^ d = (v : Int) := by rw [← hv]; simp
        clear hv
        go_wp2_with fail
        refine (sign_any _ _ _).mono ?_; rintro e w' ⟨rfl, rfl⟩
        go_wp2_with fail
        go_ret2
        refine ⟨ret_tup2 (val_int (Eq.trans ?_ HR.out)) rfl, rfl⟩
        congr 1
end Go.Proofs.YtnjlcdemfdokoaaGreatDoor
namespace Go.Proofs.YtnjlcdemfdokoaaGreatDoor
open Go Go.RowKit
theorem rag_nan (n : Int) (a : Nat) (s : Bool) (F f : Int) (g1 : (F == 2047) = true) (g2 : (f != 0) = true) (PT : ∀ w, Calls Tryz.prog 106 #[.float .f64 a] w fun e w' => e = .returned (.tuple #[.bool s, .int .i64 F, .int .i64 f]) ∧ w = w') (w : World) :
    Calls Tryz.prog 88 #[.int .i64 n, .float .f64 a] w fun e w' => e = .returned (.tuple #[.int .i64 0, .bool false]) ∧ w = w' := by
  go_enter Tryz.func88, Tryz.ntmps88
  go_wp2_with (go_at_call 106; refine (PT _).mono ?_; rintro e w' ⟨rfl, rfl⟩)
  go_ret2
  exact ⟨rfl, rfl⟩
theorem rag_m63 (n : Int) (a : Nat) (PT : ∀ w, Calls Tryz.prog 106 #[.float .f64 a] w fun e w' => e = .returned (.tuple #[.bool true, .int .i64 1086, .int .i64 0]) ∧ w = w') (w : World) :
    Calls Tryz.prog 88 #[.int .i64 n, .float .f64 a] w fun e w' => e = .returned (.tuple #[.int .i64 (Flt.cmp3 n (-9223372036854775808)), .bool true]) ∧ w = w' := by
  go_enter Tryz.func88, Tryz.ntmps88
  go_wp2_with (first | (go_at_call 106; refine (PT _).mono ?_; rintro e w' ⟨rfl, rfl⟩) | (go_at_call 117; refine (sign_any _ _ _).mono ?_; rintro e w' ⟨rfl, rfl⟩))
  go_ret2
  exact ⟨rfl, rfl⟩
theorem rag_zero (n : Int) (a : Nat) (s : Bool) (PT : ∀ w, Calls Tryz.prog 106 #[.float .f64 a] w fun e w' => e = .returned (.tuple #[.bool s, .int .i64 0, .int .i64 0]) ∧ w = w') (w : World) :
    Calls Tryz.prog 88 #[.int .i64 n, .float .f64 a] w fun e w' => e = .returned (.tuple #[.int .i64 (Flt.cmp3 n 0), .bool true]) ∧ w = w' := by
  cases s
  all_goals
    go_enter Tryz.func88, Tryz.ntmps88
    go_wp2_with (first | (go_at_call 106; refine (PT _).mono ?_; rintro e w' ⟨rfl, rfl⟩) | (go_at_call 117; refine (sign_any _ _ _).mono ?_; rintro e w' ⟨rfl, rfl⟩))
    go_ret2
    exact ⟨rfl, rfl⟩
theorem rag_bigP (n : Int) (a : Nat) (F f : Int) (b1 b2 : Bool) (g1 : (F == 2047) = b1) (g2 : (f != 0) = b2) (g3 : (b1 && b2) = false) (g4 : 1086 ≤ F)
    (PT : ∀ w, Calls Tryz.prog 106 #[.float .f64 a] w fun e w' => e = .returned (.tuple #[.bool false, .int .i64 F, .int .i64 f]) ∧ w = w') (w : World) :
    Calls Tryz.prog 88 #[.int .i64 n, .float .f64 a] w fun e w' => e = .returned (.tuple #[.int .i64 (-1), .bool true]) ∧ w = w' := by
  cases b1 <;> cases b2
  case true.true => cases g3
  all_goals
    clear g3
    go_enter Tryz.func88, Tryz.ntmps88
    go_wp2_with (go_at_call 106; refine (PT _).mono ?_; rintro e w' ⟨rfl, rfl⟩)
    go_ret2
    exact ⟨rfl, rfl⟩
theorem rag_bigM (n : Int) (a : Nat) (F f : Int) (b1 b2 b3 b4 : Bool) (g1 : (F == 2047) = b1) (g2 : (f != 0) = b2) (g3 : (b1 && b2) = false) (g4 : 1086 ≤ F) (g5 : (F == 1086) = b3) (g6 : (f == 0) = b4) (g7 : (b3 && b4) = false)
    (PT : ∀ w, Calls Tryz.prog 106 #[.float .f64 a] w fun e w' => e = .returned (.tuple #[.bool true, .int .i64 F, .int .i64 f]) ∧ w = w') (w : World) :
    Calls Tryz.prog 88 #[.int .i64 n, .float .f64 a] w fun e w' => e = .returned (.tuple #[.int .i64 1, .bool true]) ∧ w = w' := by
  have h8 : b4 = !b2 := by rw [← g2, ← g6]; simp [bne]
  subst h8
  cases b1 <;> cases b2 <;> cases b3
  case true.true.true => cases g3
  case true.true.false => cases g3
  case true.false.true => cases g7
  case false.false.true => cases g7
  all_goals
    clear g3 g7
    simp only [Bool.not_false, Bool.not_true] at g6
    go_enter Tryz.func88, Tryz.ntmps88
    go_wp2_with (go_at_call 106; refine (PT _).mono ?_; rintro e w' ⟨rfl, rfl⟩)
    go_ret2
    exact ⟨rfl, rfl⟩
theorem trunc_whole {a : Nat} (ha : a < 18446744073709551616) (h : Flt.V (Flt.rung a) = Flt.whole (Flt.rung a) * 2 ^ Flt.K) : Flt.trunc a = a := by
  have e : Flt.wrung (Flt.rung a) = Flt.rung a := Flt.V_inj (by rw [Flt.V_wrung, h])
  unfold Flt.trunc Flt.neg
  rw [e]
  unfold Flt.rung
  by_cases hs : 9223372036854775808 ≤ a
  · rw [decide_eq_true hs, if_pos rfl]; omega
  · rw [decide_eq_false hs, if_neg (by decide)]; omega
theorem agn_whole (n : Int) {a : Nat} (ha : a < 18446744073709551616) (h : Flt.V (Flt.rung a) = Flt.whole (Flt.rung a) * 2 ^ Flt.K) : agn n a = Flt.cmp3 n (Flt.wholeInt a) := by
  unfold agn
  rw [trunc_whole ha h]
  split
  · rename_i h0
    rw [h0]
    unfold Flt.cmp3
    rw [if_neg (by omega), if_neg (by omega)]
  · rfl
theorem agn_part (n : Int) {a : Nat} (hr : Flt.rung a < 9218868437227405312) (h : Flt.V (Flt.rung a) ≠ Flt.whole (Flt.rung a) * 2 ^ Flt.K) : agn n a = btw n (Flt.neg a) (Flt.whole (Flt.rung a)) := by
  have h1 : Flt.wrung (Flt.rung a) < Flt.rung a := by
    apply Flt.V_lt_iff.1
    rw [Flt.V_wrung]
    have : Flt.whole (Flt.rung a) * 2 ^ Flt.K ≤ Flt.V (Flt.rung a) := Nat.div_mul_le_self _ _
    omega
  have hwl := Flt.wrung_lt hr
  have hrt := Flt.rung_trunc hr
  have hnt := Flt.neg_trunc hr
  have hk : Flt.key (Flt.trunc a) = if Flt.neg a = true then -((Flt.wrung (Flt.rung a) : Nat) : Int) else (Flt.wrung (Flt.rung a) : Nat) := by
    unfold Flt.key
    rw [hrt]
    unfold Flt.neg at hnt ⊢
    by_cases hs : 9223372036854775808 ≤ a
    · rw [decide_eq_true hs] at hnt ⊢
      rw [if_pos (of_decide_eq_true hnt), if_pos rfl]
    · rw [decide_eq_false hs] at hnt ⊢
      rw [if_neg (of_decide_eq_false hnt), if_neg (by decide)]
  have hka : Flt.key a = if Flt.neg a = true then -((Flt.rung a : Nat) : Int) else (Flt.rung a : Nat) := by
    unfold Flt.key Flt.neg
    by_cases hs : 9223372036854775808 ≤ a
    · rw [if_pos hs, decide_eq_true hs, if_pos rfl]
    · rw [if_neg hs, decide_eq_false hs, if_neg (by decide)]
  unfold agn
  rw [hk, hka]
  unfold Flt.wholeInt
  generalize Flt.whole (Flt.rung a) = l
  cases Flt.neg a
  · rw [btw_f]
    simp only [Bool.false_eq_true, if_false]
    unfold Flt.cmp3
    (repeat' split) <;> omega
  · rw [btw_t]
    simp only [if_true]
    unfold Flt.cmp3
    (repeat' split) <;> omega
/-- the document's Against, of every float -/
theorem ragainst_mid (n : Int) (a : Nat) (n1 : -9223372036854775808 ≤ n) (n2 : n ≤ 9223372036854775807) (ha : a < 18446744073709551616) (hr : Flt.rung a < 4890909195324358656) (w : World) :
    Calls Tryz.prog 88 #[.int .i64 n, .float .f64 a] w fun e w' => e = .returned (.tuple #[.int .i64 (agn n a), .bool true]) ∧ w = w' := by
  have PT := parts_any a ha
  have hF : Flt.field a = Flt.rung a / 4503599627370496 := by unfold Flt.field Flt.rung; omega
  have hf : Flt.frac a = Flt.rung a % 4503599627370496 := by unfold Flt.frac Flt.rung; omega
  rw [hF, hf] at PT
  have hK := Flt.K_eq
  by_cases h0 : Flt.rung a = 0
  · rw [h0] at PT
    have h1 := rag_zero n a (Flt.neg a) PT w
    have h2 : agn n a = Flt.cmp3 n 0 := by
      rw [agn_whole n ha (by rw [h0]; unfold Flt.whole; rw [Flt.V_zero]; simp)]
      congr 1
      unfold Flt.wholeInt Flt.whole
      rw [h0, Flt.V_zero]
      simp
    rw [h2]
    exact h1
  · -- V r is m0 times 2 to the power of e0 + 1074
    have main : ∀ (m0 : Nat) (e0 : Int), -1074 ≤ e0 → Flt.V (Flt.rung a) = m0 * 2 ^ (e0 + 1074).toNat →
        (∀ d m : Nat, 1 ≤ d → d ≤ 1074 → m % 2 = 1 → m * 2 ^ ((-(d : Int)) - e0).toNat = m0 → e0 ≤ -(d : Int) → btw n (Flt.neg a) (m / 2 ^ d) = agn n a) ∧
        (∀ m : Nat, ∀ e : Nat, (e : Int) = 0 ∨ (e : Int) = e0 → m * 2 ^ ((e : Int) - e0).toNat = m0 → e0 ≤ (e : Int) → Flt.cmp3 n (if Flt.neg a = true then -((m * 2 ^ e : Nat) : Int) else ((m * 2 ^ e : Nat) : Int)) = agn n a) := by
      intro m0 e0 he hV
      constructor
      · intro d m d1 d2 hodd hm hle
        have hV2 : Flt.V (Flt.rung a) = m * 2 ^ (Flt.K - d) := by
          rw [hV, ← hm, Nat.mul_assoc, ← Nat.pow_add, show (-(d : Int) - e0).toNat + (e0 + 1074).toNat = Flt.K - d from by omega]
        have hK2 : (2 : Nat) ^ Flt.K = 2 ^ d * 2 ^ (Flt.K - d) := by rw [← Nat.pow_add]; congr 1; omega
        have hw : Flt.whole (Flt.rung a) = m / 2 ^ d := by
          unfold Flt.whole
          rw [hV2, hK2, Nat.mul_div_mul_right _ _ (Nat.pow_pos (by decide))]
        have hne : Flt.V (Flt.rung a) ≠ Flt.whole (Flt.rung a) * 2 ^ Flt.K := by
          rw [hV2, hK2, ← Nat.mul_assoc]
          intro e
          have e2 := Nat.eq_of_mul_eq_mul_right (Nat.pow_pos (by decide)) e
          obtain ⟨d', rfl⟩ : ∃ d', d = d' + 1 := ⟨d - 1, by omega⟩
          rw [Nat.pow_succ, ← Nat.mul_assoc] at e2
          omega
        rw [agn_part n (by omega) hne, hw]
      · intro m e hee hm hle
        have hV2 : Flt.V (Flt.rung a) = m * 2 ^ e * 2 ^ Flt.K := by
          rw [hV, ← hm, Nat.mul_assoc, ← Nat.pow_add, Nat.mul_assoc, ← Nat.pow_add, show ((e : Int) - e0).toNat + (e0 + 1074).toNat = e + Flt.K from by omega]
        have hw : Flt.whole (Flt.rung a) = m * 2 ^ e := by
          unfold Flt.whole
          rw [hV2, Nat.mul_div_cancel _ (Nat.pow_pos (by decide))]
        rw [agn_whole n ha (by rw [hw, hV2])]
        unfold Flt.wholeInt
        rw [hw]
    by_cases hs : Flt.rung a < 4503599627370496
    · have e1 : Flt.rung a / 4503599627370496 = 0 := by omega
      have e2 : Flt.rung a % 4503599627370496 = Flt.rung a := by omega
      rw [e1, e2] at PT
      have hV : Flt.V (Flt.rung a) = Flt.rung a * 2 ^ ((-1074 : Int) + 1074).toNat := by
        unfold Flt.V Flt.mant Flt.xp
        rw [if_pos hs, e1]
        simp
      obtain ⟨m1, m2⟩ := main (Flt.rung a) (-1074) (by omega) hV
      exact rag_sub n a (Flt.neg a) 0 (Flt.rung a : Nat) (Flt.rung a) (-1074) n1 n2 rfl (by omega) (by omega) (by omega) (by omega) (by omega) (by omega) (by omega) rfl rfl (agn n a) m1 m2 PT w
    · have hx : ((Flt.rung a / 4503599627370496 : Nat) : Int) - 1075 + 1074 = (Flt.xp (Flt.rung a) : Nat) := by unfold Flt.xp; omega
      have hV : Flt.V (Flt.rung a) = (Flt.rung a % 4503599627370496 + 4503599627370496) * 2 ^ (((Flt.rung a / 4503599627370496 : Nat) : Int) - 1075 + 1074).toNat := by
        rw [hx]
        unfold Flt.V Flt.mant
        rw [if_neg hs, Nat.add_comm, Int.toNat_natCast]
      obtain ⟨m1, m2⟩ := main _ _ (by omega) hV
      exact rag_norm n a (Flt.neg a) _ _ (Flt.rung a % 4503599627370496 + 4503599627370496) _ n1 n2 (by omega) (by omega) (by omega) (by omega) (by omega) (by omega) (by omega) (by omega) (by omega) rfl (agn n a) m1 m2 PT w
end Go.Proofs.YtnjlcdemfdokoaaGreatDoor
namespace Go.Proofs.YtnjlcdemfdokoaaGreatDoor
open Go Go.RowKit
namespace Flt
/-- what a float stands for, with its sign, in units of the least place -/
def sv (a : Nat) : Int := if neg a = true then -((V (rung a) : Nat) : Int) else (V (rung a) : Nat)
theorem cmp3_lt {x y : Int} (h : x < y) : cmp3 x y = -1 := by unfold cmp3; rw [if_pos h]
theorem cmp3_gt {x y : Int} (h : y < x) : cmp3 x y = 1 := by unfold cmp3; rw [if_neg (by omega), if_pos h]
theorem cmp3_scale (x y : Int) (c : Nat) (hc : 0 < c) : cmp3 (x * c) (y * c) = cmp3 x y := by
  have hc' : (0 : Int) < (c : Int) := Int.ofNat_lt.2 hc
  have i1 : ∀ x y : Int, x * (c : Int) < y * (c : Int) ↔ x < y := fun x y => ⟨fun h => Int.lt_of_mul_lt_mul_right h (Int.le_of_lt hc'), fun h => Int.mul_lt_mul_of_pos_right h hc'⟩
  unfold cmp3
  simp only [i1]
theorem le_scale {x y : Int} (c : Nat) (h : x ≤ y) : x * (c : Int) ≤ y * (c : Int) := Int.mul_le_mul_of_nonneg_right h (by omega)
theorem V_mod (r : Nat) : whole r * 2 ^ K ≤ V r ∧ V r < (whole r + 1) * 2 ^ K := by
  unfold whole
  have hp : 0 < 2 ^ K := Nat.pow_pos (by decide)
  have h1 := Nat.div_mul_le_self (V r) (2 ^ K)
  have h2 := Nat.lt_div_mul_add hp (a := V r)
  refine ⟨h1, ?_⟩
  rw [Nat.add_mul]
  omega
theorem V_63 : V 4890909195324358656 = 9223372036854775808 * 2 ^ K := by
  have e1 : mant 4890909195324358656 = 4503599627370496 := by decide
  have e2 : xp 4890909195324358656 = 1085 := by decide
  unfold V
  rw [e1, e2, show (1085 : Nat) = 11 + K from by rw [K_eq], Nat.pow_add, ← Nat.mul_assoc]
theorem key_eq (a : Nat) : key a = if neg a = true then -((rung a : Nat) : Int) else (rung a : Nat) := by
  unfold key neg
  by_cases hs : 9223372036854775808 ≤ a
  · rw [if_pos hs, decide_eq_true hs, if_pos rfl]
  · rw [if_neg hs, decide_eq_false hs, if_neg (by decide)]
theorem sv_mono {a b : Nat} (h : key a ≤ key b) : sv a ≤ sv b := by
  rw [key_eq, key_eq] at h
  unfold sv
  have m : ∀ r s : Nat, r ≤ s → V r ≤ V s := fun r s h => by
    rcases Nat.lt_or_eq_of_le h with h | h
    · exact Nat.le_of_lt (V_lt h)
    · rw [h]; exact Nat.le_refl _
  generalize neg a = p at *
  generalize neg b = q at *
  cases p <;> cases q <;> simp only [Bool.false_eq_true, if_false, if_true] at h ⊢
  · have := m (rung a) (rung b) (by omega); omega
  · have e1 : rung a = 0 := by omega
    have e2 : rung b = 0 := by omega
    rw [e1, e2, V_zero]; omega
  · omega
  · have := m (rung b) (rung a) (by omega); omega
theorem cmp3_mono {x y z : Int} (h : y ≤ z) : cmp3 x z ≤ cmp3 x y := by
  unfold cmp3
  (repeat' split) <;> omega
end Flt
theorem agn_sv (n : Int) {a : Nat} (ha : a < 18446744073709551616) (hr : Flt.rung a < 9218868437227405312) : agn n a = Flt.cmp3 (n * ((2 ^ Flt.K : Nat) : Int)) (Flt.sv a) := by
  have hp : 0 < 2 ^ Flt.K := Nat.pow_pos (by decide)
  have ⟨v1, v2⟩ := Flt.V_mod (Flt.rung a)
  by_cases h : Flt.V (Flt.rung a) = Flt.whole (Flt.rung a) * 2 ^ Flt.K
  · rw [agn_whole n ha h]
    have e : Flt.sv a = Flt.wholeInt a * ((2 ^ Flt.K : Nat) : Int) := by
      unfold Flt.sv Flt.wholeInt
      rw [h]
      generalize 2 ^ Flt.K = c
      split
      · rw [Int.neg_mul]; push_cast; rfl
      · push_cast; rfl
    rw [e, Flt.cmp3_scale _ _ _ hp]
  · rw [agn_part n hr h]
    unfold Flt.sv
    generalize Flt.V (Flt.rung a) = v at *
    generalize Flt.whole (Flt.rung a) = l at *
    generalize 2 ^ Flt.K = c at *
    have hl1 : ((l : Int) * (c : Int)) < (v : Int) := by
      have : l * c < v := by omega
      have := Int.ofNat_lt.2 this
      push_cast at this
      exact this
    have hl2 : (v : Int) < ((l : Int) + 1) * (c : Int) := by
      have := Int.ofNat_lt.2 v2
      push_cast at this
      exact this
    cases Flt.neg a
    · rw [btw_f]
      simp only [Bool.false_eq_true, if_false]
      by_cases hn : n ≤ (l : Int)
      · rw [if_pos hn, Flt.cmp3_lt]
        have := Flt.le_scale c hn
        omega
      · rw [if_neg hn, Flt.cmp3_gt]
        have := Flt.le_scale c (show (l : Int) + 1 ≤ n by omega)
        omega
    · rw [btw_t]
      simp only [if_true]
      by_cases hn : n ≤ -(l : Int) - 1
      · rw [if_pos hn, Flt.cmp3_lt]
        have h3 := Flt.le_scale c (show n ≤ -((l : Int) + 1) by omega)
        rw [Int.neg_mul] at h3
        omega
      · rw [if_neg hn, Flt.cmp3_gt]
        have h3 := Flt.le_scale c (show -(l : Int) ≤ n by omega)
        rw [Int.neg_mul] at h3
        omega
theorem against_all (n : Int) (a : Nat) (n1 : -9223372036854775808 ≤ n) (n2 : n ≤ 9223372036854775807) (ha : a < 18446744073709551616) (hn : Flt.isNan a = false) (w : World) :
    Calls Tryz.prog 116 #[.int .i64 n, .float .f64 a] w fun e w' => e = .returned (.tuple #[.int .i64 (Flt.cmp3 (n * ((2 ^ Flt.K : Nat) : Int)) (Flt.sv a)), .bool true]) ∧ w = w' := by
  have hp : 0 < 2 ^ Flt.K := Nat.pow_pos (by decide)
  have hkey := Flt.key_eq a
  by_cases k1 : 4890909195324358656 ≤ Flt.key a
  · have hs : Flt.neg a = false := by
      cases h : Flt.neg a
      · rfl
      · rw [h, if_pos rfl] at hkey; omega
    rw [hs, if_neg (by decide)] at hkey
    have hV : Flt.V 4890909195324358656 ≤ Flt.V (Flt.rung a) := by
      rcases Nat.lt_or_eq_of_le (show 4890909195324358656 ≤ Flt.rung a by omega) with h | h
      · exact Nat.le_of_lt (Flt.V_lt h)
      · rw [← h]; exact Nat.le_refl _
    rw [Flt.V_63] at hV
    have e : Flt.cmp3 (n * ((2 ^ Flt.K : Nat) : Int)) (Flt.sv a) = -1 := by
      apply Flt.cmp3_lt
      unfold Flt.sv
      rw [hs, if_neg (by decide)]
      generalize Flt.V (Flt.rung a) = v at *
      generalize 2 ^ Flt.K = c at *
      have h3 := Flt.le_scale c (show n ≤ 9223372036854775807 from n2)
      omega
    rw [e]
    exact against_high n a ha hn k1 w
  · by_cases k2 : Flt.key a < -4890909195324358656
    · have hs : Flt.neg a = true := by
        cases h : Flt.neg a
        · rw [h, if_neg (by decide)] at hkey; omega
        · rfl
      rw [hs, if_pos rfl] at hkey
      have hV : Flt.V 4890909195324358656 < Flt.V (Flt.rung a) := Flt.V_lt (by omega)
      rw [Flt.V_63] at hV
      have e : Flt.cmp3 (n * ((2 ^ Flt.K : Nat) : Int)) (Flt.sv a) = 1 := by
        apply Flt.cmp3_gt
        unfold Flt.sv
        rw [hs, if_pos rfl]
        generalize Flt.V (Flt.rung a) = v at *
        generalize 2 ^ Flt.K = c at *
        have h3 := Flt.le_scale c (show -9223372036854775808 ≤ n from n1)
        omega
      rw [e]
      exact against_low n a ha hn k2 w
    · have hr := (whole_bounds (a := a) (by omega) (by omega)).1
      rw [← agn_sv n ha hr]
      exact against_mid n a ha hn (by omega) (by omega) w
/-! the next float -/
end Go.Proofs.YtnjlcdemfdokoaaGreatDoor
