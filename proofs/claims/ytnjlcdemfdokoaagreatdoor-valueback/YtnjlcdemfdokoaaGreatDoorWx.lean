import Derived.Test.YtnjlcdemfdokoaaGreatDoorWs
namespace Go.Proofs.YtnjlcdemfdokoaaGreatDoor
open Go Go.RowKit
set_option linter.unusedVariables false
set_option maxHeartbeats 4000000 in
theorem rag_norm (n : Int) (a : Nat) (s : Bool) (F f : Int) (m0 : Nat) (e0 : Int) (n1 : -9223372036854775808 ≤ n) (n2 : n ≤ 9223372036854775807) (F1 : 1 ≤ F) (F2 : F ≤ 1085)
    (f1 : 0 ≤ f) (f2 : f < 4503599627370496) (hm1 : 0 < m0) (hm2 : m0 < 9007199254740992) (he1 : -1074 ≤ e0) (he2 : e0 ≤ 10) (hm0 : f + 4503599627370496 = (m0 : Int)) (he0 : F - 1075 = e0) (R : Int)
    (hodd : ∀ d m : Nat, 1 ≤ d → d ≤ 1074 → m % 2 = 1 → m * 2 ^ ((-(d : Int)) - e0).toNat = m0 → e0 ≤ -(d : Int) → btw n s (m / 2 ^ d) = R)
    (heven : ∀ m : Nat, ∀ e : Nat, (e : Int) = 0 ∨ (e : Int) = e0 → m * 2 ^ ((e : Int) - e0).toNat = m0 → e0 ≤ (e : Int) → Flt.cmp3 n (if s = true then -((m * 2 ^ e : Nat) : Int) else ((m * 2 ^ e : Nat) : Int)) = R)
    (PT : ∀ w, Calls Tryz.prog 106 #[.float .f64 a] w fun e w' => e = .returned (.tuple #[.bool s, .int .i64 F, .int .i64 f]) ∧ w = w') (w : World) :
    Calls Tryz.prog 88 #[.int .i64 n, .float .f64 a] w fun e w' => e = .returned (.tuple #[.int .i64 R, .bool true]) ∧ w = w' := by
  have HO := Lib.hid hodd
  have HE := Lib.hid heven
  clear hodd heven
  have g1 : (F == 2047) = false := by rw [beq_eq_false_iff_ne]; omega
  have g2 : (F == 1086) = false := by rw [beq_eq_false_iff_ne]; omega
  have g3 : (F == 0) = false := by rw [beq_eq_false_iff_ne]; omega
  have HM := Lib.hid hm0
  have HF := Lib.hid he0
  clear hm0 he0
  cases s
  all_goals
    go_enter Tryz.func88, Tryz.ntmps88
    go_wp2_with (go_at_call 106; refine (PT _).mono ?_; rintro e w' ⟨rfl, rfl⟩)
    rw [HM.out, HF.out]
    go_loop [7, 8] (fun t7 t8 => ∃ (e : Int) (m : Nat), t7 = .int .i64 e ∧ t8 = .int .i64 (m : Int) ∧ e0 ≤ e ∧ (e ≤ 0 ∨ e = e0) ∧ m < 9007199254740992 ∧ Hid (m * 2 ^ (e - e0).toNat = m0)) (fun t7 _ => (-(intOf t7)).toNat)
    case atStart => exact ⟨e0, m0, rfl, rfl, by omega, by omega, hm2, Lib.hid (by simp)⟩
    case round =>
      obtain ⟨e, m, rfl, rfl, q1, q2, q3, hinv⟩ := hrel
      by_cases hneg : e < 0
      · by_cases hodd : m % 2 = 1
        · obtain ⟨d, rfl⟩ : ∃ d : Nat, e = -(d : Int) := ⟨(-e).toNat, by omega⟩
          have ho := HO.out d m (by omega) (by omega) hodd hinv.out (by omega)
          have HR := Lib.hid ho
          have hb : ((m : Int) % 2 == 1) = true := by simp; omega
          clear ho hodd q2
          go_wp2_with (go_at_call 118; refine (between_any n _ m d n1 n2 q3 (by omega) (by omega) _).mono ?_; rintro e w' ⟨rfl, rfl⟩)
          go_ret2
          exact ⟨ret_tup2 (val_int HR.out) rfl, rfl⟩
        · have hb : ((m : Int) % 2 == 1) = false := by simp; omega
          have hq : m = 2 * (m / 2) := by omega
          have hi : (m / 2) * 2 ^ (e + 1 - e0).toNat = m0 := by
            rw [show (e + 1 - e0).toNat = (e - e0).toNat + 1 from by omega, Nat.pow_succ, Nat.mul_comm (2 ^ _) 2, ← Nat.mul_assoc, Nat.mul_comm (m / 2) 2, ← hq]
            exact hinv.out
          have HI := Lib.hid hi
          clear hi hq hodd
          go_wp2
          go_round
          case rel => exact ⟨e + 1, m / 2, rfl, by go_num, by omega, by omega, by omega, HI⟩
          case measure => simp [intOf]; omega
      · obtain ⟨d, rfl⟩ : ∃ d : Nat, e = (d : Int) := ⟨e.toNat, by omega⟩
        have hr := HE.out m d (by omega) hinv.out q1
        have HR := Lib.hid hr
        have hlt : m * 2 ^ d < 9223372036854775808 := by
          have : 2 ^ d ≤ 2 ^ 10 := Nat.pow_le_pow_right (by decide) (by omega)
          have e : (2 : Nat) ^ 10 = 1024 := by decide
          have : m * 2 ^ d ≤ m * 1024 := Nat.mul_le_mul_left _ (by omega)
          omega
        clear hr
        obtain ⟨v, hv⟩ : ∃ v, m * 2 ^ d = v := ⟨_, rfl⟩
        rw [hv] at HR hlt
        have hv2 : (m : Int) * 2 ^ d = (v : Int) := by rw [← hv]; simp
        clear hv
        go_wp2_with fail
        refine (sign_any _ _ _).mono ?_; rintro e w' ⟨rfl, rfl⟩
        go_wp2_with fail
        go_ret2
        refine ⟨ret_tup2 (val_int (Eq.trans ?_ HR.out)) rfl, rfl⟩
        congr 1
set_option maxHeartbeats 4000000 in
theorem rag_sub (n : Int) (a : Nat) (s : Bool) (F f : Int) (m0 : Nat) (e0 : Int) (n1 : -9223372036854775808 ≤ n) (n2 : n ≤ 9223372036854775807) (F1 : F = 0) (f3 : 0 < f)
    (f1 : 0 ≤ f) (f2 : f < 4503599627370496) (hm1 : 0 < m0) (hm2 : m0 < 9007199254740992) (he1 : -1074 ≤ e0) (he2 : e0 ≤ 10) (hm0 : f = (m0 : Int)) (he0 : (-1074 : Int) = e0) (R : Int)
    (hodd : ∀ d m : Nat, 1 ≤ d → d ≤ 1074 → m % 2 = 1 → m * 2 ^ ((-(d : Int)) - e0).toNat = m0 → e0 ≤ -(d : Int) → btw n s (m / 2 ^ d) = R)
    (heven : ∀ m : Nat, ∀ e : Nat, (e : Int) = 0 ∨ (e : Int) = e0 → m * 2 ^ ((e : Int) - e0).toNat = m0 → e0 ≤ (e : Int) → Flt.cmp3 n (if s = true then -((m * 2 ^ e : Nat) : Int) else ((m * 2 ^ e : Nat) : Int)) = R)
    (PT : ∀ w, Calls Tryz.prog 106 #[.float .f64 a] w fun e w' => e = .returned (.tuple #[.bool s, .int .i64 F, .int .i64 f]) ∧ w = w') (w : World) :
    Calls Tryz.prog 88 #[.int .i64 n, .float .f64 a] w fun e w' => e = .returned (.tuple #[.int .i64 R, .bool true]) ∧ w = w' := by
  have HO := Lib.hid hodd
  have HE := Lib.hid heven
  clear hodd heven
  subst F1
  have g3 : (f == 0) = false := by rw [beq_eq_false_iff_ne]; omega
  have g4 : (f != 0) = true := by rw [bne_iff_ne]; omega
  have HM := Lib.hid hm0
  have HF := Lib.hid he0
  clear hm0 he0
  cases s
  all_goals
    go_enter Tryz.func88, Tryz.ntmps88
    go_wp2_with (go_at_call 106; refine (PT _).mono ?_; rintro e w' ⟨rfl, rfl⟩)
    rw [HM.out, HF.out]
    go_loop [7, 8] (fun t7 t8 => ∃ (e : Int) (m : Nat), t7 = .int .i64 e ∧ t8 = .int .i64 (m : Int) ∧ e0 ≤ e ∧ (e ≤ 0 ∨ e = e0) ∧ m < 9007199254740992 ∧ Hid (m * 2 ^ (e - e0).toNat = m0)) (fun t7 _ => (-(intOf t7)).toNat)
    case atStart => exact ⟨e0, m0, rfl, rfl, by omega, by omega, hm2, Lib.hid (by simp)⟩
    case round =>
      obtain ⟨e, m, rfl, rfl, q1, q2, q3, hinv⟩ := hrel
      by_cases hneg : e < 0
      · by_cases hodd : m % 2 = 1
        · obtain ⟨d, rfl⟩ : ∃ d : Nat, e = -(d : Int) := ⟨(-e).toNat, by omega⟩
          have ho := HO.out d m (by omega) (by omega) hodd hinv.out (by omega)
          have HR := Lib.hid ho
          have hb : ((m : Int) % 2 == 1) = true := by simp; omega
          clear ho hodd q2
          go_wp2_with (go_at_call 118; refine (between_any n _ m d n1 n2 q3 (by omega) (by omega) _).mono ?_; rintro e w' ⟨rfl, rfl⟩)
          go_ret2
          exact ⟨ret_tup2 (val_int HR.out) rfl, rfl⟩
        · have hb : ((m : Int) % 2 == 1) = false := by simp; omega
          have hq : m = 2 * (m / 2) := by omega
          have hi : (m / 2) * 2 ^ (e + 1 - e0).toNat = m0 := by
            rw [show (e + 1 - e0).toNat = (e - e0).toNat + 1 from by omega, Nat.pow_succ, Nat.mul_comm (2 ^ _) 2, ← Nat.mul_assoc, Nat.mul_comm (m / 2) 2, ← hq]
            exact hinv.out
          have HI := Lib.hid hi
          clear hi hq hodd
          go_wp2
          go_round
          case rel => exact ⟨e + 1, m / 2, rfl, by go_num, by omega, by omega, by omega, HI⟩
          case measure => simp [intOf]; omega
      · obtain ⟨d, rfl⟩ : ∃ d : Nat, e = (d : Int) := ⟨e.toNat, by omega⟩
        have hr := HE.out m d (by omega) hinv.out q1
        have HR := Lib.hid hr
        have hlt : m * 2 ^ d < 9223372036854775808 := by
          have : 2 ^ d ≤ 2 ^ 10 := Nat.pow_le_pow_right (by decide) (by omega)
          have e : (2 : Nat) ^ 10 = 1024 := by decide
          have : m * 2 ^ d ≤ m * 1024 := Nat.mul_le_mul_left _ (by omega)
          omega
        clear hr
        obtain ⟨v, hv⟩ : ∃ v, m * 2 ^ d = v := ⟨_, rfl⟩
        rw [hv] at HR hlt
        have hv2 : (m : Int) * 2 ^ d = (v : Int) := by rw [← hv]; simp
        clear hv
        go_wp2_with fail
        refine (sign_any _ _ _).mono ?_; rintro e w' ⟨rfl, rfl⟩
        go_wp2_with fail
        go_ret2
        refine ⟨ret_tup2 (val_int (Eq.trans ?_ HR.out)) rfl, rfl⟩
        congr 1
end Go.Proofs.YtnjlcdemfdokoaaGreatDoor
