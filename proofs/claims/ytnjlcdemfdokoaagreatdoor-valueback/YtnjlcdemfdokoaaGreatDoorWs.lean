import Derived.Test.YtnjlcdemfdokoaaGreatDoorWn
namespace Go.Proofs.YtnjlcdemfdokoaaGreatDoor
open Go Go.RowKit
theorem sign_any (x y : Int) (w : World) : Calls Tryz.prog 117 #[.int .i64 x, .int .i64 y] w fun e w' => e = .returned (.int .i64 (Flt.cmp3 x y)) ∧ w = w' := by
  go_enter Tryz.func117, Tryz.ntmps117
  go_wp2
  all_goals go_ret
  all_goals exact ⟨ret_int (by unfold Flt.cmp3; (repeat' split) <;> omega), rfl⟩
/-- against a number that is not whole -/
def btw (n : Int) (s : Bool) (l : Nat) : Int := if n ≤ (if s = true then -(l : Int) - 1 else (l : Int)) then -1 else 1
theorem btw_f (n : Int) (l : Nat) : btw n false l = if n ≤ (l : Int) then -1 else 1 := by unfold btw; simp
theorem btw_t (n : Int) (l : Nat) : btw n true l = if n ≤ -(l : Int) - 1 then -1 else 1 := by unfold btw; simp
theorem between_any (n : Int) (s : Bool) (m d : Nat) (n1 : -9223372036854775808 ≤ n) (n2 : n ≤ 9223372036854775807) (hm : m < 9007199254740992) (d1 : 1 ≤ d) (d2 : d ≤ 1074) (w : World) :
    Calls Tryz.prog 118 #[.int .i64 n, .bool s, .int .i64 (m : Int), .int .i64 (-(d : Int))] w fun e w' => e = .returned (.int .i64 (btw n s (m / 2 ^ d))) ∧ w = w' := by
  obtain ⟨l, hl⟩ : ∃ l, m / 2 ^ d = l := ⟨_, rfl⟩
  have hl2 : l < 9007199254740992 := by rw [← hl]; exact Nat.lt_of_le_of_lt (Nat.div_le_self _ _) hm
  rw [hl]
  by_cases hd : d < 63
  · have hsh : (m : Int) / 2 ^ d = (l : Int) := by rw [← hl]; simp
    have t1 : decide (-63 < -(d : Int)) = true := by simp; omega
    clear hl
    cases s
    · by_cases hn : n ≤ (l : Int)
      all_goals
        go_enter Tryz.func118, Tryz.ntmps118
        go_wp2
        go_ret
        exact ⟨ret_int (by first | (rw [btw_f, if_pos (by omega)]; done) | (rw [btw_f, if_neg (by omega)]; done)), rfl⟩
    · by_cases hn : n ≤ -(l : Int) - 1
      all_goals
        go_enter Tryz.func118, Tryz.ntmps118
        go_wp2
        go_ret
        exact ⟨ret_int (by first | (rw [btw_t, if_pos (by omega)]; done) | (rw [btw_t, if_neg (by omega)]; done)), rfl⟩
  · have h0 : l = 0 := by
      rw [← hl]
      apply Nat.div_eq_of_lt
      have : 2 ^ 63 ≤ 2 ^ d := Nat.pow_le_pow_right (by decide) (by omega)
      have e : (2 : Nat) ^ 63 = 9223372036854775808 := by decide
      omega
    have t1 : decide (-63 < -(d : Int)) = false := by simp; omega
    subst h0
    clear hl
    cases s
    · by_cases hn : n ≤ 0
      all_goals
        go_enter Tryz.func118, Tryz.ntmps118
        go_wp2
        go_ret
        exact ⟨ret_int (by first | (rw [btw_f, if_pos (by omega)]; done) | (rw [btw_f, if_neg (by omega)]; done)), rfl⟩
    · by_cases hn : n ≤ -1
      all_goals
        go_enter Tryz.func118, Tryz.ntmps118
        go_wp2
        go_ret
        exact ⟨ret_int (by first | (rw [btw_t, if_pos (by omega)]; done) | (rw [btw_t, if_neg (by omega)]; done)), rfl⟩
end Go.Proofs.YtnjlcdemfdokoaaGreatDoor
