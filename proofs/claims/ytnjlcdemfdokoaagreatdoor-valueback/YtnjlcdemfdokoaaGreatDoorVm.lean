import Derived.Test.YtnjlcdemfdokoaaGreatDoorVe
namespace Go.Proofs.YtnjlcdemfdokoaaGreatDoor
open Go Go.RowKit
/-- may a byte be of a text without quotes -/
def plainB (c : UInt8) : Bool := c == 45 || (48 ≤ c && c ≤ 57) || (97 ≤ c && c ≤ 122)
theorem isplain_core (c : Int) (p q r s t : Bool) (hp : (c == 45) = p) (hq : decide (48 ≤ c) = q) (hr : decide (c ≤ 57) = r) (hs : decide (97 ≤ c) = s) (ht : decide (c ≤ 122) = t) (w : World) :
    Calls Tryz.prog 111 #[.int .u8 c] w fun e w' => e = .returned (.bool (p || (q && r) || (s && t))) ∧ w = w' := by
  cases p
  case true =>
    go_enter Tryz.func111, Tryz.ntmps111
    go_wp2_with fail
    go_ret
    exact ⟨rfl, rfl⟩
  cases q <;> cases r <;> cases s
  all_goals
    go_enter Tryz.func111, Tryz.ntmps111
    go_wp2_with fail
    go_ret
    first | exact ⟨rfl, rfl⟩ | (refine ⟨?_, rfl⟩; simp)
theorem isplain_any (c : UInt8) (w : World) : Calls Tryz.prog 111 #[.int .u8 (c.toNat : Int)] w fun e w' => e = .returned (.bool (plainB c)) ∧ w = w' := by
  refine (isplain_core (c.toNat : Int) _ _ _ _ _ rfl rfl rfl rfl rfl w).mono fun e w' ⟨he, hw⟩ => ⟨?_, hw⟩
  rw [he]
  congr 2
  unfold plainB
  rw [Bool.eq_iff_iff]
  simp [UInt8.le_iff_toNat_le, ← UInt8.toNat_inj]
  omega
/-- how many bytes at the beginning may be, of m -/
def runN : Nat → List UInt8 → Nat
  | 0, _ => 0
  | _, [] => 0
  | m + 1, c :: l => if plainB c = true then runN m l + 1 else 0
theorem runN_le (m : Nat) (l : List UInt8) : runN m l ≤ m ∧ runN m l ≤ l.length := by
  induction m generalizing l with
  | zero => simp [runN]
  | succ m ih =>
    cases l with
    | nil => simp [runN]
    | cons c l => unfold runN; have := ih l; split <;> simp <;> omega
/-- the first k are plain, and there it ends -/
theorem runN_at (m : Nat) (l : List UInt8) (k : Nat) (hk : k ≤ m) (hl : k ≤ l.length) (h1 : ∀ j, j < k → ∃ c, l[j]? = some c ∧ plainB c = true) (h2 : k = m ∨ k = l.length ∨ ∃ c, l[k]? = some c ∧ plainB c = false) : runN m l = k := by
  induction m generalizing l k with
  | zero => simp [runN]; omega
  | succ m ih =>
    cases l with
    | nil => simp at hl; simp [runN, hl]
    | cons c l =>
      cases k with
      | zero =>
        rcases h2 with h | h | ⟨d, h, hd⟩
        · omega
        · simp at h
        · simp at h; subst h; simp [runN, hd]
      | succ k =>
        obtain ⟨d, hd, hp⟩ := h1 0 (by omega)
        simp at hd; subst hd
        simp [runN, hp]
        refine ih l k (by omega) (by simpa using hl) (fun j hj => ?_) ?_
        · obtain ⟨d, hd, hq⟩ := h1 (j + 1) (by omega)
          exact ⟨d, by simpa using hd, hq⟩
        · rcases h2 with h | h | ⟨d, h, hd⟩
          · left; omega
          · right; left; simpa using h
          · right; right; exact ⟨d, by simpa using h, hd⟩
theorem get_at (s : ByteArray) (i : Nat) (h : i < s.size) : s.data.toList[i]? = some s[i] := by
  rw [List.getElem?_eq_getElem (by simpa using h)]
  rfl
theorem run_any (s : ByteArray) (hs : s.size ≤ 281474976710656) (w : World) :
    Calls Tryz.prog 69 #[.string s] w fun e w' => e = .returned (.int .i64 (runN 23 s.data.toList : Nat)) ∧ w = w' := by
  obtain ⟨m, hm⟩ : ∃ m : Nat, m = min s.size 23 := ⟨_, rfl⟩
  have hmi : min (s.size : Int) 23 = (m : Int) := by omega
  have m1 : m ≤ s.size := by omega
  have m2 : m ≤ 23 := by omega
  have HM := Lib.hid hm
  clear hm
  go_enter Tryz.func69, Tryz.ntmps69
  go_wp2_with fail
  go_loop [3] (fun i => ∃ k : Nat, k ≤ m ∧ i = .int .i64 k ∧ ∀ j, j < k → ∃ c, s.data.toList[j]? = some c ∧ plainB c = true) (fun i => m - (intOf i).toNat)
  case atStart => exact ⟨0, Nat.zero_le _, rfl, fun m h => absurd h (Nat.not_lt_zero _)⟩
  case round =>
    obtain ⟨k, hk, rfl, hz⟩ := hrel
    have HZ := Lib.hid hz
    clear hz
    by_cases hlt : k < m
    · have hks : k < s.size := by omega
      have ik : (k : Int) < (m : Int) := by omega
      have IP := isplain_any s[k]
      rcases Bool.eq_false_or_eq_true (plainB s[k]) with h0 | h0
      · rw [h0] at IP
        have H0 := Lib.hid h0
        clear h0
        go_wp2_with (refine (IP _).mono ?_; rintro e w' ⟨rfl, rfl⟩)
        go_round
        case rel => exact ⟨k + 1, by omega, by go_num, fun j hj => by
          by_cases e : j = k
          · subst e; exact ⟨s[j], get_at s j hks, H0.out⟩
          · exact HZ.out j (by omega)⟩
        case measure => simp [intOf]; omega
      · rw [h0] at IP
        have H0 := Lib.hid h0
        clear h0
        go_wp2_with (refine (IP _).mono ?_; rintro e w' ⟨rfl, rfl⟩)
        go_ret
        refine ⟨ret_int ?_, rfl⟩
        rw [runN_at 23 s.data.toList k (by omega) (by simp; omega) HZ.out (Or.inr (Or.inr ⟨s[k], get_at s k hks, H0.out⟩))]
    · have ik : decide ((k : Int) < (m : Int)) = false := by simp; omega
      have ik' : decide (k < m) = false := by simpa using hlt
      go_wp2_with fail
      go_ret
      refine ⟨ret_int ?_, rfl⟩
      have hme := HM.out
      rw [runN_at 23 s.data.toList k (by omega) (by simp; omega) HZ.out (by simp; omega)]
end Go.Proofs.YtnjlcdemfdokoaaGreatDoor
