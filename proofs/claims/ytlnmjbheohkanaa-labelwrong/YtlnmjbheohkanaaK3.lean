import Derived.Test.YtlnmjbheohkanaaK2
namespace Go.Proofs.Ytlnmjbheohkanaa
open Go Go.RowKit
set_option linter.unusedVariables false
theorem ivs (n : Nat) (h : n < 256) : (0 ≤ n ∧ n ≤ 47) ∨ (48 ≤ n ∧ n ≤ 57) ∨ (58 ≤ n ∧ n ≤ 64) ∨ (65 ≤ n ∧ n ≤ 90) ∨ (91 ≤ n ∧ n ≤ 94) ∨ (95 ≤ n ∧ n ≤ 95) ∨ (96 ≤ n ∧ n ≤ 96) ∨ (97 ≤ n ∧ n ≤ 122) ∨ (123 ≤ n ∧ n ≤ 255) := by omega
set_option maxHeartbeats 2000000 in
theorem rword_any (s : ByteArray) (w : World) : Calls Try.prog 18 #[.string s] w fun e w' => e = .returned (.bool (wordB s)) ∧ w = w' := by
  by_cases h0 : s.toList = []
  · rw [word_nil h0]
    have b0 : (s.toList == []) = true := by simp [h0]
    clear h0
    go_enter Try.func18, Try.ntmps18
    go_wp2_with fail
    go_ret
    exact ⟨rfl, rfl⟩
  have b0 : (s.toList == []) = false := by simp [h0]
  have hp := size_pos h0
  clear h0
  have ip : (0 : Int) < (s.size : Int) := by omega
  by_cases h40 : 40 < s.size
  · rw [word_long h40]
    have i40 : (40 : Int) < (s.size : Int) := by omega
    go_enter Try.func18, Try.ntmps18
    go_wp2_with fail
    go_ret
    exact ⟨rfl, rfl⟩
  have i40 : ¬ (40 : Int) < (s.size : Int) := by omega
  have H0 := Lib.hid (fun h => word_digit (s := s) hp h)
  have HY := Lib.hid (fun h => word_yes (s := s) hp (by omega) h)
  generalize hn : s[0].toNat = n at *
  by_cases hd : digitB n = true
  · rw [H0.out hd]
    have hd' : 48 ≤ n ∧ n ≤ 57 := by unfold digitB at hd; simpa using hd
    have j1 : (48 : Int) ≤ (n : Int) := by omega
    have j2 : (n : Int) ≤ 57 := by omega
    clear hd hd' HY H0
    go_enter Try.func18, Try.ntmps18
    go_wp2_with fail
    all_goals (go_ret; exact ⟨rfl, rfl⟩)
  have hd2 : digitB n = false := by simpa using hd
  have HY2 := Lib.hid (HY.out hd2)
  have hd' : ¬ (48 ≤ n ∧ n ≤ 57) := by unfold digitB at hd2; simpa using hd2
  have hc : ((48 : Int) ≤ (n : Int) ∧ ¬ (n : Int) ≤ 57) ∨ ¬ ((48 : Int) ≤ (n : Int)) := by omega
  clear hd hd2 hd' HY H0
  rcases hc with ⟨j1, j2⟩ | j1
  all_goals
    go_enter Try.func18, Try.ntmps18
    go_wp2_with fail
    go_loopg [3, 4] s.size (fun g s3 s4 wr => ∃ i : Nat, g + i = s.size ∧ s3 = .int .i64 i ∧ (∀ j (hj : j < s.size), j < i → okc s[j].toNat = true) ∧ wr = w)
    case atStart => exact ⟨0, rfl, rfl, fun j _ h => absurd h (Nat.not_lt_zero _), rfl⟩
    case round =>
      obtain ⟨i, hg, rfl, hz, rfl⟩ := hrel
      have HZ := Lib.hid hz
      clear hz
      by_cases hlt : i < s.size
      · have ii : (i : Int) < (s.size : Int) := by omega
        have HN := Lib.hid (fun h => word_no (s := s) (j := i) hlt h)
        have HU := Lib.hid (fun (h : okc s[i].toNat = true) (j : Nat) (hj : j < s.size) (hji : j < i + 1) => (show okc s[j].toNat = true by
          by_cases e : j = i
          · subst e; exact h
          · exact HZ.out j hj (by omega)))
        have hb := s[i].toNat_lt
        generalize hm : s[i].toNat = m at *
        clear hn
        rcases ivs m hb with ⟨q1, q2⟩ | ⟨q1, q2⟩ | ⟨q1, q2⟩ | ⟨q1, q2⟩ | ⟨q1, q2⟩ | ⟨q1, q2⟩ | ⟨q1, q2⟩ | ⟨q1, q2⟩ | ⟨q1, q2⟩
        · have e95 : ((m : Int) == 95) = false := by simp; omega
          have d95 : ((m : Int) != 95) = true := by simp; omega
          have l48 : (m : Int) < 48 := by omega
          have l65 : (m : Int) < 65 := by omega
          have l97 : (m : Int) < 97 := by omega
          have g57 : ¬ ((57 : Int) < (m : Int)) := by omega
          have g90 : ¬ ((90 : Int) < (m : Int)) := by omega
          have g122 : ¬ ((122 : Int) < (m : Int)) := by omega
          have HN2 := Lib.hid (HN.out (by unfold okc; simp; omega))
          clear q1 q2 HU HN
          go_wp2_with fail
          go_ret
          exact ⟨by rw [HN2.out]; rfl, rfl⟩
        · have e95 : ((m : Int) == 95) = false := by simp; omega
          have d95 : ((m : Int) != 95) = true := by simp; omega
          have l48 : ¬ ((m : Int) < 48) := by omega
          have l65 : (m : Int) < 65 := by omega
          have l97 : (m : Int) < 97 := by omega
          have g57 : ¬ ((57 : Int) < (m : Int)) := by omega
          have g90 : ¬ ((90 : Int) < (m : Int)) := by omega
          have g122 : ¬ ((122 : Int) < (m : Int)) := by omega
          have HU2 := Lib.hid (HU.out (by unfold okc; simp; omega))
          clear q1 q2 HU HN
          go_wp2_with fail
          go_roundg (s.size - (i + 1))
          case rel => exact ⟨i + 1, by omega, by go_num, fun j hj hji => HU2.out j hj hji, rfl⟩
          case measure => omega
        · have e95 : ((m : Int) == 95) = false := by simp; omega
          have d95 : ((m : Int) != 95) = true := by simp; omega
          have l48 : ¬ ((m : Int) < 48) := by omega
          have l65 : (m : Int) < 65 := by omega
          have l97 : (m : Int) < 97 := by omega
          have g57 : (57 : Int) < (m : Int) := by omega
          have g90 : ¬ ((90 : Int) < (m : Int)) := by omega
          have g122 : ¬ ((122 : Int) < (m : Int)) := by omega
          have HN2 := Lib.hid (HN.out (by unfold okc; simp; omega))
          clear q1 q2 HU HN
          go_wp2_with fail
          go_ret
          exact ⟨by rw [HN2.out]; rfl, rfl⟩
        · have e95 : ((m : Int) == 95) = false := by simp; omega
          have d95 : ((m : Int) != 95) = true := by simp; omega
          have l48 : ¬ ((m : Int) < 48) := by omega
          have l65 : ¬ ((m : Int) < 65) := by omega
          have l97 : (m : Int) < 97 := by omega
          have g57 : (57 : Int) < (m : Int) := by omega
          have g90 : ¬ ((90 : Int) < (m : Int)) := by omega
          have g122 : ¬ ((122 : Int) < (m : Int)) := by omega
          have HU2 := Lib.hid (HU.out (by unfold okc; simp; omega))
          clear q1 q2 HU HN
          go_wp2_with fail
          go_roundg (s.size - (i + 1))
          case rel => exact ⟨i + 1, by omega, by go_num, fun j hj hji => HU2.out j hj hji, rfl⟩
          case measure => omega
        · have e95 : ((m : Int) == 95) = false := by simp; omega
          have d95 : ((m : Int) != 95) = true := by simp; omega
          have l48 : ¬ ((m : Int) < 48) := by omega
          have l65 : ¬ ((m : Int) < 65) := by omega
          have l97 : (m : Int) < 97 := by omega
          have g57 : (57 : Int) < (m : Int) := by omega
          have g90 : (90 : Int) < (m : Int) := by omega
          have g122 : ¬ ((122 : Int) < (m : Int)) := by omega
          have HN2 := Lib.hid (HN.out (by unfold okc; simp; omega))
          clear q1 q2 HU HN
          go_wp2_with fail
          go_ret
          exact ⟨by rw [HN2.out]; rfl, rfl⟩
        · have e95 : ((m : Int) == 95) = true := by simp; omega
          have d95 : ((m : Int) != 95) = false := by simp; omega
          have l48 : ¬ ((m : Int) < 48) := by omega
          have l65 : ¬ ((m : Int) < 65) := by omega
          have l97 : (m : Int) < 97 := by omega
          have g57 : (57 : Int) < (m : Int) := by omega
          have g90 : (90 : Int) < (m : Int) := by omega
          have g122 : ¬ ((122 : Int) < (m : Int)) := by omega
          have HU2 := Lib.hid (HU.out (by unfold okc; simp; omega))
          clear q1 q2 HU HN
          go_wp2_with fail
          go_roundg (s.size - (i + 1))
          case rel => exact ⟨i + 1, by omega, by go_num, fun j hj hji => HU2.out j hj hji, rfl⟩
          case measure => omega
        · have e95 : ((m : Int) == 95) = false := by simp; omega
          have d95 : ((m : Int) != 95) = true := by simp; omega
          have l48 : ¬ ((m : Int) < 48) := by omega
          have l65 : ¬ ((m : Int) < 65) := by omega
          have l97 : (m : Int) < 97 := by omega
          have g57 : (57 : Int) < (m : Int) := by omega
          have g90 : (90 : Int) < (m : Int) := by omega
          have g122 : ¬ ((122 : Int) < (m : Int)) := by omega
          have HN2 := Lib.hid (HN.out (by unfold okc; simp; omega))
          clear q1 q2 HU HN
          go_wp2_with fail
          go_ret
          exact ⟨by rw [HN2.out]; rfl, rfl⟩
        · have e95 : ((m : Int) == 95) = false := by simp; omega
          have d95 : ((m : Int) != 95) = true := by simp; omega
          have l48 : ¬ ((m : Int) < 48) := by omega
          have l65 : ¬ ((m : Int) < 65) := by omega
          have l97 : ¬ ((m : Int) < 97) := by omega
          have g57 : (57 : Int) < (m : Int) := by omega
          have g90 : (90 : Int) < (m : Int) := by omega
          have g122 : ¬ ((122 : Int) < (m : Int)) := by omega
          have HU2 := Lib.hid (HU.out (by unfold okc; simp; omega))
          clear q1 q2 HU HN
          go_wp2_with fail
          go_roundg (s.size - (i + 1))
          case rel => exact ⟨i + 1, by omega, by go_num, fun j hj hji => HU2.out j hj hji, rfl⟩
          case measure => omega
        · have e95 : ((m : Int) == 95) = false := by simp; omega
          have d95 : ((m : Int) != 95) = true := by simp; omega
          have l48 : ¬ ((m : Int) < 48) := by omega
          have l65 : ¬ ((m : Int) < 65) := by omega
          have l97 : ¬ ((m : Int) < 97) := by omega
          have g57 : (57 : Int) < (m : Int) := by omega
          have g90 : (90 : Int) < (m : Int) := by omega
          have g122 : (122 : Int) < (m : Int) := by omega
          have HN2 := Lib.hid (HN.out (by unfold okc; simp; omega))
          clear q1 q2 HU HN
          go_wp2_with fail
          go_ret
          exact ⟨by rw [HN2.out]; rfl, rfl⟩
      · obtain rfl : s.size = i := by omega
        have ii : ¬ ((s.size : Int) < (s.size : Int)) := by omega
        have HW := Lib.hid (HY2.out (fun j hj => HZ.out j hj hj))
        clear hn
        go_wp2_with fail
        go_ret
        exact ⟨by rw [HW.out]; rfl, rfl⟩
end Go.Proofs.Ytlnmjbheohkanaa
