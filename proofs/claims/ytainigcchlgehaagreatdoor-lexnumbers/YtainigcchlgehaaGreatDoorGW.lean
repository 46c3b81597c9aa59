import Derived.Test.YtainigcchlgehaaGreatDoorG1
import Derived.Laws.RangeString
import Derived.Laws.RangeAny
import Derived.Lib.DecodeN
namespace Go.Proofs.YtainigcchlgehaaGreatDoor
open Go Go.RowKit
set_option linter.unusedVariables false
def begB (n : Nat) : Bool := (decide (65 ≤ n) && decide (n ≤ 90)) || (decide (97 ≤ n) && decide (n ≤ 122)) || n == 95
theorem ivr (n : Nat) : (0 ≤ n ∧ n ≤ 64) ∨ (65 ≤ n ∧ n ≤ 90) ∨ (91 ≤ n ∧ n ≤ 94) ∨ (95 ≤ n ∧ n ≤ 95) ∨ (96 ≤ n ∧ n ≤ 96) ∨ (97 ≤ n ∧ n ≤ 122) ∨ (123 ≤ n) := by omega
theorem begins_any (n : Nat) (w : World) : Calls Tryz.prog 63 #[.int .i32 n] w fun e w' => e = .returned (.bool (begB n)) ∧ w = w' := by
  rcases ivr n with ⟨q1, q2⟩ | ⟨q1, q2⟩ | ⟨q1, q2⟩ | ⟨q1, q2⟩ | ⟨q1, q2⟩ | ⟨q1, q2⟩ | q1
  · have HB := Lib.hid (show begB n = false by unfold begB; simp; omega)
    have l65 : ¬ ((65 : Int) ≤ (n : Int)) := by omega
    have l97 : ¬ ((97 : Int) ≤ (n : Int)) := by omega
    have e95 : ((n : Int) == 95) = false := by simp; omega
    clear q1 q2
    go_enter Tryz.func63, Tryz.ntmps63
    go_wp2_with fail
    go_ret
    exact ⟨by rw [HB.out]; rfl, rfl⟩
  · have HB := Lib.hid (show begB n = true by unfold begB; simp; omega)
    have l65 : (65 : Int) ≤ (n : Int) := by omega
    have g90 : (n : Int) ≤ 90 := by omega
    clear q1 q2
    go_enter Tryz.func63, Tryz.ntmps63
    go_wp2_with fail
    go_ret
    exact ⟨by rw [HB.out]; rfl, rfl⟩
  · have HB := Lib.hid (show begB n = false by unfold begB; simp; omega)
    have l65 : (65 : Int) ≤ (n : Int) := by omega
    have g90 : ¬ (n : Int) ≤ 90 := by omega
    have l97 : ¬ ((97 : Int) ≤ (n : Int)) := by omega
    have e95 : ((n : Int) == 95) = false := by simp; omega
    clear q1 q2
    go_enter Tryz.func63, Tryz.ntmps63
    go_wp2_with fail
    go_ret
    exact ⟨by rw [HB.out]; rfl, rfl⟩
  · have HB := Lib.hid (show begB n = true by unfold begB; simp; omega)
    have l65 : (65 : Int) ≤ (n : Int) := by omega
    have g90 : ¬ (n : Int) ≤ 90 := by omega
    have l97 : ¬ ((97 : Int) ≤ (n : Int)) := by omega
    have e95 : ((n : Int) == 95) = true := by simp; omega
    clear q1 q2
    go_enter Tryz.func63, Tryz.ntmps63
    go_wp2_with fail
    go_ret
    exact ⟨by rw [HB.out]; rfl, rfl⟩
  · have HB := Lib.hid (show begB n = false by unfold begB; simp; omega)
    have l65 : (65 : Int) ≤ (n : Int) := by omega
    have g90 : ¬ (n : Int) ≤ 90 := by omega
    have l97 : ¬ ((97 : Int) ≤ (n : Int)) := by omega
    have e95 : ((n : Int) == 95) = false := by simp; omega
    clear q1 q2
    go_enter Tryz.func63, Tryz.ntmps63
    go_wp2_with fail
    go_ret
    exact ⟨by rw [HB.out]; rfl, rfl⟩
  · have HB := Lib.hid (show begB n = true by unfold begB; simp; omega)
    have l65 : (65 : Int) ≤ (n : Int) := by omega
    have g90 : ¬ (n : Int) ≤ 90 := by omega
    have l97 : (97 : Int) ≤ (n : Int) := by omega
    have g122 : (n : Int) ≤ 122 := by omega
    clear q1 q2
    go_enter Tryz.func63, Tryz.ntmps63
    go_wp2_with fail
    go_ret
    exact ⟨by rw [HB.out]; rfl, rfl⟩
  · have HB := Lib.hid (show begB n = false by unfold begB; simp; omega)
    have l65 : (65 : Int) ≤ (n : Int) := by omega
    have g90 : ¬ (n : Int) ≤ 90 := by omega
    have l97 : (97 : Int) ≤ (n : Int) := by omega
    have g122 : ¬ (n : Int) ≤ 122 := by omega
    have e95 : ((n : Int) == 95) = false := by simp; omega
    clear q1
    go_enter Tryz.func63, Tryz.ntmps63
    go_wp2_with fail
    go_ret
    exact ⟨by rw [HB.out]; rfl, rfl⟩
theorem digit_any (n : Nat) (w : World) : Calls Tryz.prog 64 #[.int .i32 n] w fun e w' => e = .returned (.bool (digitB n)) ∧ w = w' := by
  by_cases a : (48 : Int) ≤ (n : Int)
  · by_cases b : (n : Int) ≤ 57
    · have HB := Lib.hid (show digitB n = true by unfold digitB; simp; omega)
      go_enter Tryz.func64, Tryz.ntmps64
      go_wp2_with fail
      go_ret
      exact ⟨by rw [HB.out]; rfl, rfl⟩
    · have HB := Lib.hid (show digitB n = false by unfold digitB; simp; omega)
      go_enter Tryz.func64, Tryz.ntmps64
      go_wp2_with fail
      go_ret
      exact ⟨by rw [HB.out]; rfl, rfl⟩
  · have HB := Lib.hid (show digitB n = false by unfold digitB; simp; omega)
    go_enter Tryz.func64, Tryz.ntmps64
    go_wp2_with fail
    go_ret
    exact ⟨by rw [HB.out]; rfl, rfl⟩
theorem decode_high (s : ByteArray) (i : Nat) (h : i < s.size) (hb : 128 ≤ s[i].toNat) : 128 ≤ (Utf8.decode s i).1 := by
  have e : s.get! i = s[i] := by
    show s.get! i = _
    simp [ByteArray.get!, getElem!_pos, h]
    rfl
  rw [Lib.decode_at, e]
  generalize s[i].toNat = b0 at *
  generalize (s.get! (i + 1)).toNat = b1
  generalize (s.get! (i + 2)).toNat = b2
  generalize (s.get! (i + 3)).toNat = b3
  unfold Lib.decodeN
  repeat' split
  all_goals first | omega | (simp only; omega)
theorem below_iter (w : World) (s : ByteArray) (i : Nat) : Below w.heap.size w (w.iter s i) := below_a1 w _
theorem beg_dig (n : Nat) (h : begB n = true) : digitB n = false := by
  unfold begB at h
  unfold digitB
  simp at *
  omega
theorem okc_of (n : Nat) : okc n = (begB n || digitB n) := by
  unfold okc begB digitB
  rw [Bool.eq_iff_iff]
  simp
  omega
set_option maxHeartbeats 2000000 in
theorem lword_any (s : ByteArray) (w : World) : Calls Tryz.prog 49 #[.string s] w fun e w' => e = .returned (.bool (wordB s)) ∧ Below w.heap.size w w' := by
  by_cases h0 : s.toList = []
  · rw [word_nil h0]
    have b0 : (s.toList == []) = true := by simp [h0]
    clear h0
    go_enter Tryz.func49, Tryz.ntmps49
    go_wp2_with fail
    go_ret
    exact ⟨rfl, Below.refl _ _⟩
  have b0 : (s.toList == []) = false := by simp [h0]
  have hp := size_pos h0
  clear h0
  by_cases h40 : 40 < s.size
  · rw [word_long h40]
    have i40 : (40 : Int) < (s.size : Int) := by omega
    go_enter Tryz.func49, Tryz.ntmps49
    go_wp2_with fail
    go_ret
    exact ⟨rfl, Below.refl _ _⟩
  have i40 : ¬ (40 : Int) < (s.size : Int) := by omega
  have H0 := Lib.hid (fun h => word_digit (s := s) hp h)
  have HY := Lib.hid (fun h => word_yes (s := s) hp (by omega) h)
  go_enter Tryz.func49, Tryz.ntmps49
  go_wp2_with fail
  go_loopg [3, 4] s.size (fun g s3 s4 wr => ∃ i : Nat, g + i = s.size ∧ (0 < i → digitB s[0].toNat = false) ∧ (∀ j (hj : j < s.size), j < i → okc s[j].toNat = true) ∧ wr = w.iter s i)
  case atStart => exact ⟨0, rfl, fun h => absurd h (Nat.lt_irrefl 0), fun j _ h => absurd h (Nat.not_lt_zero _), rfl⟩
  case round =>
    obtain ⟨i, hg, hz0, hz, rfl⟩ := hrel
    have HZ0 := Lib.hid hz0
    have HZ := Lib.hid hz
    have bi := below_iter w s i
    have bi1 := below_iter w s (i + 1)
    clear hz hz0
    by_cases hlt : i < s.size
    · have HN := Lib.hid (fun h => word_no (s := s) (j := i) hlt h)
      have HD := Lib.hid (show i = 0 → digitB s[i].toNat = true → wordB s = false by intro e; subst e; exact H0.out)
      have HU0 := Lib.hid (show (i = 0 → digitB s[i].toNat = false) → 0 < i + 1 → digitB s[0].toNat = false by
        intro h _
        by_cases e : i = 0
        · subst e; exact h rfl
        · exact HZ0.out (by omega))
      have HU := Lib.hid (fun (h : okc s[i].toNat = true) (j : Nat) (hj : j < s.size) (hji : j < i + 1) => (show okc s[j].toNat = true by
        by_cases e : j = i
        · subst e; exact h
        · exact HZ.out j hj (by omega)))
      by_cases ha : s[i].toNat < 128
      · have hnx := fun ty => run_next_ascii (P := Tryz.prog) w s i ty hlt ha
        have HK := Lib.hid (okc_of s[i].toNat)
        have HJ := Lib.hid (beg_dig s[i].toNat)
        have C := Lib.hid (begins_any s[i].toNat)
        have D := Lib.hid (digit_any s[i].toNat)
        clear ha
        generalize s[i].toNat = m at *
        generalize begB m = bb at *
        generalize digitB m = dd at *
        skip
        cases bb
        · by_cases hi0 : i = 0
          · have ez : ((i : Int) == 0) = true := by simp; omega
            have HW := Lib.hid (show wordB s = false by
              cases dd
              · exact HN.out HK.out
              · exact HD.out hi0 rfl)
            clear hi0
            go_wp2_with fail
            (with_reducible refine (C.out _).mono ?_); rintro e w3 ⟨rfl, rfl⟩
            go_wp2_with fail
            go_ret
            exact ⟨by rw [HW.out]; rfl, bi1⟩
          · have ez : ((i : Int) == 0) = false := by simp; omega
            cases dd
            · have HW := Lib.hid (HN.out HK.out)
              clear hi0
              go_wp2_with fail
              (with_reducible refine (C.out _).mono ?_); rintro e w3 ⟨rfl, rfl⟩
              go_wp2_with fail
              (with_reducible refine (D.out _).mono ?_); rintro e w3 ⟨rfl, rfl⟩
              go_wp2_with fail
              go_ret
              exact ⟨by rw [HW.out]; rfl, bi1⟩
            · have HR := Lib.hid (And.intro (HU0.out (fun e => absurd e hi0)) (HU.out HK.out))
              clear hi0
              go_wp2_with fail
              (with_reducible refine (C.out _).mono ?_); rintro e w3 ⟨rfl, rfl⟩
              go_wp2_with fail
              (with_reducible refine (D.out _).mono ?_); rintro e w3 ⟨rfl, rfl⟩
              go_wp2_with fail
              go_roundg (s.size - (i + 1))
              case rel => exact ⟨i + 1, by omega, HR.out.1, HR.out.2, rfl⟩
              case measure => omega
        · have HR := Lib.hid (And.intro (HU0.out (fun e => HJ.out rfl)) (HU.out (by rw [HK.out]; rfl)))
          go_wp2_with fail
          (with_reducible refine (C.out _).mono ?_); rintro e w3 ⟨rfl, rfl⟩
          go_wp2_with fail
          go_roundg (s.size - (i + 1))
          case rel => exact ⟨i + 1, by omega, HR.out.1, HR.out.2, rfl⟩
          case measure => omega
      · have hge : 128 ≤ s[i].toNat := by omega
        have hnx := fun ty => run_next_any (P := Tryz.prog) w s i ty hlt
        have hr := decode_high s i hlt hge
        have HW := Lib.hid (HN.out (by rw [okc_of]; unfold begB digitB; simp; omega))
        have C := Lib.hid (begins_any (Utf8.decode s i).1)
        have D := Lib.hid (digit_any (Utf8.decode s i).1)
        have c2 := below_iter w s (i + (Utf8.decode s i).2)
        have e1 : begB (Utf8.decode s i).1 = false := by unfold begB; simp; omega
        have e2 : digitB (Utf8.decode s i).1 = false := by unfold digitB; simp; omega
        rw [e1] at C
        rw [e2] at D
        clear hr hge ha e1 e2 HD HU HU0 HN
        generalize (Utf8.decode s i).1 = r at *
        generalize w.iter s (i + (Utf8.decode s i).2) = w1 at *
        by_cases hi0 : i = 0
        · have ez : ((i : Int) == 0) = true := by simp; omega
          clear hi0
          go_wp2_with fail
          (with_reducible refine (C.out _).mono ?_); rintro e w3 ⟨rfl, rfl⟩
          go_wp2_with fail
          go_ret
          exact ⟨by rw [HW.out]; rfl, c2⟩
        · have ez : ((i : Int) == 0) = false := by simp; omega
          clear hi0
          go_wp2_with fail
          (with_reducible refine (C.out _).mono ?_); rintro e w3 ⟨rfl, rfl⟩
          go_wp2_with fail
          (with_reducible refine (D.out _).mono ?_); rintro e w3 ⟨rfl, rfl⟩
          go_wp2_with fail
          go_ret
          exact ⟨by rw [HW.out]; rfl, c2⟩
    · obtain rfl : s.size = i := by omega
      have hnx := fun ty => run_next_end (P := Tryz.prog) w s s.size ty hlt
      have HW := Lib.hid (HY.out (HZ0.out hp) (fun j hj => HZ.out j hj hj))
      go_wp2_with fail
      go_ret
      exact ⟨by rw [HW.out]; rfl, bi⟩
end Go.Proofs.YtainigcchlgehaaGreatDoor



