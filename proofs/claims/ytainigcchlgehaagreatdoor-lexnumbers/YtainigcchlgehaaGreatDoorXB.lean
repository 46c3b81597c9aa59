import Derived.Test.YtainigcchlgehaaGreatDoorXS
import Derived.Test.YtainigcchlgehaaGreatDoorXShelf
namespace Go.Proofs.YtainigcchlgehaaGreatDoor
open Go Go.ChangeShapes Go.WideShapes Go.ChangeAt Go.RowKit
open Go.Joins
set_option linter.unusedVariables false
theorem lxdigit_any (n : Nat) (w : World) : Calls Tryz.prog 27 #[.int .u8 n] w fun e w' => e = .returned (.bool (digitB n)) ∧ w = w' := by
  by_cases a : (48 : Int) ≤ (n : Int)
  · by_cases b : (n : Int) ≤ 57
    · have HB := Lib.hid (show digitB n = true by unfold digitB; simp; omega)
      go_enter Tryz.func27, Tryz.ntmps27
      go_wp2_with fail
      go_ret
      exact ⟨by rw [HB.out]; rfl, rfl⟩
    · have HB := Lib.hid (show digitB n = false by unfold digitB; simp; omega)
      go_enter Tryz.func27, Tryz.ntmps27
      go_wp2_with fail
      go_ret
      exact ⟨by rw [HB.out]; rfl, rfl⟩
  · have HB := Lib.hid (show digitB n = false by unfold digitB; simp; omega)
    go_enter Tryz.func27, Tryz.ntmps27
    go_wp2_with fail
    go_ret
    exact ⟨by rw [HB.out]; rfl, rfl⟩
theorem lxletter_any (s : ByteArray) (w : World) : Calls Tryz.prog 29 #[.string s] w fun e w' => e = .returned (.bool (wordB s)) ∧ Below w.heap.size w w' := by
  go_enter Tryz.func29, Tryz.ntmps29
  go_wp2_with fail
  refine (lword_any _ _).mono ?_; rintro e w1 ⟨rfl, hb⟩
  go_wp2_with fail
  go_ret
  exact ⟨rfl, hb⟩
theorem lxblanks_any (s : ByteArray) (hs : s.size ≤ 1000000) (w : World) : Calls Tryz.prog 16 #[.string s] w fun e w' => e = .returned (.int .i64 (blN s.data.toList : Nat)) ∧ Below w.heap.size w w' := by
  obtain ⟨T, hT⟩ : ∃ T : ByteArray, T = ⟨(Lib.trimLeftS s.data.toList (⟨#[32, 9, 13, 10]⟩ : ByteArray).data.toList).toArray⟩ := ⟨_, rfl⟩
  have h0 := lex_TrimLeft s ⟨#[32, 9, 13, 10]⟩ w (by decide) (lex_ascii (by decide))
  rw [← hT] at h0
  have hbl := blN_le s.data.toList
  have hsz : s.data.toList.length = s.size := by simp
  have hTs : T.size = s.size - blN s.data.toList := by
    rw [hT]
    have : Lib.trimLeftS s.data.toList (⟨#[32, 9, 13, 10]⟩ : ByteArray).data.toList = s.data.toList.drop (blN s.data.toList) := dropWhile_bl _
    rw [this]
    show (s.data.toList.drop (blN s.data.toList)).toArray.size = _
    simp
  have HR := Lib.hid (show (s.size : Int) - (T.size : Int) = (blN s.data.toList : Nat) by omega)
  have HT := Lib.hid h0
  have b1 : (T.size : Int) ≤ (s.size : Int) := by omega
  have b2 : (s.size : Int) ≤ 1000000 := by omega
  clear h0 hbl hsz hTs hT
  go_enter Tryz.func16, Tryz.ntmps16
  go_wp2_with fail
  refine HT.out.mono ?_; rintro e w1 ⟨rfl, hb⟩
  go_wp2_with fail
  go_ret
  exact ⟨by rw [← HR.out]; rfl, hb⟩
set_option maxRecDepth 100000 in
theorem lxkey_any (s : ByteArray) (w : World) : Calls Tryz.prog 50 #[.string s] w fun e w' => e = .returned (.bool (isKeyB s.data.toList)) ∧ w = w' := by
  have el : s.toList = s.data.toList := Lib.toList_data s
  by_cases q0 : s.data.toList = [87, 65, 76, 75]
  · have HK := Lib.hid (show isKeyB s.data.toList = true by rw [q0]; decide)
    have b0 : (s.toList == [87, 65, 76, 75]) = true := by rw [el, q0]; decide
    clear q0 el
    go_enter Tryz.func50, Tryz.ntmps50
    go_wp2_with fail
    go_ret
    exact ⟨by rw [HK.out]; rfl, rfl⟩
  have b0 : (s.toList == [87, 65, 76, 75]) = false := by rw [el]; simpa using q0
  by_cases q1 : s.data.toList = [84, 82, 65, 73, 76]
  · have HK := Lib.hid (show isKeyB s.data.toList = true by rw [q1]; decide)
    have b1 : (s.toList == [84, 82, 65, 73, 76]) = true := by rw [el, q1]; decide
    clear q1 el
    go_enter Tryz.func50, Tryz.ntmps50
    go_wp2_with fail
    go_ret
    exact ⟨by rw [HK.out]; rfl, rfl⟩
  have b1 : (s.toList == [84, 82, 65, 73, 76]) = false := by rw [el]; simpa using q1
  by_cases q2 : s.data.toList = [65, 67, 89, 67, 76, 73, 67]
  · have HK := Lib.hid (show isKeyB s.data.toList = true by rw [q2]; decide)
    have b2 : (s.toList == [65, 67, 89, 67, 76, 73, 67]) = true := by rw [el, q2]; decide
    clear q2 el
    go_enter Tryz.func50, Tryz.ntmps50
    go_wp2_with fail
    go_ret
    exact ⟨by rw [HK.out]; rfl, rfl⟩
  have b2 : (s.toList == [65, 67, 89, 67, 76, 73, 67]) = false := by rw [el]; simpa using q2
  by_cases q3 : s.data.toList = [83, 73, 77, 80, 76, 69]
  · have HK := Lib.hid (show isKeyB s.data.toList = true by rw [q3]; decide)
    have b3 : (s.toList == [83, 73, 77, 80, 76, 69]) = true := by rw [el, q3]; decide
    clear q3 el
    go_enter Tryz.func50, Tryz.ntmps50
    go_wp2_with fail
    go_ret
    exact ⟨by rw [HK.out]; rfl, rfl⟩
  have b3 : (s.toList == [83, 73, 77, 80, 76, 69]) = false := by rw [el]; simpa using q3
  by_cases q4 : s.data.toList = [65, 76, 76]
  · have HK := Lib.hid (show isKeyB s.data.toList = true by rw [q4]; decide)
    have b4 : (s.toList == [65, 76, 76]) = true := by rw [el, q4]; decide
    clear q4 el
    go_enter Tryz.func50, Tryz.ntmps50
    go_wp2_with fail
    go_ret
    exact ⟨by rw [HK.out]; rfl, rfl⟩
  have b4 : (s.toList == [65, 76, 76]) = false := by rw [el]; simpa using q4
  by_cases q5 : s.data.toList = [65, 78, 89]
  · have HK := Lib.hid (show isKeyB s.data.toList = true by rw [q5]; decide)
    have b5 : (s.toList == [65, 78, 89]) = true := by rw [el, q5]; decide
    clear q5 el
    go_enter Tryz.func50, Tryz.ntmps50
    go_wp2_with fail
    go_ret
    exact ⟨by rw [HK.out]; rfl, rfl⟩
  have b5 : (s.toList == [65, 78, 89]) = false := by rw [el]; simpa using q5
  by_cases q6 : s.data.toList = [83, 72, 79, 82, 84, 69, 83, 84]
  · have HK := Lib.hid (show isKeyB s.data.toList = true by rw [q6]; decide)
    have b6 : (s.toList == [83, 72, 79, 82, 84, 69, 83, 84]) = true := by rw [el, q6]; decide
    clear q6 el
    go_enter Tryz.func50, Tryz.ntmps50
    go_wp2_with fail
    go_ret
    exact ⟨by rw [HK.out]; rfl, rfl⟩
  have b6 : (s.toList == [83, 72, 79, 82, 84, 69, 83, 84]) = false := by rw [el]; simpa using q6
  by_cases q7 : s.data.toList = [87, 72, 69, 82, 69]
  · have HK := Lib.hid (show isKeyB s.data.toList = true by rw [q7]; decide)
    have b7 : (s.toList == [87, 72, 69, 82, 69]) = true := by rw [el, q7]; decide
    clear q7 el
    go_enter Tryz.func50, Tryz.ntmps50
    go_wp2_with fail
    go_ret
    exact ⟨by rw [HK.out]; rfl, rfl⟩
  have b7 : (s.toList == [87, 72, 69, 82, 69]) = false := by rw [el]; simpa using q7
  by_cases q8 : s.data.toList = [79, 82]
  · have HK := Lib.hid (show isKeyB s.data.toList = true by rw [q8]; decide)
    have b8 : (s.toList == [79, 82]) = true := by rw [el, q8]; decide
    clear q8 el
    go_enter Tryz.func50, Tryz.ntmps50
    go_wp2_with fail
    go_ret
    exact ⟨by rw [HK.out]; rfl, rfl⟩
  have b8 : (s.toList == [79, 82]) = false := by rw [el]; simpa using q8
  by_cases q9 : s.data.toList = [65, 78, 68]
  · have HK := Lib.hid (show isKeyB s.data.toList = true by rw [q9]; decide)
    have b9 : (s.toList == [65, 78, 68]) = true := by rw [el, q9]; decide
    clear q9 el
    go_enter Tryz.func50, Tryz.ntmps50
    go_wp2_with fail
    go_ret
    exact ⟨by rw [HK.out]; rfl, rfl⟩
  have b9 : (s.toList == [65, 78, 68]) = false := by rw [el]; simpa using q9
  by_cases q10 : s.data.toList = [78, 79, 84]
  · have HK := Lib.hid (show isKeyB s.data.toList = true by rw [q10]; decide)
    have b10 : (s.toList == [78, 79, 84]) = true := by rw [el, q10]; decide
    clear q10 el
    go_enter Tryz.func50, Tryz.ntmps50
    go_wp2_with fail
    go_ret
    exact ⟨by rw [HK.out]; rfl, rfl⟩
  have b10 : (s.toList == [78, 79, 84]) = false := by rw [el]; simpa using q10
  by_cases q11 : s.data.toList = [73, 83]
  · have HK := Lib.hid (show isKeyB s.data.toList = true by rw [q11]; decide)
    have b11 : (s.toList == [73, 83]) = true := by rw [el, q11]; decide
    clear q11 el
    go_enter Tryz.func50, Tryz.ntmps50
    go_wp2_with fail
    go_ret
    exact ⟨by rw [HK.out]; rfl, rfl⟩
  have b11 : (s.toList == [73, 83]) = false := by rw [el]; simpa using q11
  by_cases q12 : s.data.toList = [110, 117, 108, 108]
  · have HK := Lib.hid (show isKeyB s.data.toList = true by rw [q12]; decide)
    have b12 : (s.toList == [110, 117, 108, 108]) = true := by rw [el, q12]; decide
    clear q12 el
    go_enter Tryz.func50, Tryz.ntmps50
    go_wp2_with fail
    go_ret
    exact ⟨by rw [HK.out]; rfl, rfl⟩
  have b12 : (s.toList == [110, 117, 108, 108]) = false := by rw [el]; simpa using q12
  by_cases q13 : s.data.toList = [116, 114, 117, 101]
  · have HK := Lib.hid (show isKeyB s.data.toList = true by rw [q13]; decide)
    have b13 : (s.toList == [116, 114, 117, 101]) = true := by rw [el, q13]; decide
    clear q13 el
    go_enter Tryz.func50, Tryz.ntmps50
    go_wp2_with fail
    go_ret
    exact ⟨by rw [HK.out]; rfl, rfl⟩
  have b13 : (s.toList == [116, 114, 117, 101]) = false := by rw [el]; simpa using q13
  by_cases q14 : s.data.toList = [102, 97, 108, 115, 101]
  · have HK := Lib.hid (show isKeyB s.data.toList = true by rw [q14]; decide)
    have b14 : (s.toList == [102, 97, 108, 115, 101]) = true := by rw [el, q14]; decide
    clear q14 el
    go_enter Tryz.func50, Tryz.ntmps50
    go_wp2_with fail
    go_ret
    exact ⟨by rw [HK.out]; rfl, rfl⟩
  have b14 : (s.toList == [102, 97, 108, 115, 101]) = false := by rw [el]; simpa using q14
  by_cases q15 : s.data.toList = [105, 110, 102]
  · have HK := Lib.hid (show isKeyB s.data.toList = true by rw [q15]; decide)
    have b15 : (s.toList == [105, 110, 102]) = true := by rw [el, q15]; decide
    clear q15 el
    go_enter Tryz.func50, Tryz.ntmps50
    go_wp2_with fail
    go_ret
    exact ⟨by rw [HK.out]; rfl, rfl⟩
  have b15 : (s.toList == [105, 110, 102]) = false := by rw [el]; simpa using q15
  by_cases q16 : s.data.toList = [110, 97, 110]
  · have HK := Lib.hid (show isKeyB s.data.toList = true by rw [q16]; decide)
    have b16 : (s.toList == [110, 97, 110]) = true := by rw [el, q16]; decide
    clear q16 el
    go_enter Tryz.func50, Tryz.ntmps50
    go_wp2_with fail
    go_ret
    exact ⟨by rw [HK.out]; rfl, rfl⟩
  have b16 : (s.toList == [110, 97, 110]) = false := by rw [el]; simpa using q16
  have HK := Lib.hid (show isKeyB s.data.toList = false by
    unfold isKeyB keysL
    simp [q0, q1, q2, q3, q4, q5, q6, q7, q8, q9, q10, q11, q12, q13, q14, q15, q16])
  clear q0 q1 q2 q3 q4 q5 q6 q7 q8 q9 q10 q11 q12 q13 q14 q15 q16 el
  go_enter Tryz.func50, Tryz.ntmps50
  go_wp2_with fail
  go_ret
  exact ⟨by rw [HK.out]; rfl, rfl⟩
end Go.Proofs.YtainigcchlgehaaGreatDoor
