import Derived.Test.YtfhnjilflffdfaaEU
namespace Go.Proofs.Ytfhnjilflffdfaa
open Go Go.RowKit
set_option linter.unusedVariables false
theorem places_0 (s : ByteArray)  (h0 : (s.toList == [61]) = true) (w : World) : Calls Try.prog 31 #[.string s] w fun e w' => e = .returned (.tuple #[.int .i64 2, .bool true]) ∧ w = w' := by
  go_enter Try.func31, Try.ntmps31
  go_wp2_with fail
  go_ret2
  exact ⟨rfl, rfl⟩
theorem places_1 (s : ByteArray) (h0 : (s.toList == [61]) = false) (h1 : (s.toList == [60, 62]) = true) (w : World) : Calls Try.prog 31 #[.string s] w fun e w' => e = .returned (.tuple #[.int .i64 2, .bool true]) ∧ w = w' := by
  go_enter Try.func31, Try.ntmps31
  go_wp2_with fail
  go_ret2
  exact ⟨rfl, rfl⟩
theorem places_2 (s : ByteArray) (h0 : (s.toList == [61]) = false) (h1 : (s.toList == [60, 62]) = false) (h2 : (s.toList == [60]) = true) (w : World) : Calls Try.prog 31 #[.string s] w fun e w' => e = .returned (.tuple #[.int .i64 2, .bool true]) ∧ w = w' := by
  go_enter Try.func31, Try.ntmps31
  go_wp2_with fail
  go_ret2
  exact ⟨rfl, rfl⟩
theorem places_3 (s : ByteArray) (h0 : (s.toList == [61]) = false) (h1 : (s.toList == [60, 62]) = false) (h2 : (s.toList == [60]) = false) (h3 : (s.toList == [60, 61]) = true) (w : World) : Calls Try.prog 31 #[.string s] w fun e w' => e = .returned (.tuple #[.int .i64 2, .bool true]) ∧ w = w' := by
  go_enter Try.func31, Try.ntmps31
  go_wp2_with fail
  go_ret2
  exact ⟨rfl, rfl⟩
theorem places_4 (s : ByteArray) (h0 : (s.toList == [61]) = false) (h1 : (s.toList == [60, 62]) = false) (h2 : (s.toList == [60]) = false) (h3 : (s.toList == [60, 61]) = false) (h4 : (s.toList == [62]) = true) (w : World) : Calls Try.prog 31 #[.string s] w fun e w' => e = .returned (.tuple #[.int .i64 2, .bool true]) ∧ w = w' := by
  go_enter Try.func31, Try.ntmps31
  go_wp2_with fail
  go_ret2
  exact ⟨rfl, rfl⟩
theorem places_5 (s : ByteArray) (h0 : (s.toList == [61]) = false) (h1 : (s.toList == [60, 62]) = false) (h2 : (s.toList == [60]) = false) (h3 : (s.toList == [60, 61]) = false) (h4 : (s.toList == [62]) = false) (h5 : (s.toList == [62, 61]) = true) (w : World) : Calls Try.prog 31 #[.string s] w fun e w' => e = .returned (.tuple #[.int .i64 2, .bool true]) ∧ w = w' := by
  go_enter Try.func31, Try.ntmps31
  go_wp2_with fail
  go_ret2
  exact ⟨rfl, rfl⟩
theorem places_6 (s : ByteArray) (h0 : (s.toList == [61]) = false) (h1 : (s.toList == [60, 62]) = false) (h2 : (s.toList == [60]) = false) (h3 : (s.toList == [60, 61]) = false) (h4 : (s.toList == [62]) = false) (h5 : (s.toList == [62, 61]) = false) (h6 : (s.toList == [97, 110, 100]) = true) (w : World) : Calls Try.prog 31 #[.string s] w fun e w' => e = .returned (.tuple #[.int .i64 2, .bool true]) ∧ w = w' := by
  go_enter Try.func31, Try.ntmps31
  go_wp2_with fail
  go_ret2
  exact ⟨rfl, rfl⟩
theorem places_7 (s : ByteArray) (h0 : (s.toList == [61]) = false) (h1 : (s.toList == [60, 62]) = false) (h2 : (s.toList == [60]) = false) (h3 : (s.toList == [60, 61]) = false) (h4 : (s.toList == [62]) = false) (h5 : (s.toList == [62, 61]) = false) (h6 : (s.toList == [97, 110, 100]) = false) (h7 : (s.toList == [111, 114]) = true) (w : World) : Calls Try.prog 31 #[.string s] w fun e w' => e = .returned (.tuple #[.int .i64 2, .bool true]) ∧ w = w' := by
  go_enter Try.func31, Try.ntmps31
  go_wp2_with fail
  go_ret2
  exact ⟨rfl, rfl⟩
theorem places_8 (s : ByteArray) (h0 : (s.toList == [61]) = false) (h1 : (s.toList == [60, 62]) = false) (h2 : (s.toList == [60]) = false) (h3 : (s.toList == [60, 61]) = false) (h4 : (s.toList == [62]) = false) (h5 : (s.toList == [62, 61]) = false) (h6 : (s.toList == [97, 110, 100]) = false) (h7 : (s.toList == [111, 114]) = false) (h8 : (s.toList == [43]) = true) (w : World) : Calls Try.prog 31 #[.string s] w fun e w' => e = .returned (.tuple #[.int .i64 2, .bool true]) ∧ w = w' := by
  go_enter Try.func31, Try.ntmps31
  go_wp2_with fail
  go_ret2
  exact ⟨rfl, rfl⟩
theorem places_9 (s : ByteArray) (h0 : (s.toList == [61]) = false) (h1 : (s.toList == [60, 62]) = false) (h2 : (s.toList == [60]) = false) (h3 : (s.toList == [60, 61]) = false) (h4 : (s.toList == [62]) = false) (h5 : (s.toList == [62, 61]) = false) (h6 : (s.toList == [97, 110, 100]) = false) (h7 : (s.toList == [111, 114]) = false) (h8 : (s.toList == [43]) = false) (h9 : (s.toList == [45]) = true) (w : World) : Calls Try.prog 31 #[.string s] w fun e w' => e = .returned (.tuple #[.int .i64 2, .bool true]) ∧ w = w' := by
  go_enter Try.func31, Try.ntmps31
  go_wp2_with fail
  go_ret2
  exact ⟨rfl, rfl⟩
theorem places_10 (s : ByteArray) (h0 : (s.toList == [61]) = false) (h1 : (s.toList == [60, 62]) = false) (h2 : (s.toList == [60]) = false) (h3 : (s.toList == [60, 61]) = false) (h4 : (s.toList == [62]) = false) (h5 : (s.toList == [62, 61]) = false) (h6 : (s.toList == [97, 110, 100]) = false) (h7 : (s.toList == [111, 114]) = false) (h8 : (s.toList == [43]) = false) (h9 : (s.toList == [45]) = false) (h10 : (s.toList == [42]) = true) (w : World) : Calls Try.prog 31 #[.string s] w fun e w' => e = .returned (.tuple #[.int .i64 2, .bool true]) ∧ w = w' := by
  go_enter Try.func31, Try.ntmps31
  go_wp2_with fail
  go_ret2
  exact ⟨rfl, rfl⟩
theorem places_11 (s : ByteArray) (h0 : (s.toList == [61]) = false) (h1 : (s.toList == [60, 62]) = false) (h2 : (s.toList == [60]) = false) (h3 : (s.toList == [60, 61]) = false) (h4 : (s.toList == [62]) = false) (h5 : (s.toList == [62, 61]) = false) (h6 : (s.toList == [97, 110, 100]) = false) (h7 : (s.toList == [111, 114]) = false) (h8 : (s.toList == [43]) = false) (h9 : (s.toList == [45]) = false) (h10 : (s.toList == [42]) = false) (h11 : (s.toList == [110, 111, 116]) = true) (w : World) : Calls Try.prog 31 #[.string s] w fun e w' => e = .returned (.tuple #[.int .i64 1, .bool true]) ∧ w = w' := by
  go_enter Try.func31, Try.ntmps31
  go_wp2_with fail
  go_ret2
  exact ⟨rfl, rfl⟩
theorem places_12 (s : ByteArray) (h0 : (s.toList == [61]) = false) (h1 : (s.toList == [60, 62]) = false) (h2 : (s.toList == [60]) = false) (h3 : (s.toList == [60, 61]) = false) (h4 : (s.toList == [62]) = false) (h5 : (s.toList == [62, 61]) = false) (h6 : (s.toList == [97, 110, 100]) = false) (h7 : (s.toList == [111, 114]) = false) (h8 : (s.toList == [43]) = false) (h9 : (s.toList == [45]) = false) (h10 : (s.toList == [42]) = false) (h11 : (s.toList == [110, 111, 116]) = false) (h12 : (s.toList == [105, 115, 110, 117, 108, 108]) = true) (w : World) : Calls Try.prog 31 #[.string s] w fun e w' => e = .returned (.tuple #[.int .i64 1, .bool true]) ∧ w = w' := by
  go_enter Try.func31, Try.ntmps31
  go_wp2_with fail
  go_ret2
  exact ⟨rfl, rfl⟩
theorem places_13 (s : ByteArray) (h0 : (s.toList == [61]) = false) (h1 : (s.toList == [60, 62]) = false) (h2 : (s.toList == [60]) = false) (h3 : (s.toList == [60, 61]) = false) (h4 : (s.toList == [62]) = false) (h5 : (s.toList == [62, 61]) = false) (h6 : (s.toList == [97, 110, 100]) = false) (h7 : (s.toList == [111, 114]) = false) (h8 : (s.toList == [43]) = false) (h9 : (s.toList == [45]) = false) (h10 : (s.toList == [42]) = false) (h11 : (s.toList == [110, 111, 116]) = false) (h12 : (s.toList == [105, 115, 110, 117, 108, 108]) = false) (w : World) : Calls Try.prog 31 #[.string s] w fun e w' => e = .returned (.tuple #[.int .i64 0, .bool false]) ∧ w = w' := by
  go_enter Try.func31, Try.ntmps31
  go_wp2_with fail
  go_ret2
  exact ⟨rfl, rfl⟩
theorem places_any (s : ByteArray) (w : World) : Calls Try.prog 31 #[.string s] w fun e w' => e = .returned (.tuple #[.int .i64 (opN s : Nat), .bool (decide (opN s ≠ 0))]) ∧ w = w' := by
  by_cases h0 : s.toList = [61]
  · have e : opN s = 2 := by unfold opN; rw [h0]; rfl
    rw [e]
    exact places_0 s  (by simp [h0]) w
  by_cases h1 : s.toList = [60, 62]
  · have e : opN s = 2 := by unfold opN; rw [h1]; rfl
    rw [e]
    exact places_1 s (by simp [h0]) (by simp [h1]) w
  by_cases h2 : s.toList = [60]
  · have e : opN s = 2 := by unfold opN; rw [h2]; rfl
    rw [e]
    exact places_2 s (by simp [h0]) (by simp [h1]) (by simp [h2]) w
  by_cases h3 : s.toList = [60, 61]
  · have e : opN s = 2 := by unfold opN; rw [h3]; rfl
    rw [e]
    exact places_3 s (by simp [h0]) (by simp [h1]) (by simp [h2]) (by simp [h3]) w
  by_cases h4 : s.toList = [62]
  · have e : opN s = 2 := by unfold opN; rw [h4]; rfl
    rw [e]
    exact places_4 s (by simp [h0]) (by simp [h1]) (by simp [h2]) (by simp [h3]) (by simp [h4]) w
  by_cases h5 : s.toList = [62, 61]
  · have e : opN s = 2 := by unfold opN; rw [h5]; rfl
    rw [e]
    exact places_5 s (by simp [h0]) (by simp [h1]) (by simp [h2]) (by simp [h3]) (by simp [h4]) (by simp [h5]) w
  by_cases h6 : s.toList = [97, 110, 100]
  · have e : opN s = 2 := by unfold opN; rw [h6]; rfl
    rw [e]
    exact places_6 s (by simp [h0]) (by simp [h1]) (by simp [h2]) (by simp [h3]) (by simp [h4]) (by simp [h5]) (by simp [h6]) w
  by_cases h7 : s.toList = [111, 114]
  · have e : opN s = 2 := by unfold opN; rw [h7]; rfl
    rw [e]
    exact places_7 s (by simp [h0]) (by simp [h1]) (by simp [h2]) (by simp [h3]) (by simp [h4]) (by simp [h5]) (by simp [h6]) (by simp [h7]) w
  by_cases h8 : s.toList = [43]
  · have e : opN s = 2 := by unfold opN; rw [h8]; rfl
    rw [e]
    exact places_8 s (by simp [h0]) (by simp [h1]) (by simp [h2]) (by simp [h3]) (by simp [h4]) (by simp [h5]) (by simp [h6]) (by simp [h7]) (by simp [h8]) w
  by_cases h9 : s.toList = [45]
  · have e : opN s = 2 := by unfold opN; rw [h9]; rfl
    rw [e]
    exact places_9 s (by simp [h0]) (by simp [h1]) (by simp [h2]) (by simp [h3]) (by simp [h4]) (by simp [h5]) (by simp [h6]) (by simp [h7]) (by simp [h8]) (by simp [h9]) w
  by_cases h10 : s.toList = [42]
  · have e : opN s = 2 := by unfold opN; rw [h10]; rfl
    rw [e]
    exact places_10 s (by simp [h0]) (by simp [h1]) (by simp [h2]) (by simp [h3]) (by simp [h4]) (by simp [h5]) (by simp [h6]) (by simp [h7]) (by simp [h8]) (by simp [h9]) (by simp [h10]) w
  by_cases h11 : s.toList = [110, 111, 116]
  · have e : opN s = 1 := by unfold opN; rw [h11]; rfl
    rw [e]
    exact places_11 s (by simp [h0]) (by simp [h1]) (by simp [h2]) (by simp [h3]) (by simp [h4]) (by simp [h5]) (by simp [h6]) (by simp [h7]) (by simp [h8]) (by simp [h9]) (by simp [h10]) (by simp [h11]) w
  by_cases h12 : s.toList = [105, 115, 110, 117, 108, 108]
  · have e : opN s = 1 := by unfold opN; rw [h12]; rfl
    rw [e]
    exact places_12 s (by simp [h0]) (by simp [h1]) (by simp [h2]) (by simp [h3]) (by simp [h4]) (by simp [h5]) (by simp [h6]) (by simp [h7]) (by simp [h8]) (by simp [h9]) (by simp [h10]) (by simp [h11]) (by simp [h12]) w
  have e : opN s = 0 := by
    unfold opN
    rw [if_neg (by simp only [List.mem_cons, List.not_mem_nil]; simp [h0, h1, h2, h3, h4, h5, h6, h7, h8, h9, h10]), if_neg (by simp [h11, h12])]
  rw [e]
  exact places_13 s (by simp [h0]) (by simp [h1]) (by simp [h2]) (by simp [h3]) (by simp [h4]) (by simp [h5]) (by simp [h6]) (by simp [h7]) (by simp [h8]) (by simp [h9]) (by simp [h10]) (by simp [h11]) (by simp [h12]) w
end Go.Proofs.Ytfhnjilflffdfaa
