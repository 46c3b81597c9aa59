import Derived.Test.YtainigcchlgehaaGreatDoorBO
import Derived.Test.YtainigcchlgehaaGreatDoorB9
import Derived.Test.YtainigcchlgehaaGreatDoorB5
import Derived.Test.YtainigcchlgehaaGreatDoorBD
namespace Go.Proofs.YtainigcchlgehaaGreatDoor
open Go Go.RowKit
set_option linter.unusedVariables false
theorem one_null (s : ByteArray) (h : (s.toList == [110, 117, 108, 108]) = true) (w : World) :
    Calls Tryz.prog 57 #[.string s] w fun e w' => e = .returned (rpTuple (some (0, 0, 0))) ∧ Below w.heap.size w w' := by
  have hsf := run_store_float
  go_enter Tryz.func57, Tryz.ntmps57
  go_wp2_with fail
  refine (rnull_any _).mono ?_; rintro e w1 ⟨rfl, hb1⟩
  have l1 := (lies_new w (.int .i64 0) (.int .i64 0) (.float .f64 0) (.string ⟨#[]⟩) 41).below hb1
  have f1 := (free_new w (.int .i64 0) (.int .i64 0) (.float .f64 0) (.string ⟨#[]⟩) 41).below (lies_new _ _ _ _ _ _) hb1
  have ⟨_, _, _, _⟩ := l1
  have ⟨_, _, _, _⟩ := f1
  go_wp2_with fail
  exact ret_ve rfl rfl rfl rfl (l1.set _ _ _ _) ⟨rfl, below_set4 (Below.chain (below_a1 _ _) hb1) (Nat.le_refl _) _ _ _ _⟩
theorem one_truth (s : ByteArray) (b : Bool) (h0 : (s.toList == [110, 117, 108, 108]) = false) (h1 : (s.toList == [116, 114, 117, 101]) = b) (h2 : b = false → (s.toList == [102, 97, 108, 115, 101]) = true) (w : World) :
    Calls Tryz.prog 57 #[.string s] w fun e w' => e = .returned (rpTuple (some (1, b01 b, 0))) ∧ Below w.heap.size w w' := by
  have hsf := run_store_float
  cases b
  · have h3 := h2 rfl
    clear h2
    go_enter Tryz.func57, Tryz.ntmps57
    go_wp2_with fail
    refine (rtruth_any _ _).mono ?_; rintro e w1 ⟨rfl, hb1⟩
    have l1 := (lies_new w (.int .i64 0) (.int .i64 0) (.float .f64 0) (.string ⟨#[]⟩) 41).below hb1
    have f1 := (free_new w (.int .i64 0) (.int .i64 0) (.float .f64 0) (.string ⟨#[]⟩) 41).below (lies_new _ _ _ _ _ _) hb1
    have ⟨_, _, _, _⟩ := l1
    have ⟨_, _, _, _⟩ := f1
    go_wp2_with fail
    exact ret_ve rfl rfl rfl rfl (l1.set _ _ _ _) ⟨rfl, below_set4 (Below.chain (below_a1 _ _) hb1) (Nat.le_refl _) _ _ _ _⟩
  · clear h2
    go_enter Tryz.func57, Tryz.ntmps57
    go_wp2_with fail
    refine (rtruth_any _ _).mono ?_; rintro e w1 ⟨rfl, hb1⟩
    have l1 := (lies_new w (.int .i64 0) (.int .i64 0) (.float .f64 0) (.string ⟨#[]⟩) 41).below hb1
    have f1 := (free_new w (.int .i64 0) (.int .i64 0) (.float .f64 0) (.string ⟨#[]⟩) 41).below (lies_new _ _ _ _ _ _) hb1
    have ⟨_, _, _, _⟩ := l1
    have ⟨_, _, _, _⟩ := f1
    go_wp2_with fail
    exact ret_ve rfl rfl rfl rfl (l1.set _ _ _ _) ⟨rfl, below_set4 (Below.chain (below_a1 _ _) hb1) (Nat.le_refl _) _ _ _ _⟩
theorem one_float (s : ByteArray) (f : Nat) (h0 : (s.toList == [110, 117, 108, 108]) = false) (h1 : (s.toList == [116, 114, 117, 101]) = false) (h2 : (s.toList == [102, 97, 108, 115, 101]) = false) (P : ∀ w, Calls Tryz.prog 75 #[.string s] w fun e w' => e = .returned (.tuple #[.float .f64 f, .int .i64 0]) ∧ w = w') (w : World) :
    Calls Tryz.prog 57 #[.string s] w fun e w' => e = .returned (rpTuple (some (3, 0, f))) ∧ Below w.heap.size w w' := by
  have hsf := run_store_float
  go_enter Tryz.func57, Tryz.ntmps57
  go_wp2_with fail
  refine (P _).mono ?_; rintro e w' ⟨rfl, rfl⟩
  go_wp2_with fail
  exact ret_ve rfl rfl rfl rfl (lies_new _ _ _ _ _ _) ⟨rfl, below_a1 _ _⟩
theorem Lies.setN {w : World} {b : Nat} {v0 v1 v2 v3 : Value} (h : Lies w b v0 v1 v2 v3) (u : Value) : Lies (w.setCell ⟨b, 1, none⟩ u) b v0 u v2 v3 := by
  obtain ⟨h0, h1, h2, h3⟩ := h
  refine ⟨?_, ?_, ?_, ?_⟩ <;> go_simp
theorem Lies.setO {w : World} {b c : Nat} {v0 v1 v2 v3 : Value} (h : Lies w b v0 v1 v2 v3) (u : Value) (hc : c ≠ b) : Lies (w.setCell ⟨c, 1, none⟩ u) b v0 v1 v2 v3 := by
  obtain ⟨h0, h1, h2, h3⟩ := h
  refine ⟨?_, ?_, ?_, ?_⟩ <;> (rw [World.cell?_setCell_far _ _ _ _ hc]; assumption)
theorem Free.setN {w : World} {b c : Nat} (h : Free w b) (u : Value) : Free (w.setCell ⟨c, 1, none⟩ u) b := by
  obtain ⟨h0, h1, h2, h3⟩ := h
  refine ⟨?_, ?_, ?_, ?_⟩ <;> go_simp
end Go.Proofs.YtainigcchlgehaaGreatDoor


