/- The walk of the law LexTells. -/
import Derived.Test.YtainigcchlgehaaGreatDoorXP
namespace Go.Proofs.YtainigcchlgehaaGreatDoor.LexTells
open Go Go.ChangeShapes Go.WideShapes Go.ChangeAt Go.RowKit
open Go.Joins
set_option linter.unusedVariables false
set_option maxHeartbeats 4000000 in
set_option maxRecDepth 100000 in
theorem same_yes (r : List Tk) (v1 v2 : Value) (w : World) (h1 : RwK w v1 r) (h2 : RwK w v2 r) : Calls Tryz.prog 12 #[v1, v2] w fun e w' => e = .returned (.bool true) ∧ Below w.heap.size w w' := by
  have hL : ∃ ao L cap, v1 = .slice ao L cap ∧ r.length = L ∧ L ≤ 9223372036854775807 := by
    obtain ⟨a, c, e, e1, e2, -⟩ := h1
    simp only [maxLen] at e2
    exact ⟨a, _, c, e, rfl, by omega⟩
  obtain ⟨ao, L, cap, rfl, hL, hLm⟩ := hL
  have hM : ∃ bo cbp, v2 = .slice bo L cbp := by
    obtain ⟨a, c, e, -⟩ := h2
    rw [hL] at e
    exact ⟨a, c, e⟩
  obtain ⟨bo, cbp, rfl⟩ := hM
  have H1 := Lib.hid h1
  have H2 := Lib.hid h2
  have HL := Lib.hid hL
  have c0 := Lib.hid (Below.refl w.heap.size w)
  clear h1 h2 hL
  go_enter Tryz.func12, Tryz.ntmps12
  go_wp2_with fail
  go_loopg [5] L (fun g s5 wr => ∃ i : Nat, g + i = L ∧ s5 = .int .i64 i ∧ Below w.heap.size w wr)
  case atStart => exact ⟨0, rfl, rfl, c0.out⟩
  case round =>
    obtain ⟨i, hg, rfl, hb⟩ := hrel
    have HB := Lib.hid hb
    have i0 : (0 : Int) ≤ (i : Int) := by omega
    by_cases hlt : i < L
    · have ii : (i : Int) < (L : Int) := by omega
      obtain ⟨b1, o1, rfl, hc1⟩ := RwK.at (H1.out.keep hb) i (by rw [HL.out]; exact hlt)
      obtain ⟨p0, p1, p2⟩ := hc1 i (by rw [HL.out]; exact hlt)
      obtain ⟨b2, o2, rfl, hc2⟩ := RwK.at (H2.out.keep hb) i (by rw [HL.out]; exact hlt)
      obtain ⟨q0, q1, q2⟩ := hc2 i (by rw [HL.out]; exact hlt)
      generalize r[i]'(by rw [HL.out]; exact hlt) = t at *
      obtain ⟨tk, tx, tp⟩ := t
      simp only at p0 p1 p2 q0 q1 q2
      clear hc1 hc2 hb
      go_wp2_with fail
      go_quiet (fail)
      all_goals
        go_wp2_with fail
        go_roundg (L - (i + 1))
        case rel => exact ⟨i + 1, by omega, by go_num, below_drewN HB.out _⟩
        case measure => omega
    · have ii : ¬ ((i : Int) < (L : Int)) := by omega
      go_wp2_with fail
      go_ret
      exact ⟨rfl, HB.out⟩
theorem rlexR_bad {w w' : World} {l : Bt} {e : Ending} {p : Nat} (h : RLexR w l e w') (hx : lexT l 0 = .error p) : e = .returned (.tuple #[.slice none 0 0, .int .i64 (p : Int), .int .i64 2]) ∧ Below w.heap.size w w' := by
  unfold RLexR at h; rw [hx] at h; exact h
theorem rlexR_ok {w w' : World} {l : Bt} {e : Ending} {r : List Tk} (h : RLexR w l e w') (hx : lexT l 0 = .ok r) : (∃ v, e = .returned (.tuple #[v, .int .i64 0, .int .i64 0]) ∧ OwT w' w.heap.size v r) ∧ Below w.heap.size w w' := by
  unfold RLexR at h; rw [hx] at h; exact h
set_option maxHeartbeats 4000000 in
set_option maxRecDepth 100000 in
theorem core (s S : ByteArray) (m : Nat) (hm : min (s.size : Int) 3000 = (m : Int)) (ml : (m : Int) ≤ (s.size : Int)) (hS : s.extract 0 m = S) (la : S.size ≤ 3000) (w : World) (hT : TabsX w) :
    Calls Tryz.prog 3 #[.string s] w fun e w' => e = .returned (.bool true) ∧ Below w.heap.size w w' := by
  have CS := Lib.hid (shown10_any w hT)
  have C1 := Lib.hid (fun u hu => lex_any S (by omega) u hu)
  have C2 := Lib.hid (fun u => rlex_any S (by omega) u)
  have m0 : (0 : Int) ≤ (m : Int) := by omega
  cases hx : lexT S.data.toList 0 with
  | error p =>
    have X := Lib.hid hx
    clear hx
    go_enter Tryz.func3, Tryz.ntmps3
    go_wp2_with fail
    refine CS.out.mono ?_; rintro e w1 ⟨rfl, hb1⟩
    go_wp2_with fail
    refine (C1.out _ (hT.below hb1)).mono ?_; rintro e w2 h2
    obtain ⟨rfl, hb2⟩ := lexR_bad h2 X.out
    have c2 := Below.chain hb1 hb2
    clear h2 hb1 hb2
    go_wp2_with fail
    refine (C2.out _).mono ?_; rintro e w3 h3
    obtain ⟨rfl, hb3⟩ := rlexR_bad h3 X.out
    have c3 := Below.chain c2 hb3
    clear h3 hb3 c2
    go_wp2_with fail
    refine (same_yes [] _ _ _ (Rw.nil _) (Rw.nil _)).mono ?_; rintro e w4 ⟨rfl, hb4⟩
    have c4 := Below.chain c3 hb4
    go_wp2_with fail
    go_ret
    exact ⟨rfl, c4⟩
  | ok r =>
    have X := Lib.hid hx
    clear hx
    go_enter Tryz.func3, Tryz.ntmps3
    go_wp2_with fail
    refine CS.out.mono ?_; rintro e w1 ⟨rfl, hb1⟩
    go_wp2_with fail
    refine (C1.out _ (hT.below hb1)).mono ?_; rintro e w2 h2
    obtain ⟨⟨v, rfl, hO⟩, hb2⟩ := lexR_ok h2 X.out
    obtain ⟨va, vc, rfl⟩ := hO.shape
    have c2 := Below.chain hb1 hb2
    have HO := Lib.hid hO
    clear h2 hb1 hb2 hO
    go_wp2_with fail
    refine (C2.out _).mono ?_; rintro e w3 h3
    obtain ⟨⟨v3, rfl, hO3⟩, hb3⟩ := rlexR_ok h3 X.out
    obtain ⟨va3, vc3, rfl⟩ := hO3.shape
    have c3 := Below.chain c2 hb3
    have HQ := Lib.hid (HO.out.below hb3).rw
    have HQ3 := Lib.hid hO3.rw
    clear h3 hb3 c2 hO3
    go_wp2_with fail
    refine (same_yes r _ _ _ HQ.out HQ3.out).mono ?_; rintro e w4 ⟨rfl, hb4⟩
    have c4 := Below.chain c3 hb4
    go_wp2_with fail
    go_ret
    exact ⟨rfl, c4⟩
theorem walk (s : ByteArray) (hs : s.size ≤ maxLen) (w : World) (hT : TabsX w) :
    Calls Tryz.prog 3 #[.string s] w fun e w' => e = .returned (.bool true) ∧ Below w.heap.size w w' := by
  have sA : (s.extract 0 (min s.size 3000)).size ≤ 3000 := by rw [ByteArray.size_extract]; omega
  exact core s _ (min s.size 3000) (by omega) (by omega) rfl sA w hT
end Go.Proofs.YtainigcchlgehaaGreatDoor.LexTells
