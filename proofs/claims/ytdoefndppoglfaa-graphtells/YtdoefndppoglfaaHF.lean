import Derived.Test.YtdoefndppoglfaaHE
import Derived.BigQuiet
namespace Go.Proofs.Ytdoefndppoglfaa
open Go.ChangeShapes Go.WideShapes Go.ChangeAt Go.RowKit
set_option linter.unusedVariables false
set_option maxHeartbeats 1000000 in
theorem sames_any (l m : List St) (v u : Value) (w : World) (h : RwT w v l) (h' : RwT w u m) :
    Calls Try.prog 30 #[v, u] w fun e w' => e = .returned (.bool (decide (l = m))) ∧ Below w.heap.size w w' := by
  have hL : ∃ ao L cap, v = .slice ao L cap ∧ l.length = L ∧ L ≤ 9223372036854775807 := by
    obtain ⟨a, c, e, e1, e2, -⟩ := h
    simp only [maxLen] at e2
    exact ⟨a, _, c, e, rfl, by omega⟩
  have hM : ∃ ao L cap, u = .slice ao L cap ∧ m.length = L ∧ L ≤ 9223372036854775807 := by
    obtain ⟨a, c, e, e1, e2, -⟩ := h'
    simp only [maxLen] at e2
    exact ⟨a, _, c, e, rfl, by omega⟩
  obtain ⟨ao, L, cap, rfl, hL, hLm⟩ := hL
  obtain ⟨bo, M, cbp, rfl, hM, hMm⟩ := hM
  have HR := Lib.hid h
  have HR2 := Lib.hid h'
  have HL := Lib.hid hL
  have HM := Lib.hid hM
  clear h h' hL hM
  by_cases hne : L = M
  · subst hne
    have en : ((L : Int) != (L : Int)) = false := by simp
    go_enter Try.func30, Try.ntmps30
    go_wp2_with fail
    go_loopg [5] L (fun g s5 wr => ∃ i : Nat, g + i = L ∧ s5 = .int .i64 i ∧ (l.take i = m.take i) ∧ Below w.heap.size w wr)
    case atStart => exact ⟨0, rfl, rfl, rfl, Below.refl _ _⟩
    case round =>
      obtain ⟨i, hg, rfl, hy, hb⟩ := hrel
      by_cases hlt : i < L
      · have ii : (i : Int) < (L : Int) := by omega
        have hi : i < l.length := by rw [HL.out]; exact hlt
        have hj : i < m.length := by rw [HM.out]; exact hlt
        obtain ⟨b, o, rfl, q0, q1⟩ := steps_at (HR.out.keep hb) i hi
        obtain ⟨b2, o2, rfl, p0, p1⟩ := steps_at (HR2.out.keep hb) i hj
        have HT := Lib.hid (show (l[i].1 = m[i].1 ∧ l[i].2 = m[i].2) → l.take (i + 1) = m.take (i + 1) by
          intro e
          rw [List.take_succ_eq_append_getElem hi, List.take_succ_eq_append_getElem hj, hy, Prod.ext e.1 e.2])
        have HF := Lib.hid (show ¬ (l[i].1 = m[i].1 ∧ l[i].2 = m[i].2) → decide (l = m) = false by
          intro e
          refine decide_eq_false fun hs => ?_
          subst hs
          exact e ⟨rfl, rfl⟩)
        have HY := Lib.hid hy
        clear hy
        generalize l[i].1 = z at *
        generalize l[i].2 = y at *
        generalize m[i].1 = z2 at *
        generalize m[i].2 = y2 at *
        have hw := hb.drew
        by_cases e1 : z = z2
        · subst e1
          have c1 : (z == z) = true := by simp
          have c1' : (z != z) = false := by simp
          by_cases e2 : y = y2
          · subst e2
            have c2 : (y == y) = true := by simp
            have c2' : (y != y) = false := by simp
            have HT2 := Lib.hid (HT.out ⟨rfl, rfl⟩)
            clear HT HF
            go_wp2_with fail
            go_quiet (fail)
            all_goals
              go_wp2_with fail
              go_roundg (L - (i + 1))
              case rel => exact ⟨i + 1, by omega, by go_num, HT2.out, by first | exact hw | exact below_drewN hb _⟩
              case measure => omega
          · have c2 : (y == y2) = false := by simp [e2]
            have c2' : (y != y2) = true := by simp [e2]
            have HF2 := Lib.hid (HF.out (fun h => e2 h.2))
            clear HT HF
            go_wp2_with fail
            go_quiet (fail)
            all_goals
              go_wp2_with fail
              go_ret
              exact ⟨by first | (rw [HF2.out]; done) | (rw [HF2.out]; rfl), by first | exact hw | exact below_drewN hb _⟩
        · have c1 : (z == z2) = false := by simp [e1]
          have c1' : (z != z2) = true := by simp [e1]
          have HF2 := Lib.hid (HF.out (fun h => e1 h.1))
          clear HT HF
          go_wp2_with fail
          go_quiet (fail)
          all_goals
            go_wp2_with fail
            go_ret
            exact ⟨by first | (rw [HF2.out]; done) | (rw [HF2.out]; rfl), by first | exact hw | exact below_drewN hb _⟩
      · obtain rfl : L = i := by omega
        have ii : ¬ ((L : Int) < (L : Int)) := by omega
        have ht : l.take L = l := List.take_of_length_le (by rw [HL.out]; exact Nat.le_refl _)
        have ht2 : m.take L = m := List.take_of_length_le (by rw [HM.out]; exact Nat.le_refl _)
        rw [ht, ht2] at hy
        have HY := Lib.hid (decide_eq_true hy)
        clear hy ht ht2
        go_wp2_with fail
        go_ret
        exact ⟨by first | (rw [HY.out]; done) | (rw [HY.out]; rfl), hb⟩
  · have en : ((L : Int) != (M : Int)) = true := by simp; omega
    have HY := Lib.hid (show decide (l = m) = false by
      refine decide_eq_false fun hs => ?_
      subst hs
      exact hne (HL.out.symm.trans HM.out))
    go_enter Try.func30, Try.ntmps30
    go_wp2_with fail
    go_ret
    exact ⟨by first | (rw [HY.out]; done) | (rw [HY.out]; rfl), Below.refl _ _⟩
set_option maxHeartbeats 1000000 in
theorem samesteps_any (l m : List St) (v u : Value) (w : World) (h : RwT w v l) (h' : RwT w u m) :
    Calls Try.prog 13 #[v, u] w fun e w' => e = .returned (.bool (decide (l = m))) ∧ Below w.heap.size w w' := by
  have hL : ∃ ao L cap, v = .slice ao L cap ∧ l.length = L ∧ L ≤ 9223372036854775807 := by
    obtain ⟨a, c, e, e1, e2, -⟩ := h
    simp only [maxLen] at e2
    exact ⟨a, _, c, e, rfl, by omega⟩
  have hM : ∃ ao L cap, u = .slice ao L cap ∧ m.length = L ∧ L ≤ 9223372036854775807 := by
    obtain ⟨a, c, e, e1, e2, -⟩ := h'
    simp only [maxLen] at e2
    exact ⟨a, _, c, e, rfl, by omega⟩
  obtain ⟨ao, L, cap, rfl, hL, hLm⟩ := hL
  obtain ⟨bo, M, cbp, rfl, hM, hMm⟩ := hM
  have HR := Lib.hid h
  have HR2 := Lib.hid h'
  have HL := Lib.hid hL
  have HM := Lib.hid hM
  clear h h' hL hM
  by_cases hne : L = M
  · subst hne
    have en : ((L : Int) != (L : Int)) = false := by simp
    go_enter Try.func13, Try.ntmps13
    go_wp2_with fail
    go_loopg [5] L (fun g s5 wr => ∃ i : Nat, g + i = L ∧ s5 = .int .i64 i ∧ (l.take i = m.take i) ∧ Below w.heap.size w wr)
    case atStart => exact ⟨0, rfl, rfl, rfl, Below.refl _ _⟩
    case round =>
      obtain ⟨i, hg, rfl, hy, hb⟩ := hrel
      by_cases hlt : i < L
      · have ii : (i : Int) < (L : Int) := by omega
        have hi : i < l.length := by rw [HL.out]; exact hlt
        have hj : i < m.length := by rw [HM.out]; exact hlt
        obtain ⟨b, o, rfl, q0, q1⟩ := steps_at (HR.out.keep hb) i hi
        obtain ⟨b2, o2, rfl, p0, p1⟩ := steps_at (HR2.out.keep hb) i hj
        have HT := Lib.hid (show (l[i].1 = m[i].1 ∧ l[i].2 = m[i].2) → l.take (i + 1) = m.take (i + 1) by
          intro e
          rw [List.take_succ_eq_append_getElem hi, List.take_succ_eq_append_getElem hj, hy, Prod.ext e.1 e.2])
        have HF := Lib.hid (show ¬ (l[i].1 = m[i].1 ∧ l[i].2 = m[i].2) → decide (l = m) = false by
          intro e
          refine decide_eq_false fun hs => ?_
          subst hs
          exact e ⟨rfl, rfl⟩)
        have HY := Lib.hid hy
        clear hy
        generalize l[i].1 = z at *
        generalize l[i].2 = y at *
        generalize m[i].1 = z2 at *
        generalize m[i].2 = y2 at *
        have hw := hb.drew
        by_cases e1 : z = z2
        · subst e1
          have c1 : (z == z) = true := by simp
          have c1' : (z != z) = false := by simp
          by_cases e2 : y = y2
          · subst e2
            have c2 : (y == y) = true := by simp
            have c2' : (y != y) = false := by simp
            have HT2 := Lib.hid (HT.out ⟨rfl, rfl⟩)
            clear HT HF
            go_wp2_with fail
            go_quiet (fail)
            all_goals
              go_wp2_with fail
              go_roundg (L - (i + 1))
              case rel => exact ⟨i + 1, by omega, by go_num, HT2.out, by first | exact hw | exact below_drewN hb _⟩
              case measure => omega
          · have c2 : (y == y2) = false := by simp [e2]
            have c2' : (y != y2) = true := by simp [e2]
            have HF2 := Lib.hid (HF.out (fun h => e2 h.2))
            clear HT HF
            go_wp2_with fail
            go_quiet (fail)
            all_goals
              go_wp2_with fail
              go_ret
              exact ⟨by first | (rw [HF2.out]; done) | (rw [HF2.out]; rfl), by first | exact hw | exact below_drewN hb _⟩
        · have c1 : (z == z2) = false := by simp [e1]
          have c1' : (z != z2) = true := by simp [e1]
          have HF2 := Lib.hid (HF.out (fun h => e1 h.1))
          clear HT HF
          go_wp2_with fail
          go_quiet (fail)
          all_goals
            go_wp2_with fail
            go_ret
            exact ⟨by first | (rw [HF2.out]; done) | (rw [HF2.out]; rfl), by first | exact hw | exact below_drewN hb _⟩
      · obtain rfl : L = i := by omega
        have ii : ¬ ((L : Int) < (L : Int)) := by omega
        have ht : l.take L = l := List.take_of_length_le (by rw [HL.out]; exact Nat.le_refl _)
        have ht2 : m.take L = m := List.take_of_length_le (by rw [HM.out]; exact Nat.le_refl _)
        rw [ht, ht2] at hy
        have HY := Lib.hid (decide_eq_true hy)
        clear hy ht ht2
        go_wp2_with fail
        go_ret
        exact ⟨by first | (rw [HY.out]; done) | (rw [HY.out]; rfl), hb⟩
  · have en : ((L : Int) != (M : Int)) = true := by simp; omega
    have HY := Lib.hid (show decide (l = m) = false by
      refine decide_eq_false fun hs => ?_
      subst hs
      exact hne (HL.out.symm.trans HM.out))
    go_enter Try.func13, Try.ntmps13
    go_wp2_with fail
    go_ret
    exact ⟨by first | (rw [HY.out]; done) | (rw [HY.out]; rfl), Below.refl _ _⟩
end Go.Proofs.Ytdoefndppoglfaa
