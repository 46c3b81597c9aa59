import Derived.Test.YtdoefndppoglfaaHE
import Derived.BigQuiet
namespace Go.Proofs.Ytdoefndppoglfaa
open Go.ChangeShapes Go.WideShapes Go.ChangeAt Go.RowKit
set_option linter.unusedVariables false
/-- is there a step of an edge to a node? -/
def hasB (l : List St) (a b : Int) : Bool := l.any fun x => x.1 == a && x.2 == b
theorem hasB_mem {l : List St} {a b : Int} : hasB l a b = true ↔ (a, b) ∈ l := by
  unfold hasB
  rw [List.any_eq_true]
  constructor
  · rintro ⟨⟨x, y⟩, hx, h⟩
    simp only [Bool.and_eq_true, beq_iff_eq] at h
    obtain ⟨rfl, rfl⟩ := h
    exact hx
  · intro h
    exact ⟨_, h, by simp⟩
set_option maxHeartbeats 1000000 in
theorem has_any (l : List St) (v : Value) (a b : Int) (w : World) (h : RwT w v l) :
    Calls Try.prog 28 #[v, .int .i64 a, .int .i64 b] w fun e w' => e = .returned (.bool (hasB l a b)) ∧ Below w.heap.size w w' := by
  have hL : ∃ ao L cap, v = .slice ao L cap ∧ l.length = L ∧ L ≤ 9223372036854775807 := by
    obtain ⟨a, c, e, e1, e2, -⟩ := h
    simp only [maxLen] at e2
    exact ⟨a, _, c, e, rfl, by omega⟩
  obtain ⟨ao, L, cap, rfl, hL, hLm⟩ := hL
  have HR := Lib.hid h
  have HL := Lib.hid hL
  clear h hL
  go_enter Try.func28, Try.ntmps28
  go_wp2_with fail
  go_loopg [7] L (fun g s7 wr => ∃ i : Nat, g + i = L ∧ s7 = .int .i64 i ∧ hasB (l.take i) a b = false ∧ Below w.heap.size w wr)
  case atStart => exact ⟨0, rfl, rfl, rfl, Below.refl _ _⟩
  case round =>
    obtain ⟨i, hg, rfl, hy, hb⟩ := hrel
    by_cases hlt : i < L
    · have ii : (i : Int) < (L : Int) := by omega
      have hi : i < l.length := by rw [HL.out]; exact hlt
      obtain ⟨bk, o, rfl, q0, q1⟩ := steps_at (HR.out.keep hb) i hi
      have HT := Lib.hid (show ¬ (l[i].1 = a ∧ l[i].2 = b) → hasB (l.take (i + 1)) a b = false by
        intro e
        have e' : ¬ ((l[i].1 == a && l[i].2 == b) = true) := by simpa using e
        rw [List.take_succ_eq_append_getElem hi]
        unfold hasB at hy ⊢
        rw [List.any_append, hy]
        simpa using e)
      have HF := Lib.hid (show (l[i].1 = a ∧ l[i].2 = b) → hasB l a b = true by
        intro e
        rw [hasB_mem, ← e.1, ← e.2]
        exact List.getElem_mem hi)
      clear hy
      generalize l[i].1 = z at *
      generalize l[i].2 = y at *
      have hw := hb.drew
      by_cases e1 : z = a
      · subst e1
        have c1 : (z == z) = true := by simp
        by_cases e2 : y = b
        · subst e2
          have c2 : (y == y) = true := by simp
          have HF2 := Lib.hid (HF.out ⟨rfl, rfl⟩)
          clear HT HF
          go_wp2_with fail
          go_ret
          exact ⟨by first | (rw [HF2.out]; done) | (rw [HF2.out]; rfl), hb⟩
        · have c2 : (y == b) = false := by simp [e2]
          have HT2 := Lib.hid (HT.out (fun h => e2 h.2))
          clear HT HF
          go_wp2_with fail
          go_roundg (L - (i + 1))
          case rel => exact ⟨i + 1, by omega, by go_num, HT2.out, hb⟩
          case measure => omega
      · have c1 : (z == a) = false := by simp [e1]
        have HT2 := Lib.hid (HT.out (fun h => e1 h.1))
        clear HT HF
        go_wp2_with fail
        go_roundg (L - (i + 1))
        case rel => exact ⟨i + 1, by omega, by go_num, HT2.out, hb⟩
        case measure => omega
    · obtain rfl : L = i := by omega
      have ii : ¬ ((L : Int) < (L : Int)) := by omega
      have ht : l.take L = l := List.take_of_length_le (by rw [HL.out]; exact Nat.le_refl _)
      rw [ht] at hy
      have HY := Lib.hid hy
      clear hy ht
      go_wp2_with fail
      go_ret
      exact ⟨by first | (rw [HY.out]; done) | (rw [HY.out]; rfl), hb⟩
end Go.Proofs.Ytdoefndppoglfaa
