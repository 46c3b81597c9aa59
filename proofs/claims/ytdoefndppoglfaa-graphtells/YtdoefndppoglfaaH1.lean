import Derived.Test.YtdoefndppoglfaaG6
import Derived.Test.YtdoefndppoglfaaGW
import Derived.ProofKit
import Derived.Laws.Cover2
import Derived.Deep.Slices
import Derived.WalkLawsBesides
namespace Go.Proofs.Ytdoefndppoglfaa
open Go Go.ChangeShapes Go.WideShapes Go.ChangeAt Go.RowKit
open Go.Joins
set_option linter.unusedVariables false
/-- is it a place in a list of so many? -/
def placeB (i n : Int) : Bool := decide (0 ≤ i) && decide (i < n)
theorem isplace_any (i n : Int) (w : World) : Calls Try.prog 42 #[.int .i64 i, .int .i64 n] w fun e w' => e = .returned (.bool (placeB i n)) ∧ w' = w := by
  by_cases h1 : 0 ≤ i
  · by_cases h2 : i < n
    · have HB := Lib.hid (show placeB i n = true by simp [placeB, h1, h2])
      go_enter Try.func42, Try.ntmps42
      go_wp2_with fail
      go_ret
      exact ⟨by rw [HB.out]; rfl, rfl⟩
    · have HB := Lib.hid (show placeB i n = false by simp [placeB, h2])
      go_enter Try.func42, Try.ntmps42
      go_wp2_with fail
      go_ret
      exact ⟨by rw [HB.out]; rfl, rfl⟩
  · have HB := Lib.hid (show placeB i n = false by simp [placeB, h1])
    go_enter Try.func42, Try.ntmps42
    go_wp2_with fail
    go_ret
    exact ⟨by rw [HB.out]; rfl, rfl⟩
theorem nodename_any (n : ByteArray) (l p : Sl) (w : World) : Calls Try.prog 36 #[.agg #[.string n, l.v, p.v]] w fun e w' => e = .returned (.string n) ∧ Below w.heap.size w w' := by
  go_enter Try.func36, Try.ntmps36
  go_wp2_with fail
  go_ret
  exact ⟨rfl, below_a1 _ _⟩
theorem edgename_any (n : ByteArray) (f t : Int) (d : Bool) (l p : Sl) (w : World) : Calls Try.prog 38 #[.agg #[.string n, .int .i64 f, .int .i64 t, .bool d, l.v, p.v]] w fun e w' => e = .returned (.string n) ∧ Below w.heap.size w w' := by
  go_enter Try.func38, Try.ntmps38
  go_wp2_with fail
  go_ret
  exact ⟨rfl, below_a1 _ _⟩
set_option maxRecDepth 100000 in
set_option maxHeartbeats 4000000 in
theorem arelabels_any (l : List ByteArray) (v : Value) (w : World) (h : RwS w v l) :
    Calls Try.prog 58 #[v] w fun e w' => e = .returned (.bool (risingB l)) ∧ Below w.heap.size w w' := by
  have hL : ∃ ao L cap, v = .slice ao L cap ∧ l.length = L ∧ L ≤ 9223372036854775807 := by
    obtain ⟨a, c, e, e1, e2, -⟩ := h
    simp only [maxLen] at e2
    exact ⟨a, _, c, e, rfl, by omega⟩
  obtain ⟨ao, L, cap, rfl, hL, hLm⟩ := hL
  have HR := Lib.hid h
  have HL := Lib.hid hL
  clear h hL
  go_enter Try.func58, Try.ntmps58
  go_wp2_with fail
  go_loopg [3, 4, 7] L (fun g s3 s4 s7 wr => ∃ i : Nat, g + i = L ∧ s7 = .int .i64 i ∧ risingN l i = true ∧ Below w.heap.size w wr)
  case atStart => exact ⟨0, rfl, rfl, rfl, Below.refl _ _⟩
  case round =>
    obtain ⟨i, hg, rfl, hy, hb⟩ := hrel
    by_cases hlt : i < L
    · have ii : (i : Int) < (L : Int) := by omega
      have hi : i < l.length := by rw [HL.out]; exact hlt
      obtain ⟨b, o, rfl, hc⟩ := RwS.at (HR.out.keep hb) i hi
      have q0 := hc i hi
      have HW := Lib.hid hy
      have D := Lib.hid (lword_any l[i])
      have HBz := Lib.hid hb
      clear hy
      cases hwd : wordB l[i]
      · have HF := Lib.hid (rising_no hi (rOk_word hi hwd))
        rw [hwd] at D
        clear hc hwd
        generalize l[i] = z at *
        go_wp2_with fail
        (with_reducible refine (D.out _).mono ?_); rintro e w3 ⟨rfl, hb3⟩
        go_wp2_with fail
        go_ret
        exact ⟨by rw [HF.out]; rfl, Below.chain HBz.out hb3⟩
      · rw [hwd] at D
        by_cases hz : i = 0
        · subst hz
          have HF := Lib.hid (show risingN l (0 + 1) = true by rw [risingN_succ, HW.out, rOk_first hi hwd]; rfl)
          clear hc hwd
          simp only [Nat.add_zero] at q0
          generalize l[0] = z at *
          go_wp2_with fail
          (with_reducible refine (D.out _).mono ?_); rintro e w3 ⟨rfl, hb3⟩
          go_wp2_with fail
          go_roundg (L - (0 + 1))
          case rel => exact ⟨0 + 1, by omega, by go_num, HF.out, Below.chain HBz.out hb3⟩
          case measure => omega
        · obtain ⟨k, rfl⟩ : ∃ k, i = k + 1 := ⟨i - 1, by omega⟩
          have q1 := hc k (by omega)
          have g1 : ((k + 1 : Nat) : Int) > 0 := by omega
          have e1 : (((k + 1 : Nat) : Int) - 1) = (k : Int) := by omega
          have hs := rOk_next hi hwd
          have HT := Lib.hid (show Op.bytesLess (byt (l[k]'(by omega))) (byt l[k + 1]) = true → risingN l (k + 1 + 1) = true by
            intro e
            rw [risingN_succ, HW.out, hs, e]; rfl)
          have HF := Lib.hid (show Op.bytesLess (byt (l[k]'(by omega))) (byt l[k + 1]) = false → risingB l = false by
            intro e
            exact rising_no hi (by rw [hs, e]))
          clear hs
          rw [← tl_byt, ← tl_byt] at HT HF
          clear hc hwd
          generalize l[k + 1] = z at *
          generalize l[k]'_ = y at *
          have Q1 := Lib.hid q1
          clear q1
          cases hl : Op.bytesLess y.toList z.toList
          · have HF2 := Lib.hid (HF.out hl)
            go_wp2_with fail
            (with_reducible refine (D.out _).mono ?_); rintro e w3 ⟨rfl, hb3⟩
            have q1 := (hb3.cell (block_lt_of_cell Q1.out)).trans Q1.out
            go_wp2_with fail
            go_ret
            exact ⟨by rw [HF2.out]; rfl, Below.chain HBz.out hb3⟩
          · have HT2 := Lib.hid (HT.out hl)
            go_wp2_with fail
            (with_reducible refine (D.out _).mono ?_); rintro e w3 ⟨rfl, hb3⟩
            have q1 := (hb3.cell (block_lt_of_cell Q1.out)).trans Q1.out
            go_wp2_with fail
            go_roundg (L - (k + 1 + 1))
            case rel => exact ⟨k + 1 + 1, by omega, by go_num, HT2.out, Below.chain HBz.out hb3⟩
            case measure => omega
    · obtain rfl : L = i := by omega
      have ii : ¬ ((L : Int) < (L : Int)) := by omega
      rw [← HL.out] at hy
      have HY := Lib.hid (show risingB l = true from hy)
      clear hy
      go_wp2_with fail
      go_ret
      exact ⟨by rw [HY.out]; rfl, hb⟩
end Go.Proofs.Ytdoefndppoglfaa
