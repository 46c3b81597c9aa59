import Derived.Test.YtdoefndppoglfaaG2
import Derived.ProofKit
import Derived.OpenShut
import Derived.Carry
import Derived.ChangeSlices
import Derived.Lib.SmallJoins
import Derived.Laws.Cover2
import Derived.Deep.Slices
namespace Go.Proofs.Ytdoefndppoglfaa
open Go Go.ChangeShapes Go.WideShapes Go.ChangeAt Go.RowKit
open Go.Joins
set_option linter.unusedVariables false
/-- is the name at a place a word, and beyond the one before it? -/
def rOk (l : List ByteArray) (i : Nat) : Bool := wordB l[i]! && (decide (i = 0) || Op.bytesLess (byt l[i - 1]!) (byt l[i]!))
def risingN (l : List ByteArray) (n : Nat) : Bool := (List.range n).all (rOk l)
/-- words that rise -/
def risingB (l : List ByteArray) : Bool := risingN l l.length
theorem risingN_succ (l : List ByteArray) (n : Nat) : risingN l (n + 1) = (risingN l n && rOk l n) := by
  unfold risingN
  rw [List.range_succ, List.all_append]
  simp
theorem rising_no {l : List ByteArray} {i : Nat} (hi : i < l.length) (h : rOk l i = false) : risingB l = false := by
  unfold risingB risingN
  rw [Bool.eq_false_iff]
  intro ha
  have := List.all_eq_true.1 ha i (List.mem_range.2 hi)
  rw [h] at this
  cases this
theorem rOk_word {l : List ByteArray} {i : Nat} (hi : i < l.length) (h : wordB l[i] = false) : rOk l i = false := by
  unfold rOk
  rw [getElem!_pos l i hi, h]
  rfl
theorem rOk_first {l : List ByteArray} (hi : 0 < l.length) (h : wordB l[0] = true) : rOk l 0 = true := by
  unfold rOk
  rw [getElem!_pos l 0 hi, h]
  simp
theorem rOk_next {l : List ByteArray} {k : Nat} (hi : k + 1 < l.length) (h : wordB l[k + 1] = true) : rOk l (k + 1) = Op.bytesLess (byt (l[k]'(by omega))) (byt l[k + 1]) := by
  unfold rOk
  rw [getElem!_pos l (k + 1) hi, h, Nat.add_sub_cancel, getElem!_pos l k (by omega)]
  simp
theorem RwS.at {w : World} {ao : Option Addr} {n cap : Nat} {l : List ByteArray} (h : RwS w (.slice ao n cap) l) (i : Nat) (hi : i < l.length) :
    ∃ b o, ao = some ⟨b, o, none⟩ ∧ ∀ j (hj : j < l.length), w.cell? ⟨b, o + j, none⟩ = some (.string l[j]) := by
  obtain ⟨ao', cap', he, -, -, -, h5⟩ := h
  cases he
  obtain ⟨b, o, ha, -⟩ := h5 i hi
  refine ⟨b, o, ha, fun j hj => ?_⟩
  obtain ⟨b', o', ha', hc⟩ := h5 j hj
  rw [ha] at ha'
  cases ha'
  have := hc 0 (by decide)
  simpa [encS] using this
set_option maxRecDepth 100000 in
set_option maxHeartbeats 4000000 in
theorem rising_any (l : List ByteArray) (v : Value) (w : World) (h : RwS w v l) :
    Calls Try.prog 32 #[v] w fun e w' => e = .returned (.bool (risingB l)) ∧ Below w.heap.size w w' := by
  have hL : ∃ ao L cap, v = .slice ao L cap ∧ l.length = L ∧ L ≤ 9223372036854775807 := by
    obtain ⟨a, c, e, e1, e2, -⟩ := h
    simp only [maxLen] at e2
    exact ⟨a, _, c, e, rfl, by omega⟩
  obtain ⟨ao, L, cap, rfl, hL, hLm⟩ := hL
  have HR := Lib.hid h
  have HL := Lib.hid hL
  clear h hL
  go_enter Try.func32, Try.ntmps32
  go_wp2_with fail
  go_loopg [3, 4] L (fun g s3 s4 wr => ∃ i : Nat, g + i = L ∧ s3 = .int .i64 i ∧ risingN l i = true ∧ Below w.heap.size w wr)
  case atStart => exact ⟨0, rfl, rfl, rfl, Below.refl _ _⟩
  case round =>
    obtain ⟨i, hg, rfl, hy, hb⟩ := hrel
    by_cases hlt : i < L
    · have ii : (i : Int) < (L : Int) := by omega
      have hi : i < l.length := by rw [HL.out]; exact hlt
      obtain ⟨b, o, rfl, hc⟩ := RwS.at (HR.out.keep hb) i hi
      have q0 := hc i hi
      have HW := Lib.hid hy
      have D := Lib.hid (rword_any l[i])
      have hw := hb.drew
      clear hy
      cases hwd : wordB l[i]
      · have HF := Lib.hid (rising_no hi (rOk_word hi hwd))
        rw [hwd] at D
        clear hc hwd
        generalize l[i] = z at *
        go_wp2_with fail
        (with_reducible refine (D.out _).mono ?_); rintro e w3 ⟨rfl, rfl⟩
        go_wp2_with fail
        go_region
        all_goals
          go_wp2_with fail
          go_ret
          exact ⟨by rw [HF.out]; rfl, hw⟩
      · rw [hwd] at D
        by_cases hz : i = 0
        · subst hz
          have HF := Lib.hid (show risingN l (0 + 1) = true by rw [risingN_succ, HW.out, rOk_first hi hwd]; rfl)
          clear hc hwd
          simp only [Nat.add_zero] at q0
          generalize l[0] = z at *
          go_wp2_with fail
          (with_reducible refine (D.out _).mono ?_); rintro e w3 ⟨rfl, rfl⟩
          go_wp2_with fail
          go_region
          all_goals
            go_wp2_with fail
            go_roundg (L - (0 + 1))
            case rel => exact ⟨0 + 1, by omega, by go_num, HF.out, hw⟩
            case measure => omega
        · obtain ⟨k, rfl⟩ : ∃ k, i = k + 1 := ⟨i - 1, by omega⟩
          have q1 := hc k (by omega)
          have g1 : ((k + 1 : Nat) : Int) > 0 := by omega
          have e1 : (((k + 1 : Nat) : Int) - 1) = (k : Int) := by omega
          have hs := rOk_next hi hwd
          have HT := Lib.hid (show Op.bytesLess (byt (l[k]'(by omega))) (byt l[k + 1]) = true → risingN l (k + 1 + 1) = true by
            intro e
            rw [risingN_succ, HW.out, hs, e]; rfl)
          have HF := Lib.hid (show Op.bytesLess (byt (l[k]'(by omega))) (byt l[k + 1]) = false → risingB l = false by
            intro e
            exact rising_no hi (by rw [hs, e]))
          clear hs
          rw [← tl_byt, ← tl_byt] at HT HF
          clear hc hwd
          generalize l[k + 1] = z at *
          generalize l[k]'_ = y at *
          cases hl : Op.bytesLess y.toList z.toList
          · have HF2 := Lib.hid (HF.out hl)
            go_wp2_with fail
            (with_reducible refine (D.out _).mono ?_); rintro e w3 ⟨rfl, rfl⟩
            go_wp2_with fail
            go_region
            all_goals
              go_wp2_with fail
              go_ret
              exact ⟨by rw [HF2.out]; rfl, hw⟩
          · have HT2 := Lib.hid (HT.out hl)
            go_wp2_with fail
            (with_reducible refine (D.out _).mono ?_); rintro e w3 ⟨rfl, rfl⟩
            go_wp2_with fail
            go_region
            all_goals
              go_wp2_with fail
              go_roundg (L - (k + 1 + 1))
              case rel => exact ⟨k + 1 + 1, by omega, by go_num, HT2.out, hw⟩
              case measure => omega
    · obtain rfl : L = i := by omega
      have ii : ¬ ((L : Int) < (L : Int)) := by omega
      rw [← HL.out] at hy
      have HY := Lib.hid (show risingB l = true from hy)
      clear hy
      go_wp2_with fail
      go_ret
      exact ⟨by rw [HY.out]; rfl, hb⟩
end Go.Proofs.Ytdoefndppoglfaa
