import Derived.Test.YtdoefndppoglfaaH1
import Derived.ProofKit
import Derived.Laws.Cover2
import Derived.Deep.Slices
import Derived.WalkLawsBesides
import Derived.Deep.QuietTactic
import Derived.BigQuiet
namespace Go.Proofs.Ytdoefndppoglfaa
open Go Go.ChangeShapes Go.WideShapes Go.ChangeAt Go.RowKit
open Go.Joins
set_option linter.unusedVariables false
theorem props_fst {l : List Pr} {i : Nat} (hi : i < l.length) : (l.map Prod.fst)[i]'(by simpa using hi) = l[i].1 := by simp
theorem props_no2 {l : List Pr} {i : Nat} (hi : i < l.length) (h : rOk (l.map Prod.fst) i = false) : propsB l = false := by
  unfold propsB
  rw [rising_no (by simpa using hi) h, Bool.and_false]
set_option maxRecDepth 100000 in
set_option maxHeartbeats 4000000 in
theorem areprops_core (l : List Pr) (ao : Option Addr) (L cap : Nat) (w : World) (h : RwP w (.slice ao L cap) l) (hok : ∀ q ∈ l, q.2.Ok) (hLm : L ≤ 9223372036854775807) :
    Calls Try.prog 59 #[.slice ao L cap] w fun e w' => e = .returned (.bool (propsB l)) ∧ Below w.heap.size w w' := by
  have hL : l.length = L := by obtain ⟨a, c, e, -⟩ := h; cases e; rfl
  have HR := Lib.hid h
  have HL := Lib.hid hL
  have HO := Lib.hid hok
  clear h hok hL
  have hsf := run_store_float
  go_enter Try.func59, Try.ntmps59
  go_wp2_with fail
  go_loopg [3, 4, 7] L (fun g s3 s4 s7 wr => ∃ i : Nat, g + i = L ∧ s7 = .int .i64 i ∧ (risingN (l.map Prod.fst) i && (l.take i).all valB) = true ∧ Below w.heap.size w wr)
  case atStart => exact ⟨0, rfl, rfl, rfl, Below.refl _ _⟩
  case round =>
    obtain ⟨i, hg, rfl, hy, hb⟩ := hrel
    by_cases hlt : i < L
    · have ii : (i : Int) < (L : Int) := by omega
      have hi : i < l.length := by rw [HL.out]; exact hlt
      obtain ⟨b, o, rfl, q0, q1, q2, q3, q4⟩ := RwP.at (HR.out.keep hb) i hi
      have HK := Lib.hid (HO.out _ (List.getElem_mem hi))
      rw [Bool.and_eq_true] at hy
      have HW := Lib.hid hy.1
      have HF := Lib.hid (show valB l[i] = false → propsB l = false from props_no hi)
      have HG := Lib.hid (show rOk (l.map Prod.fst) i = false → propsB l = false from props_no2 hi)
      have HT := Lib.hid (show rOk (l.map Prod.fst) i = true → valB l[i] = true → (risingN (l.map Prod.fst) (i + 1) && (l.take (i + 1)).all valB) = true by
        intro e1 e
        rw [risingN_succ, HW.out, e1, List.take_succ_eq_append_getElem hi, List.all_append, hy.2]
        simp [e])
      have HB := Lib.hid hb
      have hi2 : i < (l.map Prod.fst).length := by simpa using hi
      have HRw := Lib.hid (show wordB l[i].1 = false → rOk (l.map Prod.fst) i = false by
        intro e
        exact rOk_word hi2 (by rw [props_fst hi]; exact e))
      have B1 := fun o => HB.out.alloc hb.size o
      by_cases hz : i = 0
      · subst hz
        have HR1 := Lib.hid (show wordB l[0].1 = true → rOk (l.map Prod.fst) 0 = true by
          intro e
          exact rOk_first hi2 (by rw [props_fst hi]; exact e))
        clear hy hb
        generalize l[0] = z at *
        obtain ⟨nm, k, n, f, s⟩ := z
        dsimp only at q0 q1 q2 q3 q4 HK HT HF HRw HR1
        simp only [Nat.zero_mul, Nat.add_zero] at q0 q1 q2 q3 q4
        have D := Lib.hid (lword_any nm)
        have R := Lib.hid (right_any k n f HK.out.f2 s)
        have L0 : ∀ x : Later (wr.alloc (.cells #[.string nm, .int .i64 k, .int .i64 n, .float .f64 f, .string s] 69)), x.w.cell? ⟨wr.heap.size, 0, none⟩ = some (.string nm) := fun x => later_cell (by simp) x
        have VX := Lib.hid (Vr.new wr 69 #[.string nm, .int .i64 k, .int .i64 n, .float .f64 f, .string s])
        have B2 := Lib.hid (B1 (.cells #[.string nm, .int .i64 k, .int .i64 n, .float .f64 f, .string s] 69))
        have S2 := Lib.hid (B2.out.size)
        clear B1 HR HB HK HO
        cases hwd : wordB nm
        · rw [hwd] at D
          have HF2 := Lib.hid (HG.out (HRw.out hwd))
          have C1 := fun w' => D.out w'
          clear hwd
          go_wp2_with fail
          refine wp_region_later (by kernel_rfl) (by kernel_rfl) ?_
          repeat (go_big_quiet_step (first | with_reducible exact later_call (C1 _)))
          refine wpQuiet_nil ?_
          rintro w' ⟨x, rfl⟩
          go_wp2_with fail
          go_ret
          exact ⟨by rw [HF2.out]; rfl, B2.out.trans (x.kept.mono S2.out)⟩
        · rw [hwd] at D
          have C1 := fun w' => D.out w'
          have HR2 := Lib.hid (HR1.out hwd)
          clear hwd
          go_wp2_with fail
          refine wp_region_later (by kernel_rfl) (by kernel_rfl) ?_
          repeat (go_big_quiet_step (first | with_reducible exact later_call (C1 _)))
          refine wpQuiet_nil ?_
          rintro w' ⟨x, rfl⟩
          have VX2 := VX.out.keep x.kept
          have v1 := VX2.cell 1
          have v2 := VX2.cell 2
          have v3 := VX2.cell 3
          have v4 := VX2.cell 4
          simp only [List.getElem?_toArray, List.getElem?_cons_zero, List.getElem?_cons_succ] at v1 v2 v3 v4
          have BX := Lib.hid (B2.out.trans (x.kept.mono S2.out))
          have HSz := Lib.hid (Nat.le_trans S2.out x.kept.size)
          clear L0
          obtain ⟨xw, xk⟩ := x
          dsimp only at v1 v2 v3 v4 BX HSz VX2 ⊢
          clear xk
          cases hr : rightB k n f s
          · rw [hr] at R
            have HF2 := Lib.hid (HF.out (by simp [valB, hr]))
            clear hr
            go_wp2_with fail
            (with_reducible refine (R.out _).mono ?_); rintro e w2 ⟨rfl, hb2⟩
            have hw := Lib.hid (BX.out.trans (hb2.mono BX.out.size))
            go_wp2_with fail
            go_ret
            exact ⟨by rw [HF2.out]; rfl, hw.out⟩
          · rw [hr] at R
            by_cases hk : k = 0
            · subst hk
              have HF2 := Lib.hid (HF.out (by simp [valB]))
              clear hr
              go_wp2_with fail
              (with_reducible refine (R.out _).mono ?_); rintro e w2 ⟨rfl, hb2⟩
              have hw := Lib.hid (BX.out.trans (hb2.mono BX.out.size))
              have z1 := (hb2.cell (block_lt_of_cell v1)).trans v1
              go_wp2_with fail
              go_ret
              exact ⟨by rw [HF2.out]; rfl, hw.out⟩
            · have HT2 := Lib.hid (HT.out HR2.out (by simp [valB, hr, hk]))
              clear hr
              go_wp2_with fail
              (with_reducible refine (R.out _).mono ?_); rintro e w2 ⟨rfl, hb2⟩
              have hw := Lib.hid (BX.out.trans (hb2.mono BX.out.size))
              have z1 := (hb2.cell (block_lt_of_cell v1)).trans v1
              clear v1 v2 v3 v4
              go_wp2_with fail
              go_roundg (L - (0 + 1))
              case rel => exact ⟨0 + 1, by omega, by go_num, HT2.out, hw.out⟩
              case measure => omega
      · obtain ⟨j, rfl⟩ : ∃ j, i = j + 1 := ⟨i - 1, by omega⟩
        have hj : j < l.length := by omega
        obtain ⟨b', o', he, p0, -, -, -, -⟩ := RwP.at (HR.out.keep hb) j hj
        cases he
        have g1 : ((j + 1 : Nat) : Int) > 0 := by omega
        have e1 : (((j + 1 : Nat) : Int) - 1) = (j : Int) := by omega
        have hs := fun e => rOk_next (l := l.map Prod.fst) (k := j) hi2 e
        rw [props_fst hi, props_fst hj] at hs
        have HS := Lib.hid hs
        clear hy hb hs
        generalize l[j + 1] = z at *
        generalize l[j].1 = y at *
        obtain ⟨nm, k, n, f, s⟩ := z
        dsimp only at q0 q1 q2 q3 q4 HK HT HF HRw HS
        have D := Lib.hid (lword_any nm)
        have R := Lib.hid (right_any k n f HK.out.f2 s)
        have B1' := fun o => Below.alloc (Below.refl wr.heap.size wr) (Nat.le_refl _) o
        have L0 : ∀ x : Later (wr.alloc (.cells #[.string nm, .int .i64 k, .int .i64 n, .float .f64 f, .string s] 69)), x.w.cell? ⟨wr.heap.size, 0, none⟩ = some (.string nm) := fun x => later_cell (by simp) x
        have L1 : ∀ x : Later (wr.alloc (.cells #[.string nm, .int .i64 k, .int .i64 n, .float .f64 f, .string s] 69)), x.w.cell? ⟨b, o + j * 5, none⟩ = some (.string y) := fun x => later_cell (((B1' _).cell (block_lt_of_cell p0)).trans p0) x
        have VX := Lib.hid (Vr.new wr 69 #[.string nm, .int .i64 k, .int .i64 n, .float .f64 f, .string s])
        have B2 := Lib.hid (B1 (.cells #[.string nm, .int .i64 k, .int .i64 n, .float .f64 f, .string s] 69))
        have S2 := Lib.hid (B2.out.size)
        clear B1 B1' HR HB HK HO p0
        cases hwd : wordB nm
        · rw [hwd] at D
          have HF2 := Lib.hid (HG.out (HRw.out hwd))
          have C1 := fun w' => D.out w'
          clear hwd
          go_wp2_with fail
          refine wp_region_later (by kernel_rfl) (by kernel_rfl) ?_
          repeat (go_big_quiet_step (first | with_reducible exact later_call (C1 _)))
          refine wpQuiet_nil ?_
          rintro w' ⟨x, rfl⟩
          go_wp2_with fail
          go_ret
          exact ⟨by rw [HF2.out]; rfl, B2.out.trans (x.kept.mono S2.out)⟩
        · rw [hwd] at D
          have C1 := fun w' => D.out w'
          have HS2 := Lib.hid (HS.out hwd)
          rw [← tl_byt, ← tl_byt] at HS2
          clear hwd HS
          cases hlS : Op.bytesLess y.toList nm.toList
          · have HF2 := Lib.hid (HG.out (HS2.out.trans hlS))
            go_wp2_with fail
            refine wp_region_later (by kernel_rfl) (by kernel_rfl) ?_
            repeat (go_big_quiet_step (first | with_reducible exact later_call (C1 _)))
            refine wpQuiet_nil ?_
            rintro w' ⟨x, rfl⟩
            go_wp2_with fail
            go_ret
            exact ⟨by rw [HF2.out]; rfl, B2.out.trans (x.kept.mono S2.out)⟩
          · have HR2 := Lib.hid (HS2.out.trans hlS)
            go_wp2_with fail
            refine wp_region_later (by kernel_rfl) (by kernel_rfl) ?_
            repeat (go_big_quiet_step (first | with_reducible exact later_call (C1 _)))
            refine wpQuiet_nil ?_
            rintro w' ⟨x, rfl⟩
            have VX2 := VX.out.keep x.kept
            have v1 := VX2.cell 1
            have v2 := VX2.cell 2
            have v3 := VX2.cell 3
            have v4 := VX2.cell 4
            simp only [List.getElem?_toArray, List.getElem?_cons_zero, List.getElem?_cons_succ] at v1 v2 v3 v4
            have BX := Lib.hid (B2.out.trans (x.kept.mono S2.out))
            have HSz := Lib.hid (Nat.le_trans S2.out x.kept.size)
            clear L0 L1
            obtain ⟨xw, xk⟩ := x
            dsimp only at v1 v2 v3 v4 BX HSz VX2 ⊢
            clear xk
            cases hr : rightB k n f s
            · rw [hr] at R
              have HF2 := Lib.hid (HF.out (by simp [valB, hr]))
              clear hr
              go_wp2_with fail
              (with_reducible refine (R.out _).mono ?_); rintro e w2 ⟨rfl, hb2⟩
              have hw := Lib.hid (BX.out.trans (hb2.mono BX.out.size))
              go_wp2_with fail
              go_ret
              exact ⟨by rw [HF2.out]; rfl, hw.out⟩
            · rw [hr] at R
              by_cases hk : k = 0
              · subst hk
                have HF2 := Lib.hid (HF.out (by simp [valB]))
                clear hr
                go_wp2_with fail
                (with_reducible refine (R.out _).mono ?_); rintro e w2 ⟨rfl, hb2⟩
                have hw := Lib.hid (BX.out.trans (hb2.mono BX.out.size))
                have z1 := (hb2.cell (block_lt_of_cell v1)).trans v1
                go_wp2_with fail
                go_ret
                exact ⟨by rw [HF2.out]; rfl, hw.out⟩
              · have HT2 := Lib.hid (HT.out HR2.out (by simp [valB, hr, hk]))
                clear hr
                go_wp2_with fail
                (with_reducible refine (R.out _).mono ?_); rintro e w2 ⟨rfl, hb2⟩
                have hw := Lib.hid (BX.out.trans (hb2.mono BX.out.size))
                have z1 := (hb2.cell (block_lt_of_cell v1)).trans v1
                clear v1 v2 v3 v4
                go_wp2_with fail
                go_roundg (L - (j + 1 + 1))
                case rel => exact ⟨j + 1 + 1, by omega, by go_num, HT2.out, hw.out⟩
                case measure => omega
    · obtain rfl : L = i := by omega
      have ii : ¬ ((L : Int) < (L : Int)) := by omega
      have ht : l.take L = l := List.take_of_length_le (by rw [HL.out]; exact Nat.le_refl _)
      have HP := Lib.hid (show propsB l = true by
        unfold propsB risingB
        rw [ht, ← HL.out, Bool.and_eq_true] at hy
        rw [List.length_map, hy.1, hy.2]; rfl)
      clear hy ht
      go_wp2_with fail
      go_ret
      exact ⟨by rw [HP.out]; rfl, hb⟩
theorem areprops_any (l : List Pr) (v : Value) (w : World) (h : RwP w v l) (hok : ∀ q ∈ l, q.2.Ok) :
    Calls Try.prog 59 #[v] w fun e w' => e = .returned (.bool (propsB l)) ∧ Below w.heap.size w w' := by
  have hL : ∃ ao L cap, v = .slice ao L cap ∧ L ≤ 9223372036854775807 := by
    obtain ⟨a, c, e, e1, e2, -⟩ := h
    simp only [maxLen] at e2
    exact ⟨a, _, c, e, by omega⟩
  obtain ⟨ao, L, cap, rfl, hL⟩ := hL
  exact areprops_core l ao L cap w h hok hL
/-- may a node, or an edge, have these? -/
theorem iselement_any (n : ByteArray) (ls : List ByteArray) (ps : List Pr) (l p : Value) (w : World) (h1 : RwS w l ls) (h2 : RwP w p ps) (hok : ∀ q ∈ ps, q.2.Ok) :
    Calls Try.prog 54 #[.string n, l, p] w fun e w' => e = .returned (.bool (wordB n && (risingB ls && propsB ps))) ∧ Below w.heap.size w w' := by
  have D := Lib.hid (lword_any n w)
  have E1 := Lib.hid (fun w' (hb : Below w.heap.size w w') => arelabels_any ls l w' (h1.keep hb))
  have E2 := Lib.hid (fun w' (hb : Below w.heap.size w w') => areprops_any ps p w' (h2.keep hb) hok)
  obtain ⟨la, lc, rfl⟩ := h1.shape
  obtain ⟨pa, pc, rfl⟩ := h2.shape
  clear h1 h2 hok
  generalize wordB n = a at *
  generalize risingB ls = b at *
  generalize propsB ps = c at *
  cases a
  · go_enter Try.func54, Try.ntmps54
    go_wp2_with fail
    (with_reducible refine D.out.mono ?_); rintro e w2 ⟨rfl, hb2⟩
    go_wp2_with fail
    go_ret
    exact ⟨rfl, hb2⟩
  cases b
  · go_enter Try.func54, Try.ntmps54
    go_wp2_with fail
    (with_reducible refine D.out.mono ?_); rintro e w2 ⟨rfl, hb2⟩
    go_wp2_with fail
    (with_reducible refine (E1.out _ hb2).mono ?_); rintro e w3 ⟨rfl, hb3⟩
    have hb4 := Below.chain hb2 hb3
    go_wp2_with fail
    go_ret
    exact ⟨rfl, hb4⟩
  · go_enter Try.func54, Try.ntmps54
    go_wp2_with fail
    (with_reducible refine D.out.mono ?_); rintro e w2 ⟨rfl, hb2⟩
    go_wp2_with fail
    (with_reducible refine (E1.out _ hb2).mono ?_); rintro e w3 ⟨rfl, hb3⟩
    have hb4 := Below.chain hb2 hb3
    go_wp2_with fail
    (with_reducible refine (E2.out _ hb4).mono ?_); rintro e w5 ⟨rfl, hb5⟩
    have hb6 := Below.chain hb4 hb5
    go_wp2_with fail
    go_ret
    exact ⟨rfl, hb6⟩
end Go.Proofs.Ytdoefndppoglfaa
