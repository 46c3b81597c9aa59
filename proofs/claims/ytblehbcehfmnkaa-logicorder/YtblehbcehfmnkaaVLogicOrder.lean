/- The walk of the law LogicOrder. -/
import Derived.Test.YtblehbcehfmnkaaLM
namespace Go.Proofs.Ytblehbcehfmnkaa.LogicOrder
open Go Go.RowKit
set_option linter.unusedVariables false
theorem cut50 (l : List Int) (M : Nat) (hM : M ≤ 50) : (l.take M).take 100 = l.take M := List.take_of_length_le (by simp; omega)
set_option maxHeartbeats 8000000 in
theorem walk_core (l m : List Int) (ao bo : Option Addr) (cap dap : Nat) (w : World) (h : Ts w.heap.size w (.slice ao l.length cap) l) (g : Ts w.heap.size w (.slice bo m.length dap) m) :
    Calls Try.prog 5 #[.slice ao l.length cap, .slice bo m.length dap] w fun e w' => e = .returned (.bool true) ∧ Below w.heap.size w w' := by
  obtain ⟨ao', cap', he, h2, h3, h4, -⟩ := id h
  cases he
  obtain ⟨bo', dap', he, g2, g3, g4, -⟩ := id g
  cases he
  simp only [maxLen] at h3 g3
  have HH := Lib.hid (h.head)
  have C5 := Lib.hid (cut50 l)
  have GG := Lib.hid (g.head)
  have D5 := Lib.hid (cut50 m)
  clear h g
  generalize l.length = L at *
  generalize m.length = M at *
  by_cases h50 : (50 : Int) < (L : Int) <;> by_cases m50 : (50 : Int) < (M : Int)
  · have HT := Lib.hid (HH.out 50 (by omega))
    have hC := C5.out 50 (by omega)
    have hl50 : (l.take 50).length ≤ 50 := by simp; omega
    have GT := Lib.hid (GG.out 50 (by omega))
    have gC := D5.out 50 (by omega)
    have gl50 : (m.take 50).length ≤ 50 := by simp; omega
    clear HH C5 GG D5
    generalize l.take 50 = X at HT hC hl50
    generalize m.take 50 = Y at GT gC gl50
    have HL := Lib.hid hl50
    have GL := Lib.hid gl50
    clear hl50 gl50
    go_enter Try.func5, Try.ntmps5
    go_wp2_with fail
    refine (shown_any _).mono ?_; rintro e w1 ⟨rfl, hb1⟩
    have TR := Lib.hid (truths_any X _ w1 (HT.out.later hb1))
    rw [hC] at TR
    clear hC
    go_wp2_with fail
    (with_reducible refine TR.out.mono ?_); rintro e w2 ⟨v1, v1', rfl, hO, -, hb2⟩
    have hX := hO.ts
    clear hO TR
    have TR := Lib.hid (truths_any Y _ w2 (GT.out.later (Below.chain hb1 hb2)))
    rw [gC] at TR
    clear gC
    go_wp2_with fail
    (with_reducible refine TR.out.mono ?_); rintro e w3 ⟨v2, v2', rfl, hO, -, hb3⟩
    have hY := hO.ts
    have hX := hX.later hb3
    clear hO TR
    have c3 := Below.chain (Below.chain hb1 hb2) hb3
    clear hb1 hb2 hb3
    go_wp2_with (at_builtin; first
      | (refine wpList_append_ts rfl _ _ rfl rfl rfl (Own.lit w3 w3.heap.size [] (Nat.le_refl _) (by simp) _ rfl) (hX.later (below_a1 _ _)) (by have := HL.out; simp; omega) (by simp) ?_
         intro v4 w4 hO4 hg4
         have b4 := (below_a1 w3 _).trans (below_of_grown hg4 (by simp) (fun k hk => (by cases hk; exact Nat.le_refl _)))
         rw [List.nil_append] at hO4
         clear hg4)
      | (refine wpList_append_ts rfl _ _ rfl rfl rfl hO4 (hY.later b4) (by have := HL.out; have := GL.out; simp; omega) (by have := b4.size; omega) ?_
         intro v5 w5 hO5 hg5
         have b5 := b4.trans (below_of_grown hg5 b4.size hO4.row)
         have hA := hO5.ts
         have hX5 := hX.later b5
         have hY5 := hY.later b5
         have c5 := Below.chain c3 b5
         clear hg5 hO4 hO5 hX hY b4 b5 c3)
      | (refine wpList_append_ts rfl _ _ rfl rfl rfl (Own.lit w5 w5.heap.size [] (Nat.le_refl _) (by simp) _ rfl) (hY5.later (below_a1 _ _)) (by have := GL.out; simp; omega) (by simp) ?_
         intro v6 w6 hO6 hg6
         have b6 := (below_a1 w5 _).trans (below_of_grown hg6 (by simp) (fun k hk => (by cases hk; exact Nat.le_refl _)))
         rw [List.nil_append] at hO6
         clear hg6)
      | (refine wpList_append_ts rfl _ _ rfl rfl rfl hO6 (hX5.later b6) (by have := HL.out; have := GL.out; simp; omega) (by have := b6.size; omega) ?_
         intro v7 w7 hO7 hg7
         have b7 := b6.trans (below_of_grown hg7 b6.size hO6.row)
         have hB := hO7.ts
         have hA7 := hA.later b7
         have hX7 := hX5.later b7
         have hY7 := hY5.later b7
         have c7 := Below.chain c5 b7
         clear hg7 hO6 hO7 hX5 hY5 hA b6 b7 c5))
    clear HT GT HL GL
    have A0 := Lib.hid (fun w' (hb : Below w7.heap.size w7 w') => and_any _ _ _ _ (hA7.later hb))
    have A1 := Lib.hid (fun w' (hb : Below w7.heap.size w7 w') => or_any _ _ _ _ (hA7.later hb))
    have B0 := Lib.hid (fun w' (hb : Below w7.heap.size w7 w') => and_any _ _ _ _ (hB.later hb))
    have B1 := Lib.hid (fun w' (hb : Below w7.heap.size w7 w') => or_any _ _ _ _ (hB.later hb))
    have X0 := Lib.hid (fun w' (hb : Below w7.heap.size w7 w') => and_any _ _ _ _ (hX7.later hb))
    have X1 := Lib.hid (fun w' (hb : Below w7.heap.size w7 w') => or_any _ _ _ _ (hX7.later hb))
    have Y0 := Lib.hid (fun w' (hb : Below w7.heap.size w7 w') => and_any _ _ _ _ (hY7.later hb))
    have Y1 := Lib.hid (fun w' (hb : Below w7.heap.size w7 w') => or_any _ _ _ _ (hY7.later hb))
    have P0 := Lib.hid (fun w' => and_any _ _ _ _ (pair_ts w' (joinI 0 X) (joinI 0 Y)))
    have P1 := Lib.hid (fun w' => or_any _ _ _ _ (pair_ts w' (joinI 1 X) (joinI 1 Y)))
    rw [← join_parts (.inl rfl)] at P0
    rw [← join_parts (.inr rfl)] at P1
    rw [join_comm] at B0 B1
    clear hA7 hB hX7 hY7
    generalize joinI 0 (X ++ Y) = ja0 at *
    generalize joinI 1 (X ++ Y) = ja1 at *
    generalize joinI 0 X = jx0 at *
    generalize joinI 1 X = jx1 at *
    generalize joinI 0 Y = jy0 at *
    generalize joinI 1 Y = jy1 at *
    have e0 : (ja0 == ja0) = true := by simp
    have e1 : (ja1 == ja1) = true := by simp
    have r7 : Below w7.heap.size w7 w7 := Below.refl _ _
    (with_reducible refine (A0.out _ r7).mono ?_); rintro e wz ⟨rfl, rfl⟩
    go_wp2_with fail
    (with_reducible refine (X0.out _ r7).mono ?_); rintro e wz ⟨rfl, rfl⟩
    go_wp2_with fail
    (with_reducible refine (Y0.out _ r7).mono ?_); rintro e wz ⟨rfl, rfl⟩
    go_wp2_with fail
    (with_reducible refine (P0.out _).mono ?_); rintro e wz ⟨rfl, rfl⟩
    generalize hW : w7.alloc (.cells #[.int .i64 jx0, .int .i64 jy0] 27) = w8
    have r8 : Below w7.heap.size w7 w8 := hW ▸ below_a1 _ _
    clear hW
    go_wp2_with fail
    (with_reducible refine (A0.out _ r8).mono ?_); rintro e wz ⟨rfl, rfl⟩
    go_wp2_with fail
    (with_reducible refine (B0.out _ r8).mono ?_); rintro e wz ⟨rfl, rfl⟩
    go_wp2_with fail
    (with_reducible refine (A1.out _ r8).mono ?_); rintro e wz ⟨rfl, rfl⟩
    go_wp2_with fail
    (with_reducible refine (X1.out _ r8).mono ?_); rintro e wz ⟨rfl, rfl⟩
    go_wp2_with fail
    (with_reducible refine (Y1.out _ r8).mono ?_); rintro e wz ⟨rfl, rfl⟩
    go_wp2_with fail
    (with_reducible refine (P1.out _).mono ?_); rintro e wz ⟨rfl, rfl⟩
    generalize hW : w8.alloc (.cells #[.int .i64 jx1, .int .i64 jy1] 27) = w9
    have b9 : Below w8.heap.size w8 w9 := hW ▸ below_a1 _ _
    have r9 := Below.chain r8 b9
    clear hW
    go_wp2_with fail
    (with_reducible refine (A1.out _ r9).mono ?_); rintro e wz ⟨rfl, rfl⟩
    go_wp2_with fail
    (with_reducible refine (B1.out _ r9).mono ?_); rintro e wz ⟨rfl, rfl⟩
    go_wp2_with fail
    go_ret
    exact ⟨rfl, Below.chain c7 r9⟩
  · have HT := Lib.hid (HH.out 50 (by omega))
    have hC := C5.out 50 (by omega)
    have hl50 : (l.take 50).length ≤ 50 := by simp; omega
    have GT := Lib.hid (GG.out M (by omega))
    have gC := D5.out M (by omega)
    have gl50 : (m.take M).length ≤ 50 := by simp; omega
    clear HH C5 GG D5
    generalize l.take 50 = X at HT hC hl50
    generalize m.take M = Y at GT gC gl50
    have HL := Lib.hid hl50
    have GL := Lib.hid gl50
    clear hl50 gl50
    go_enter Try.func5, Try.ntmps5
    go_wp2_with fail
    refine (shown_any _).mono ?_; rintro e w1 ⟨rfl, hb1⟩
    have TR := Lib.hid (truths_any X _ w1 (HT.out.later hb1))
    rw [hC] at TR
    clear hC
    go_wp2_with fail
    (with_reducible refine TR.out.mono ?_); rintro e w2 ⟨v1, v1', rfl, hO, -, hb2⟩
    have hX := hO.ts
    clear hO TR
    have TR := Lib.hid (truths_any Y _ w2 (GT.out.later (Below.chain hb1 hb2)))
    rw [gC] at TR
    clear gC
    go_wp2_with fail
    (with_reducible refine TR.out.mono ?_); rintro e w3 ⟨v2, v2', rfl, hO, -, hb3⟩
    have hY := hO.ts
    have hX := hX.later hb3
    clear hO TR
    have c3 := Below.chain (Below.chain hb1 hb2) hb3
    clear hb1 hb2 hb3
    go_wp2_with (at_builtin; first
      | (refine wpList_append_ts rfl _ _ rfl rfl rfl (Own.lit w3 w3.heap.size [] (Nat.le_refl _) (by simp) _ rfl) (hX.later (below_a1 _ _)) (by have := HL.out; simp; omega) (by simp) ?_
         intro v4 w4 hO4 hg4
         have b4 := (below_a1 w3 _).trans (below_of_grown hg4 (by simp) (fun k hk => (by cases hk; exact Nat.le_refl _)))
         rw [List.nil_append] at hO4
         clear hg4)
      | (refine wpList_append_ts rfl _ _ rfl rfl rfl hO4 (hY.later b4) (by have := HL.out; have := GL.out; simp; omega) (by have := b4.size; omega) ?_
         intro v5 w5 hO5 hg5
         have b5 := b4.trans (below_of_grown hg5 b4.size hO4.row)
         have hA := hO5.ts
         have hX5 := hX.later b5
         have hY5 := hY.later b5
         have c5 := Below.chain c3 b5
         clear hg5 hO4 hO5 hX hY b4 b5 c3)
      | (refine wpList_append_ts rfl _ _ rfl rfl rfl (Own.lit w5 w5.heap.size [] (Nat.le_refl _) (by simp) _ rfl) (hY5.later (below_a1 _ _)) (by have := GL.out; simp; omega) (by simp) ?_
         intro v6 w6 hO6 hg6
         have b6 := (below_a1 w5 _).trans (below_of_grown hg6 (by simp) (fun k hk => (by cases hk; exact Nat.le_refl _)))
         rw [List.nil_append] at hO6
         clear hg6)
      | (refine wpList_append_ts rfl _ _ rfl rfl rfl hO6 (hX5.later b6) (by have := HL.out; have := GL.out; simp; omega) (by have := b6.size; omega) ?_
         intro v7 w7 hO7 hg7
         have b7 := b6.trans (below_of_grown hg7 b6.size hO6.row)
         have hB := hO7.ts
         have hA7 := hA.later b7
         have hX7 := hX5.later b7
         have hY7 := hY5.later b7
         have c7 := Below.chain c5 b7
         clear hg7 hO6 hO7 hX5 hY5 hA b6 b7 c5))
    clear HT GT HL GL
    have A0 := Lib.hid (fun w' (hb : Below w7.heap.size w7 w') => and_any _ _ _ _ (hA7.later hb))
    have A1 := Lib.hid (fun w' (hb : Below w7.heap.size w7 w') => or_any _ _ _ _ (hA7.later hb))
    have B0 := Lib.hid (fun w' (hb : Below w7.heap.size w7 w') => and_any _ _ _ _ (hB.later hb))
    have B1 := Lib.hid (fun w' (hb : Below w7.heap.size w7 w') => or_any _ _ _ _ (hB.later hb))
    have X0 := Lib.hid (fun w' (hb : Below w7.heap.size w7 w') => and_any _ _ _ _ (hX7.later hb))
    have X1 := Lib.hid (fun w' (hb : Below w7.heap.size w7 w') => or_any _ _ _ _ (hX7.later hb))
    have Y0 := Lib.hid (fun w' (hb : Below w7.heap.size w7 w') => and_any _ _ _ _ (hY7.later hb))
    have Y1 := Lib.hid (fun w' (hb : Below w7.heap.size w7 w') => or_any _ _ _ _ (hY7.later hb))
    have P0 := Lib.hid (fun w' => and_any _ _ _ _ (pair_ts w' (joinI 0 X) (joinI 0 Y)))
    have P1 := Lib.hid (fun w' => or_any _ _ _ _ (pair_ts w' (joinI 1 X) (joinI 1 Y)))
    rw [← join_parts (.inl rfl)] at P0
    rw [← join_parts (.inr rfl)] at P1
    rw [join_comm] at B0 B1
    clear hA7 hB hX7 hY7
    generalize joinI 0 (X ++ Y) = ja0 at *
    generalize joinI 1 (X ++ Y) = ja1 at *
    generalize joinI 0 X = jx0 at *
    generalize joinI 1 X = jx1 at *
    generalize joinI 0 Y = jy0 at *
    generalize joinI 1 Y = jy1 at *
    have e0 : (ja0 == ja0) = true := by simp
    have e1 : (ja1 == ja1) = true := by simp
    have r7 : Below w7.heap.size w7 w7 := Below.refl _ _
    (with_reducible refine (A0.out _ r7).mono ?_); rintro e wz ⟨rfl, rfl⟩
    go_wp2_with fail
    (with_reducible refine (X0.out _ r7).mono ?_); rintro e wz ⟨rfl, rfl⟩
    go_wp2_with fail
    (with_reducible refine (Y0.out _ r7).mono ?_); rintro e wz ⟨rfl, rfl⟩
    go_wp2_with fail
    (with_reducible refine (P0.out _).mono ?_); rintro e wz ⟨rfl, rfl⟩
    generalize hW : w7.alloc (.cells #[.int .i64 jx0, .int .i64 jy0] 27) = w8
    have r8 : Below w7.heap.size w7 w8 := hW ▸ below_a1 _ _
    clear hW
    go_wp2_with fail
    (with_reducible refine (A0.out _ r8).mono ?_); rintro e wz ⟨rfl, rfl⟩
    go_wp2_with fail
    (with_reducible refine (B0.out _ r8).mono ?_); rintro e wz ⟨rfl, rfl⟩
    go_wp2_with fail
    (with_reducible refine (A1.out _ r8).mono ?_); rintro e wz ⟨rfl, rfl⟩
    go_wp2_with fail
    (with_reducible refine (X1.out _ r8).mono ?_); rintro e wz ⟨rfl, rfl⟩
    go_wp2_with fail
    (with_reducible refine (Y1.out _ r8).mono ?_); rintro e wz ⟨rfl, rfl⟩
    go_wp2_with fail
    (with_reducible refine (P1.out _).mono ?_); rintro e wz ⟨rfl, rfl⟩
    generalize hW : w8.alloc (.cells #[.int .i64 jx1, .int .i64 jy1] 27) = w9
    have b9 : Below w8.heap.size w8 w9 := hW ▸ below_a1 _ _
    have r9 := Below.chain r8 b9
    clear hW
    go_wp2_with fail
    (with_reducible refine (A1.out _ r9).mono ?_); rintro e wz ⟨rfl, rfl⟩
    go_wp2_with fail
    (with_reducible refine (B1.out _ r9).mono ?_); rintro e wz ⟨rfl, rfl⟩
    go_wp2_with fail
    go_ret
    exact ⟨rfl, Below.chain c7 r9⟩
  · have HT := Lib.hid (HH.out L (by omega))
    have hC := C5.out L (by omega)
    have hl50 : (l.take L).length ≤ 50 := by simp; omega
    have GT := Lib.hid (GG.out 50 (by omega))
    have gC := D5.out 50 (by omega)
    have gl50 : (m.take 50).length ≤ 50 := by simp; omega
    clear HH C5 GG D5
    generalize l.take L = X at HT hC hl50
    generalize m.take 50 = Y at GT gC gl50
    have HL := Lib.hid hl50
    have GL := Lib.hid gl50
    clear hl50 gl50
    go_enter Try.func5, Try.ntmps5
    go_wp2_with fail
    refine (shown_any _).mono ?_; rintro e w1 ⟨rfl, hb1⟩
    have TR := Lib.hid (truths_any X _ w1 (HT.out.later hb1))
    rw [hC] at TR
    clear hC
    go_wp2_with fail
    (with_reducible refine TR.out.mono ?_); rintro e w2 ⟨v1, v1', rfl, hO, -, hb2⟩
    have hX := hO.ts
    clear hO TR
    have TR := Lib.hid (truths_any Y _ w2 (GT.out.later (Below.chain hb1 hb2)))
    rw [gC] at TR
    clear gC
    go_wp2_with fail
    (with_reducible refine TR.out.mono ?_); rintro e w3 ⟨v2, v2', rfl, hO, -, hb3⟩
    have hY := hO.ts
    have hX := hX.later hb3
    clear hO TR
    have c3 := Below.chain (Below.chain hb1 hb2) hb3
    clear hb1 hb2 hb3
    go_wp2_with (at_builtin; first
      | (refine wpList_append_ts rfl _ _ rfl rfl rfl (Own.lit w3 w3.heap.size [] (Nat.le_refl _) (by simp) _ rfl) (hX.later (below_a1 _ _)) (by have := HL.out; simp; omega) (by simp) ?_
         intro v4 w4 hO4 hg4
         have b4 := (below_a1 w3 _).trans (below_of_grown hg4 (by simp) (fun k hk => (by cases hk; exact Nat.le_refl _)))
         rw [List.nil_append] at hO4
         clear hg4)
      | (refine wpList_append_ts rfl _ _ rfl rfl rfl hO4 (hY.later b4) (by have := HL.out; have := GL.out; simp; omega) (by have := b4.size; omega) ?_
         intro v5 w5 hO5 hg5
         have b5 := b4.trans (below_of_grown hg5 b4.size hO4.row)
         have hA := hO5.ts
         have hX5 := hX.later b5
         have hY5 := hY.later b5
         have c5 := Below.chain c3 b5
         clear hg5 hO4 hO5 hX hY b4 b5 c3)
      | (refine wpList_append_ts rfl _ _ rfl rfl rfl (Own.lit w5 w5.heap.size [] (Nat.le_refl _) (by simp) _ rfl) (hY5.later (below_a1 _ _)) (by have := GL.out; simp; omega) (by simp) ?_
         intro v6 w6 hO6 hg6
         have b6 := (below_a1 w5 _).trans (below_of_grown hg6 (by simp) (fun k hk => (by cases hk; exact Nat.le_refl _)))
         rw [List.nil_append] at hO6
         clear hg6)
      | (refine wpList_append_ts rfl _ _ rfl rfl rfl hO6 (hX5.later b6) (by have := HL.out; have := GL.out; simp; omega) (by have := b6.size; omega) ?_
         intro v7 w7 hO7 hg7
         have b7 := b6.trans (below_of_grown hg7 b6.size hO6.row)
         have hB := hO7.ts
         have hA7 := hA.later b7
         have hX7 := hX5.later b7
         have hY7 := hY5.later b7
         have c7 := Below.chain c5 b7
         clear hg7 hO6 hO7 hX5 hY5 hA b6 b7 c5))
    clear HT GT HL GL
    have A0 := Lib.hid (fun w' (hb : Below w7.heap.size w7 w') => and_any _ _ _ _ (hA7.later hb))
    have A1 := Lib.hid (fun w' (hb : Below w7.heap.size w7 w') => or_any _ _ _ _ (hA7.later hb))
    have B0 := Lib.hid (fun w' (hb : Below w7.heap.size w7 w') => and_any _ _ _ _ (hB.later hb))
    have B1 := Lib.hid (fun w' (hb : Below w7.heap.size w7 w') => or_any _ _ _ _ (hB.later hb))
    have X0 := Lib.hid (fun w' (hb : Below w7.heap.size w7 w') => and_any _ _ _ _ (hX7.later hb))
    have X1 := Lib.hid (fun w' (hb : Below w7.heap.size w7 w') => or_any _ _ _ _ (hX7.later hb))
    have Y0 := Lib.hid (fun w' (hb : Below w7.heap.size w7 w') => and_any _ _ _ _ (hY7.later hb))
    have Y1 := Lib.hid (fun w' (hb : Below w7.heap.size w7 w') => or_any _ _ _ _ (hY7.later hb))
    have P0 := Lib.hid (fun w' => and_any _ _ _ _ (pair_ts w' (joinI 0 X) (joinI 0 Y)))
    have P1 := Lib.hid (fun w' => or_any _ _ _ _ (pair_ts w' (joinI 1 X) (joinI 1 Y)))
    rw [← join_parts (.inl rfl)] at P0
    rw [← join_parts (.inr rfl)] at P1
    rw [join_comm] at B0 B1
    clear hA7 hB hX7 hY7
    generalize joinI 0 (X ++ Y) = ja0 at *
    generalize joinI 1 (X ++ Y) = ja1 at *
    generalize joinI 0 X = jx0 at *
    generalize joinI 1 X = jx1 at *
    generalize joinI 0 Y = jy0 at *
    generalize joinI 1 Y = jy1 at *
    have e0 : (ja0 == ja0) = true := by simp
    have e1 : (ja1 == ja1) = true := by simp
    have r7 : Below w7.heap.size w7 w7 := Below.refl _ _
    (with_reducible refine (A0.out _ r7).mono ?_); rintro e wz ⟨rfl, rfl⟩
    go_wp2_with fail
    (with_reducible refine (X0.out _ r7).mono ?_); rintro e wz ⟨rfl, rfl⟩
    go_wp2_with fail
    (with_reducible refine (Y0.out _ r7).mono ?_); rintro e wz ⟨rfl, rfl⟩
    go_wp2_with fail
    (with_reducible refine (P0.out _).mono ?_); rintro e wz ⟨rfl, rfl⟩
    generalize hW : w7.alloc (.cells #[.int .i64 jx0, .int .i64 jy0] 27) = w8
    have r8 : Below w7.heap.size w7 w8 := hW ▸ below_a1 _ _
    clear hW
    go_wp2_with fail
    (with_reducible refine (A0.out _ r8).mono ?_); rintro e wz ⟨rfl, rfl⟩
    go_wp2_with fail
    (with_reducible refine (B0.out _ r8).mono ?_); rintro e wz ⟨rfl, rfl⟩
    go_wp2_with fail
    (with_reducible refine (A1.out _ r8).mono ?_); rintro e wz ⟨rfl, rfl⟩
    go_wp2_with fail
    (with_reducible refine (X1.out _ r8).mono ?_); rintro e wz ⟨rfl, rfl⟩
    go_wp2_with fail
    (with_reducible refine (Y1.out _ r8).mono ?_); rintro e wz ⟨rfl, rfl⟩
    go_wp2_with fail
    (with_reducible refine (P1.out _).mono ?_); rintro e wz ⟨rfl, rfl⟩
    generalize hW : w8.alloc (.cells #[.int .i64 jx1, .int .i64 jy1] 27) = w9
    have b9 : Below w8.heap.size w8 w9 := hW ▸ below_a1 _ _
    have r9 := Below.chain r8 b9
    clear hW
    go_wp2_with fail
    (with_reducible refine (A1.out _ r9).mono ?_); rintro e wz ⟨rfl, rfl⟩
    go_wp2_with fail
    (with_reducible refine (B1.out _ r9).mono ?_); rintro e wz ⟨rfl, rfl⟩
    go_wp2_with fail
    go_ret
    exact ⟨rfl, Below.chain c7 r9⟩
  · have HT := Lib.hid (HH.out L (by omega))
    have hC := C5.out L (by omega)
    have hl50 : (l.take L).length ≤ 50 := by simp; omega
    have GT := Lib.hid (GG.out M (by omega))
    have gC := D5.out M (by omega)
    have gl50 : (m.take M).length ≤ 50 := by simp; omega
    clear HH C5 GG D5
    generalize l.take L = X at HT hC hl50
    generalize m.take M = Y at GT gC gl50
    have HL := Lib.hid hl50
    have GL := Lib.hid gl50
    clear hl50 gl50
    go_enter Try.func5, Try.ntmps5
    go_wp2_with fail
    refine (shown_any _).mono ?_; rintro e w1 ⟨rfl, hb1⟩
    have TR := Lib.hid (truths_any X _ w1 (HT.out.later hb1))
    rw [hC] at TR
    clear hC
    go_wp2_with fail
    (with_reducible refine TR.out.mono ?_); rintro e w2 ⟨v1, v1', rfl, hO, -, hb2⟩
    have hX := hO.ts
    clear hO TR
    have TR := Lib.hid (truths_any Y _ w2 (GT.out.later (Below.chain hb1 hb2)))
    rw [gC] at TR
    clear gC
    go_wp2_with fail
    (with_reducible refine TR.out.mono ?_); rintro e w3 ⟨v2, v2', rfl, hO, -, hb3⟩
    have hY := hO.ts
    have hX := hX.later hb3
    clear hO TR
    have c3 := Below.chain (Below.chain hb1 hb2) hb3
    clear hb1 hb2 hb3
    go_wp2_with (at_builtin; first
      | (refine wpList_append_ts rfl _ _ rfl rfl rfl (Own.lit w3 w3.heap.size [] (Nat.le_refl _) (by simp) _ rfl) (hX.later (below_a1 _ _)) (by have := HL.out; simp; omega) (by simp) ?_
         intro v4 w4 hO4 hg4
         have b4 := (below_a1 w3 _).trans (below_of_grown hg4 (by simp) (fun k hk => (by cases hk; exact Nat.le_refl _)))
         rw [List.nil_append] at hO4
         clear hg4)
      | (refine wpList_append_ts rfl _ _ rfl rfl rfl hO4 (hY.later b4) (by have := HL.out; have := GL.out; simp; omega) (by have := b4.size; omega) ?_
         intro v5 w5 hO5 hg5
         have b5 := b4.trans (below_of_grown hg5 b4.size hO4.row)
         have hA := hO5.ts
         have hX5 := hX.later b5
         have hY5 := hY.later b5
         have c5 := Below.chain c3 b5
         clear hg5 hO4 hO5 hX hY b4 b5 c3)
      | (refine wpList_append_ts rfl _ _ rfl rfl rfl (Own.lit w5 w5.heap.size [] (Nat.le_refl _) (by simp) _ rfl) (hY5.later (below_a1 _ _)) (by have := GL.out; simp; omega) (by simp) ?_
         intro v6 w6 hO6 hg6
         have b6 := (below_a1 w5 _).trans (below_of_grown hg6 (by simp) (fun k hk => (by cases hk; exact Nat.le_refl _)))
         rw [List.nil_append] at hO6
         clear hg6)
      | (refine wpList_append_ts rfl _ _ rfl rfl rfl hO6 (hX5.later b6) (by have := HL.out; have := GL.out; simp; omega) (by have := b6.size; omega) ?_
         intro v7 w7 hO7 hg7
         have b7 := b6.trans (below_of_grown hg7 b6.size hO6.row)
         have hB := hO7.ts
         have hA7 := hA.later b7
         have hX7 := hX5.later b7
         have hY7 := hY5.later b7
         have c7 := Below.chain c5 b7
         clear hg7 hO6 hO7 hX5 hY5 hA b6 b7 c5))
    clear HT GT HL GL
    have A0 := Lib.hid (fun w' (hb : Below w7.heap.size w7 w') => and_any _ _ _ _ (hA7.later hb))
    have A1 := Lib.hid (fun w' (hb : Below w7.heap.size w7 w') => or_any _ _ _ _ (hA7.later hb))
    have B0 := Lib.hid (fun w' (hb : Below w7.heap.size w7 w') => and_any _ _ _ _ (hB.later hb))
    have B1 := Lib.hid (fun w' (hb : Below w7.heap.size w7 w') => or_any _ _ _ _ (hB.later hb))
    have X0 := Lib.hid (fun w' (hb : Below w7.heap.size w7 w') => and_any _ _ _ _ (hX7.later hb))
    have X1 := Lib.hid (fun w' (hb : Below w7.heap.size w7 w') => or_any _ _ _ _ (hX7.later hb))
    have Y0 := Lib.hid (fun w' (hb : Below w7.heap.size w7 w') => and_any _ _ _ _ (hY7.later hb))
    have Y1 := Lib.hid (fun w' (hb : Below w7.heap.size w7 w') => or_any _ _ _ _ (hY7.later hb))
    have P0 := Lib.hid (fun w' => and_any _ _ _ _ (pair_ts w' (joinI 0 X) (joinI 0 Y)))
    have P1 := Lib.hid (fun w' => or_any _ _ _ _ (pair_ts w' (joinI 1 X) (joinI 1 Y)))
    rw [← join_parts (.inl rfl)] at P0
    rw [← join_parts (.inr rfl)] at P1
    rw [join_comm] at B0 B1
    clear hA7 hB hX7 hY7
    generalize joinI 0 (X ++ Y) = ja0 at *
    generalize joinI 1 (X ++ Y) = ja1 at *
    generalize joinI 0 X = jx0 at *
    generalize joinI 1 X = jx1 at *
    generalize joinI 0 Y = jy0 at *
    generalize joinI 1 Y = jy1 at *
    have e0 : (ja0 == ja0) = true := by simp
    have e1 : (ja1 == ja1) = true := by simp
    have r7 : Below w7.heap.size w7 w7 := Below.refl _ _
    (with_reducible refine (A0.out _ r7).mono ?_); rintro e wz ⟨rfl, rfl⟩
    go_wp2_with fail
    (with_reducible refine (X0.out _ r7).mono ?_); rintro e wz ⟨rfl, rfl⟩
    go_wp2_with fail
    (with_reducible refine (Y0.out _ r7).mono ?_); rintro e wz ⟨rfl, rfl⟩
    go_wp2_with fail
    (with_reducible refine (P0.out _).mono ?_); rintro e wz ⟨rfl, rfl⟩
    generalize hW : w7.alloc (.cells #[.int .i64 jx0, .int .i64 jy0] 27) = w8
    have r8 : Below w7.heap.size w7 w8 := hW ▸ below_a1 _ _
    clear hW
    go_wp2_with fail
    (with_reducible refine (A0.out _ r8).mono ?_); rintro e wz ⟨rfl, rfl⟩
    go_wp2_with fail
    (with_reducible refine (B0.out _ r8).mono ?_); rintro e wz ⟨rfl, rfl⟩
    go_wp2_with fail
    (with_reducible refine (A1.out _ r8).mono ?_); rintro e wz ⟨rfl, rfl⟩
    go_wp2_with fail
    (with_reducible refine (X1.out _ r8).mono ?_); rintro e wz ⟨rfl, rfl⟩
    go_wp2_with fail
    (with_reducible refine (Y1.out _ r8).mono ?_); rintro e wz ⟨rfl, rfl⟩
    go_wp2_with fail
    (with_reducible refine (P1.out _).mono ?_); rintro e wz ⟨rfl, rfl⟩
    generalize hW : w8.alloc (.cells #[.int .i64 jx1, .int .i64 jy1] 27) = w9
    have b9 : Below w8.heap.size w8 w9 := hW ▸ below_a1 _ _
    have r9 := Below.chain r8 b9
    clear hW
    go_wp2_with fail
    (with_reducible refine (A1.out _ r9).mono ?_); rintro e wz ⟨rfl, rfl⟩
    go_wp2_with fail
    (with_reducible refine (B1.out _ r9).mono ?_); rintro e wz ⟨rfl, rfl⟩
    go_wp2_with fail
    go_ret
    exact ⟨rfl, Below.chain c7 r9⟩
theorem walk (v : Value) (l : List Int) (u : Value) (m : List Int) (w : World) (h : Ts w.heap.size w v l) (g : Ts w.heap.size w u m) :
    Calls Try.prog 5 #[v, u] w fun e w' => e = .returned (.bool true) ∧ Below w.heap.size w w' := by
  obtain ⟨ao, cap, rfl⟩ := h.shape
  obtain ⟨bo, dap, rfl⟩ := g.shape
  exact walk_core l m ao bo cap dap w h g
end Go.Proofs.Ytblehbcehfmnkaa.LogicOrder
