/- The walk of the law LabelLogic. -/
import Derived.Test.YtlnmjbheohkanaaKT
namespace Go.Proofs.Ytlnmjbheohkanaa.LabelLogic
open Go Go.RowKit
set_option linter.unusedVariables false
set_option maxHeartbeats 16000000 in
set_option maxRecDepth 100000 in
theorem walk (v : Value) (l : List ByteArray) (t : Ex) (x : Xc) (u : Ex) (y : Xc) (w : World) (hl : RwS w v l) (hx : Tx w t x) (hy : Tx w u y) :
    Calls Try.prog 4 #[v, xv x, xv y] w fun e w' => e = .returned (.bool true) ∧ Below w.heap.size w w' := by
  obtain ⟨ao, L, cap, rfl, hL, hLc, hLm⟩ : ∃ ao L cap, v = .slice ao L cap ∧ l.length = L ∧ L ≤ cap ∧ cap ≤ 9223372036854775807 := by
    obtain ⟨a, c, e, e1, e2, -⟩ := hl
    simp only [maxLen] at e2
    exact ⟨a, _, c, e, rfl, e1, by omega⟩
  obtain ⟨M, hM⟩ : ∃ M : Nat, M = min L 30 := ⟨_, rfl⟩
  have hmin : min (L : Int) 30 = (M : Int) := by omega
  have hMc : (M : Int) ≤ (cap : Int) := by omega
  have hMl : M ≤ l.length := by omega
  have c0 : Below w.heap.size w ((w.alloc (.cells (xcs x) 28)).alloc (.cells (xcs y) 28)) := below_a2 _ _ _
  have LX := Lib.hid ((lies7_new w x 28 (xcs x) rfl).keep (below_a1 _ (.cells (xcs y) 28)))
  have LY := Lib.hid ((Vr.at' (w.alloc (.cells (xcs x) 28)) 28 (xcs y) (w.heap.size + 1) (by simp)).lies7 (x := y) rfl)
  have HX := Lib.hid (hx.keep c0)
  have HY := Lib.hid (hy.keep c0)
  have HR := Lib.hid ((hl.keep c0).head M hMl)
  have C0 := Lib.hid c0
  have S1 := Lib.hid (shown6_any ((w.alloc (.cells (xcs x) 28)).alloc (.cells (xcs y) 28)))
  clear hl hx hy c0 hL hMl hM
  generalize l.take M = l' at *
  have HS0 := Lib.hid (fun W (h : Below ((w.alloc (.cells (xcs x) 28)).alloc (.cells (xcs y) 28)).heap.size ((w.alloc (.cells (xcs x) 28)).alloc (.cells (xcs y) 28)) W) => show C7 W w.heap.size x ∧ C7 W (w.heap.size + 1) y from ⟨(LX.out.keep h).at, (LY.out.keep h).at⟩)
  go_enter Try.func4, Try.ntmps4
  go_wp2_with fail
  (with_reducible refine S1.out.mono ?_); rintro e w2 ⟨rfl, b2⟩
  have ⟨⟨x0, x1, x2, x3, x4, x5, x6⟩, y0, y1, y2, y3, y4, y5, y6⟩ := HS0.out _ b2
  have K := Lib.hid (count6_any t x w2 (HX.out.keep b2))
  have B2 := Lib.hid b2
  clear b2 S1
  by_cases hc : 100 < cnt t
  · have ic : (100 : Int) < (cnt t : Int) := by omega
    generalize cnt t = n at *
    go_wp2_with fail
    (with_reducible refine K.out.mono ?_); rintro e w3 ⟨rfl, b3⟩
    go_wp2_with fail
    go_ret
    exact ⟨rfl, Below.chain C0.out (Below.chain B2.out b3)⟩
  have ic : ¬ (100 : Int) < (cnt t : Int) := by omega
  clear hc
  generalize cnt t = n at *
  go_wp2_with fail
  (with_reducible refine K.out.mono ?_); rintro e w3 ⟨rfl, b3⟩
  have B3 := Lib.hid (Below.chain B2.out b3)
  clear b3 K x0 x1 x2 x3 x4 x5 x6 y0 y1 y2 y3 y4 y5 y6 B2
  have ⟨⟨x0, x1, x2, x3, x4, x5, x6⟩, y0, y1, y2, y3, y4, y5, y6⟩ := HS0.out _ B3.out
  have K := Lib.hid (count6_any u y w3 (HY.out.keep B3.out))
  by_cases hc : 100 < cnt u
  · have ic2 : (100 : Int) < (cnt u : Int) := by omega
    generalize cnt u = m at *
    go_wp2_with fail
    (with_reducible refine K.out.mono ?_); rintro e w4 ⟨rfl, b4⟩
    go_wp2_with fail
    go_ret
    exact ⟨rfl, Below.chain C0.out (Below.chain B3.out b4)⟩
  have ic2 : ¬ (100 : Int) < (cnt u : Int) := by omega
  clear hc
  generalize cnt u = m at *
  go_wp2_with fail
  (with_reducible refine K.out.mono ?_); rintro e w4 ⟨rfl, b4⟩
  have B4 := Lib.hid (Below.chain B3.out b4)
  clear b4 K x0 x1 x2 x3 x4 x5 x6 y0 y1 y2 y3 y4 y5 y6 B3
  have ⟨⟨x0, x1, x2, x3, x4, x5, x6⟩, y0, y1, y2, y3, y4, y5, y6⟩ := HS0.out _ B4.out
  have K := Lib.hid (rterm_any t x 40 w4 (by decide) (by decide) (HX.out.keep B4.out))
  cases ht : termE 40 t
  · rw [ht] at K
    clear ht
    go_wp2_with fail
    (with_reducible refine K.out.mono ?_); rintro e w5 ⟨rfl, b5⟩
    go_wp2_with fail
    go_ret
    exact ⟨rfl, Below.chain C0.out (Below.chain B4.out b5)⟩
  rw [ht] at K
  have HT1 := Lib.hid ht
  clear ht
  go_wp2_with fail
  (with_reducible refine K.out.mono ?_); rintro e w5 ⟨rfl, b5⟩
  have B5 := Lib.hid (Below.chain B4.out b5)
  clear b5 K x0 x1 x2 x3 x4 x5 x6 y0 y1 y2 y3 y4 y5 y6 B4
  have ⟨⟨x0, x1, x2, x3, x4, x5, x6⟩, y0, y1, y2, y3, y4, y5, y6⟩ := HS0.out _ B5.out
  have K := Lib.hid (rterm_any u y 40 w5 (by decide) (by decide) (HY.out.keep B5.out))
  cases ht : termE 40 u
  · rw [ht] at K
    clear ht
    go_wp2_with fail
    (with_reducible refine K.out.mono ?_); rintro e w6 ⟨rfl, b6⟩
    go_wp2_with fail
    go_ret
    exact ⟨rfl, Below.chain C0.out (Below.chain B5.out b6)⟩
  rw [ht] at K
  have HT2 := Lib.hid ht
  clear ht
  go_wp2_with fail
  (with_reducible refine K.out.mono ?_); rintro e w6 ⟨rfl, b6⟩
  have B6 := Lib.hid (Below.chain B5.out b6)
  clear b6 K x0 x1 x2 x3 x4 x5 x6 y0 y1 y2 y3 y4 y5 y6 B5
  have ⟨⟨x0, x1, x2, x3, x4, x5, x6⟩, y0, y1, y2, y3, y4, y5, y6⟩ := HS0.out _ B6.out
  have K := Lib.hid (lhas_any l' t x _ w6 (HX.out.keep B6.out) (HR.out.keep B6.out))
  have E1 := has_term l' (by decide) HT1.out
  have E2 := has_term l' (by decide) HT2.out
  have Enot := Lib.hid (has_term l' (by decide) (term_not HT1.out))
  have Eand := Lib.hid (has_term l' (by decide) (term_and HT1.out HT2.out))
  have Eor := Lib.hid (has_term l' (by decide) (term_or HT1.out HT2.out))
  have E3 := Lib.hid (has_term l' (by decide) (term_not (term_and HT1.out HT2.out)))
  have E7 := Lib.hid (has_term l' (by decide) (term_or (term_not HT1.out) (term_not HT2.out)))
  have E10 := Lib.hid (has_term l' (by decide) (term_not (term_or HT1.out HT2.out)))
  have E14 := Lib.hid (has_term l' (by decide) (term_and (term_not HT1.out) (term_not HT2.out)))
  rw [E1] at K
  obtain ⟨p, hp⟩ : ∃ p, holdsL l' t = p := ⟨_, rfl⟩
  obtain ⟨q, hq⟩ : ∃ q, holdsL l' u = q := ⟨_, rfl⟩
  rw [holds_not, hp] at Enot
  rw [holds_and, hp, hq] at Eand
  rw [holds_or, hp, hq] at Eor
  rw [holds_not, holds_and, hp, hq] at E3
  rw [holds_or, holds_not, holds_not, hp, hq] at E7
  rw [holds_not, holds_or, hp, hq] at E10
  rw [holds_and, holds_not, holds_not, hp, hq] at E14
  rw [hp] at K
  rw [hq] at E2
  have EU := Lib.hid E2
  clear E1 E2 hp hq
  have KB := Lib.hid fun W (h : Below ((w.alloc (.cells (xcs x) 28)).alloc (.cells (xcs y) 28)).heap.size ((w.alloc (.cells (xcs x) 28)).alloc (.cells (xcs y) 28)) W) => lhas_any l' u y _ W (HY.out.keep h) (HR.out.keep h)
  rw [EU.out] at KB
  cases p <;> cases q
  all_goals
    go_wp2_with fail
    (with_reducible refine K.out.mono ?_); rintro e w7 ⟨rfl, b7⟩
    have B7 := Lib.hid (Below.chain B6.out b7)
    clear b7 K x0 x1 x2 x3 x4 x5 x6 y0 y1 y2 y3 y4 y5 y6 B6
    have ⟨⟨x0, x1, x2, x3, x4, x5, x6⟩, y0, y1, y2, y3, y4, y5, y6⟩ := HS0.out _ B7.out
    go_wp2_with fail
    (with_reducible refine (KB.out _ B7.out).mono ?_); rintro e w8 ⟨rfl, b8⟩
    have B8 := Lib.hid (Below.chain B7.out b8)
    clear b8 KB x0 x1 x2 x3 x4 x5 x6 y0 y1 y2 y3 y4 y5 y6 B7
    have ⟨⟨x0, x1, x2, x3, x4, x5, x6⟩, y0, y1, y2, y3, y4, y5, y6⟩ := HS0.out _ B8.out
    go_wp2_with fail
    (with_reducible refine (and6_any t u x y w8 (HX.out.keep B8.out) (HY.out.keep B8.out)).mono ?_); rintro e w9 ⟨z9, rfl, T9, b9⟩
    have B9 := Lib.hid (Below.chain B8.out b9)
    have K := Lib.hid (lhas_any l' (andE t u) z9 _ w9 T9 (HR.out.keep B9.out))
    rw [Eand.out] at K
    clear b9 T9 x0 x1 x2 x3 x4 x5 x6 y0 y1 y2 y3 y4 y5 y6 B8
    go_wp2_with fail
    (with_reducible refine K.out.mono ?_); rintro e w10 ⟨rfl, b10⟩
    have B10 := Lib.hid (Below.chain B9.out b10)
    clear b10 K B9
    have ⟨⟨x0, x1, x2, x3, x4, x5, x6⟩, y0, y1, y2, y3, y4, y5, y6⟩ := HS0.out _ B10.out
    go_wp2_with fail
    (with_reducible refine (or6_any t u x y w10 (HX.out.keep B10.out) (HY.out.keep B10.out)).mono ?_); rintro e w11 ⟨z11, rfl, T11, b11⟩
    have B11 := Lib.hid (Below.chain B10.out b11)
    have K := Lib.hid (lhas_any l' (orE t u) z11 _ w11 T11 (HR.out.keep B11.out))
    rw [Eor.out] at K
    clear b11 T11 x0 x1 x2 x3 x4 x5 x6 y0 y1 y2 y3 y4 y5 y6 B10
    go_wp2_with fail
    (with_reducible refine K.out.mono ?_); rintro e w12 ⟨rfl, b12⟩
    have B12 := Lib.hid (Below.chain B11.out b12)
    clear b12 K B11
    have ⟨⟨x0, x1, x2, x3, x4, x5, x6⟩, y0, y1, y2, y3, y4, y5, y6⟩ := HS0.out _ B12.out
    go_wp2_with fail
    (with_reducible refine (not6_any t x w12 (HX.out.keep B12.out)).mono ?_); rintro e w13 ⟨z13, rfl, T13, b13⟩
    have B13 := Lib.hid (Below.chain B12.out b13)
    have K := Lib.hid (lhas_any l' (notE t) z13 _ w13 T13 (HR.out.keep B13.out))
    rw [Enot.out] at K
    clear b13 T13 x0 x1 x2 x3 x4 x5 x6 y0 y1 y2 y3 y4 y5 y6 B12
    go_wp2_with fail
    (with_reducible refine K.out.mono ?_); rintro e w14 ⟨rfl, b14⟩
    have B14 := Lib.hid (Below.chain B13.out b14)
    clear b14 K B13
    have HS := Lib.hid (fun W (h : Below w14.heap.size w14 W) => HS0.out W (Below.chain B14.out h))
    have AND := Lib.hid (fun W (h : Below w14.heap.size w14 W) => and6_any t u x y W (HX.out.keep (Below.chain B14.out h)) (HY.out.keep (Below.chain B14.out h)))
    have OR := Lib.hid (fun W (h : Below w14.heap.size w14 W) => or6_any t u x y W (HX.out.keep (Below.chain B14.out h)) (HY.out.keep (Below.chain B14.out h)))
    have NA := Lib.hid (fun W (h : Below w14.heap.size w14 W) => not6_any t x W (HX.out.keep (Below.chain B14.out h)))
    have NB := Lib.hid (fun W (h : Below w14.heap.size w14 W) => not6_any u y W (HY.out.keep (Below.chain B14.out h)))
    have H3 := Lib.hid (fun z W T (h : Below w14.heap.size w14 W) => lhas_any l' (notE (andE t u)) z _ W T (HR.out.keep (Below.chain B14.out h)))
    have H7 := Lib.hid (fun z W T (h : Below w14.heap.size w14 W) => lhas_any l' (orE (notE t) (notE u)) z _ W T (HR.out.keep (Below.chain B14.out h)))
    have H10 := Lib.hid (fun z W T (h : Below w14.heap.size w14 W) => lhas_any l' (notE (orE t u)) z _ W T (HR.out.keep (Below.chain B14.out h)))
    have H14 := Lib.hid (fun z W T (h : Below w14.heap.size w14 W) => lhas_any l' (andE (notE t) (notE u)) z _ W T (HR.out.keep (Below.chain B14.out h)))
    rw [E3.out] at H3
    rw [E7.out] at H7
    rw [E10.out] at H10
    rw [E14.out] at H14
    simp only [Bool.and_true, Bool.and_false, Bool.or_true, Bool.or_false, Bool.not_true, Bool.not_false] at H3 H7 H10 H14
    clear E3 E7 E10 E14 Eand Eor Enot EU
    go_wp2_with fail
    go_region_held3 (fun W => (W.cell? ⟨w.heap.size, 0, none⟩ = some (.int .i64 x.kind) ∧ W.cell? ⟨w.heap.size, 1, none⟩ = some (.string x.name) ∧ W.cell? ⟨w.heap.size, 2, none⟩ = some (.int .i64 x.v.k) ∧ W.cell? ⟨w.heap.size, 3, none⟩ = some (.int .i64 x.v.n) ∧ W.cell? ⟨w.heap.size, 4, none⟩ = some (.float .f64 x.v.f) ∧ W.cell? ⟨w.heap.size, 5, none⟩ = some (.string x.v.s) ∧ W.cell? ⟨w.heap.size, 6, none⟩ = some (.slice x.ao x.len x.cap)) ∧ W.cell? ⟨w.heap.size + 1, 0, none⟩ = some (.int .i64 y.kind) ∧ W.cell? ⟨w.heap.size + 1, 1, none⟩ = some (.string y.name) ∧ W.cell? ⟨w.heap.size + 1, 2, none⟩ = some (.int .i64 y.v.k) ∧ W.cell? ⟨w.heap.size + 1, 3, none⟩ = some (.int .i64 y.v.n) ∧ W.cell? ⟨w.heap.size + 1, 4, none⟩ = some (.float .f64 y.v.f) ∧ W.cell? ⟨w.heap.size + 1, 5, none⟩ = some (.string y.v.s) ∧ W.cell? ⟨w.heap.size + 1, 6, none⟩ = some (.slice y.ao y.len y.cap))
      (first | exact HS.out _ (Below.refl _ _).drew | exact HS.out _ h1 | exact HS.out _ h2 | exact HS.out _ h3 | exact HS.out _ h4 | exact HS.out _ h5 | exact HS.out _ h6 | exact HS.out _ h7 | exact HS.out _ h8 | exact HS.out _ h9 | exact HS.out _ h10 | exact HS.out _ h11 | exact HS.out _ h12 | exact HS.out _ h13 | exact HS.out _ h14)
      (first
        | ((with_reducible refine (AND.out _ (Below.refl _ _).drew).mono ?_); rintro e v1 ⟨z1, rfl, T1, b1⟩; have h1 := Below.chain (Below.refl _ _).drew b1)
        | ((with_reducible refine (not6_any _ z1 _ T1).mono ?_); rintro e v2 ⟨z2, rfl, T2, b2⟩; have h2 := Below.chain h1 b2)
        | ((with_reducible refine (H3.out z2 _ T2 h2).mono ?_); rintro e v3 ⟨rfl, b3⟩; have h3 := Below.chain h2 b3)
        | ((with_reducible refine (NA.out _ h3).mono ?_); rintro e v4 ⟨z4, rfl, T4, b4⟩; have h4 := Below.chain h3 b4)
        | ((with_reducible refine (NB.out _ h4).mono ?_); rintro e v5 ⟨z5, rfl, T5, b5⟩; have h5 := Below.chain h4 b5; have T4k := T4.keep b5)
        | ((with_reducible refine (or6_any _ _ z4 z5 _ T4k T5).mono ?_); rintro e v6 ⟨z6, rfl, T6, b6⟩; have h6 := Below.chain h5 b6)
        | ((with_reducible refine (H7.out z6 _ T6 h6).mono ?_); rintro e v7 ⟨rfl, b7⟩; have h7 := Below.chain h6 b7)
        | ((with_reducible refine (OR.out _ h7).mono ?_); rintro e v8 ⟨z8, rfl, T8, b8⟩; have h8 := Below.chain h7 b8)
        | ((with_reducible refine (not6_any _ z8 _ T8).mono ?_); rintro e v9 ⟨z9, rfl, T9, b9⟩; have h9 := Below.chain h8 b9)
        | ((with_reducible refine (H10.out z9 _ T9 h9).mono ?_); rintro e v10 ⟨rfl, b10⟩; have h10 := Below.chain h9 b10)
        | ((with_reducible refine (NA.out _ h10).mono ?_); rintro e v11 ⟨z11, rfl, T11, b11⟩; have h11 := Below.chain h10 b11)
        | ((with_reducible refine (NB.out _ h11).mono ?_); rintro e v12 ⟨z12, rfl, T12, b12⟩; have h12 := Below.chain h11 b12; have T11k := T11.keep b12)
        | ((with_reducible refine (and6_any _ _ z11 z12 _ T11k T12).mono ?_); rintro e v13 ⟨z13, rfl, T13, b13⟩; have h13 := Below.chain h12 b13)
        | ((with_reducible refine (H14.out z13 _ T13 h13).mono ?_); rintro e v14 ⟨rfl, b14⟩; have h14 := Below.chain h13 b14))
    all_goals
      go_wp2_with fail
      go_ret
      exact ⟨rfl, Below.chain C0.out (Below.chain B14.out h14)⟩
end Go.Proofs.Ytlnmjbheohkanaa.LabelLogic
