/- The walk of the law LabelTells. -/
import Derived.Test.YtlnmjbheohkanaaKS2
import Derived.Test.YtlnmjbheohkanaaKE
namespace Go.Proofs.Ytlnmjbheohkanaa.LabelTells
open Go Go.RowKit
set_option linter.unusedVariables false
theorem same_self (l : List ByteArray) : sameB l l = true := (sameB_iff l l).2 rfl
theorem CN {t : Ex} {x : Xc} {w1 : World} (T : Tx w1 t x) (hn : rightL t = true → (namesT t).length ≤ 1000) (W : World) (hb : Below w1.heap.size w1 W) : Calls Try.prog 15 #[xv x] W fun e w' => ∃ u, e = .returned u ∧ RwS w' u (namesL t) ∧ Below W.heap.size W w' :=
  (lnames_any t x W (T.keep hb) hn).mono fun e w' ⟨u, h1, h2, h3⟩ => ⟨u, h1, h2.rw, h3⟩
theorem CR {t : Ex} {x : Xc} {w1 : World} (T : Tx w1 t x) (hn : rightL t = true → (namesT t).length ≤ 1000) (W : World) (hb : Below w1.heap.size w1 W) : Calls Try.prog 16 #[xv x] W fun e w' => ∃ u, e = .returned u ∧ RwS w' u (namesL t) ∧ Below W.heap.size W w' := rNames_any t x W (T.keep hb) hn
theorem CS {l : List ByteArray} (u u2 : Value) (W : World) (h : RwS W u l) (h' : RwS W u2 l) : Calls Try.prog 14 #[u, u2] W fun e w' => e = .returned (.bool true) ∧ Below W.heap.size W w' := by
  have := same6_any l l u u2 W h h'
  rw [same_self] at this
  exact this
set_option maxHeartbeats 8000000 in
set_option maxRecDepth 100000 in
theorem walk (s : ByteArray) (v : Value) (l : List ByteArray) (t : Ex) (x : Xc) (w : World) (hl : RwS w v l) (hx : Tx w t x) :
    Calls Try.prog 3 #[.string s, v, xv x] w fun e w' => e = .returned (.bool true) ∧ Below w.heap.size w w' := by
  obtain ⟨ao, L, cap, rfl, hL, hLc, hLm⟩ : ∃ ao L cap, v = .slice ao L cap ∧ l.length = L ∧ L ≤ cap ∧ cap ≤ 9223372036854775807 := by
    obtain ⟨a, c, e, e1, e2, -⟩ := hl
    simp only [maxLen] at e2
    exact ⟨a, _, c, e, rfl, e1, by omega⟩
  obtain ⟨M, hM⟩ : ∃ M : Nat, M = min L 30 := ⟨_, rfl⟩
  have hmin : min (L : Int) 30 = (M : Int) := by omega
  have hMc : (M : Int) ≤ (cap : Int) := by omega
  have hMl : M ≤ l.length := by omega
  have hM30 : M ≤ 30 := by omega
  have c0 := below_a1 w (.cells (xcs x) 28)
  have LZ := Lib.hid (lies7_new w x 28 (xcs x) rfl)
  have HX := Lib.hid (hx.keep c0)
  have HR := Lib.hid ((hl.keep c0).head M hMl)
  have HM := Lib.hid (show (l.take M).length ≤ 30 by simp; omega)
  have C0 := Lib.hid c0
  have S1 := Lib.hid (shown6_any (w.alloc (.cells (xcs x) 28)))
  clear hl hx c0 hL hMl hM
  generalize l.take M = l' at *
  go_enter Try.func3, Try.ntmps3
  go_wp2_with fail
  (with_reducible refine S1.out.mono ?_); rintro e w2 ⟨rfl, b2⟩
  have ⟨y0, y1, y2, y3, y4, y5, y6⟩ := (LZ.out.keep b2).at
  have K := Lib.hid (count6_any t x w2 (HX.out.keep b2))
  have B2 := Lib.hid b2
  clear b2 S1
  by_cases hc : 300 < cnt t
  · have ic : (300 : Int) < (cnt t : Int) := by omega
    generalize cnt t = n at *
    go_wp2_with fail
    (with_reducible refine K.out.mono ?_); rintro e w3 ⟨rfl, b3⟩
    go_wp2_with fail
    go_ret
    exact ⟨rfl, Below.chain C0.out (Below.chain B2.out b3)⟩
  · have ic : ¬ (300 : Int) < (cnt t : Int) := by omega
    have HN := Lib.hid (fun (_ : rightL t = true) => namesT_few t (by omega))
    clear hc
    generalize cnt t = n at *
    go_wp2_with fail
    (with_reducible refine K.out.mono ?_); rintro e w3 ⟨rfl, b3⟩
    have B3 := Lib.hid (Below.chain B2.out b3)
    clear b3 K y0 y1 y2 y3 y4 y5 y6
    have a3 := below_a1 w3 (.cells #[] 9)
    have N3 := Lib.hid (Ow.lit (E := encS) (e := 9) w3 w3.heap.size [] (Nat.le_refl _) (by simp) #[] rfl)
    have R3 := Lib.hid (HR.out.keep (Below.chain B3.out a3))
    have s3 := Lib.hid (show ([] : List ByteArray).length + l'.length ≤ 1000000 by have := HM.out; simp; omega)
    have A3 := Lib.hid a3
    clear a3
    go_upto_region 5 with (at_builtin; refine wpList_append_rw (E := encS) rfl _ _ _ rfl Try.underlying22 info_str rfl (by decide) (by decide) rfl rfl N3.out R3.out s3.out A3.out.size ?_; intro v4 w4 o4 g4 at4)
    rw [List.nil_append] at o4
    have d34 := Lib.hid (A3.out.grown g4 A3.out.size N3.out.row)
    have O4 := Lib.hid o4
    clear o4 g4 at4 R3 s3 A3 N3
    have a5 := below_a1 w4 (.cells #[] 9)
    have N5 := Lib.hid (Ow.lit (E := encS) (e := 9) w4 w4.heap.size [] (Nat.le_refl _) (by simp) #[] rfl)
    have R5 := Lib.hid (O4.out.rw.keep a5)
    have s5 := Lib.hid (show ([] : List ByteArray).length + l'.length ≤ 1000000 by have := HM.out; simp; omega)
    have A5 := Lib.hid a5
    clear a5
    go_upto_region 6 with (at_builtin; refine wpList_append_rw (E := encS) rfl _ _ _ rfl Try.underlying22 info_str rfl (by decide) (by decide) rfl rfl N5.out R5.out s5.out A5.out.size ?_; intro v6 w6 o6 g6 at6)
    rw [List.nil_append] at o6
    have d46 := Lib.hid (A5.out.grown g6 A5.out.size N5.out.row)
    have O6 := Lib.hid o6
    have R46 := Lib.hid (O4.out.rw.keep d46.out)
    have BB6 := Lib.hid (Below.chain (Below.chain B3.out d34.out) d46.out)
    clear o6 g6 at6 R5 s5 A5 N5 d34 d46 O4
    have ⟨y0, y1, y2, y3, y4, y5, y6⟩ := (LZ.out.keep BB6.out).at
    have H6 := Lib.hid (lhas_any l' t x v6 w6 (HX.out.keep BB6.out) O6.out.rw)
    obtain ⟨hb, hhb⟩ : ∃ hb, hasL l' t = hb := ⟨_, rfl⟩
    rw [hhb] at H6
    have HH := Lib.hid hhb
    clear hhb
    go_wp2_with fail
    (with_reducible refine H6.out.mono ?_); rintro e w7 ⟨rfl, b7⟩
    have BB7 := Lib.hid (Below.chain BB6.out b7)
    have R47 := Lib.hid (R46.out.keep b7)
    have O7 := Lib.hid (O6.out.rw.keep b7)
    have HS7 := Lib.hid (fun W (h : Below w7.heap.size w7 W) => show C7 W w.heap.size x from (LZ.out.keep (Below.chain BB7.out h)).at)
    have T7 := HX.out.keep BB7.out
    have N7 := Lib.hid (CN T7 HN.out)
    have M7 := Lib.hid (CR T7 HN.out)
    clear b7 H6 R46 O6 BB6 y0 y1 y2 y3 y4 y5 y6 T7
    go_wp2_with fail
    go_region_held3 (fun W => W.cell? ⟨w.heap.size, 0, none⟩ = some (.int .i64 x.kind) ∧ W.cell? ⟨w.heap.size, 1, none⟩ = some (.string x.name) ∧ W.cell? ⟨w.heap.size, 2, none⟩ = some (.int .i64 x.v.k) ∧ W.cell? ⟨w.heap.size, 3, none⟩ = some (.int .i64 x.v.n) ∧ W.cell? ⟨w.heap.size, 4, none⟩ = some (.float .f64 x.v.f) ∧ W.cell? ⟨w.heap.size, 5, none⟩ = some (.string x.v.s) ∧ W.cell? ⟨w.heap.size, 6, none⟩ = some (.slice x.ao x.len x.cap))
      (first | exact HS7.out _ (Below.refl _ _).drew | exact HS7.out _ ha | exact HS7.out _ hb2 | exact HS7.out _ hc2)
      (first
        | ((with_reducible refine (N7.out _ (Below.refl _ _).drew).mono ?_); rintro e wa ⟨u, rfl, hoa, ba⟩; have ha := Below.chain (Below.refl _ _).drew ba)
        | ((with_reducible refine (M7.out _ ha).mono ?_); rintro e wb ⟨u2, rfl, hob, bb⟩; have hb2 := Below.chain ha bb; have hoa2 := hoa.keep bb)
        | ((with_reducible refine (CS u u2 wb hoa2 hob).mono ?_); rintro e wc ⟨rfl, bc⟩; have hc2 := Below.chain hb2 bc))
    all_goals
      have D8 := Lib.hid hc2
      have R48 := Lib.hid (R47.out.keep D8.out)
      have O8 := Lib.hid (O7.out.keep D8.out)
      have L8 := fun y : Later wc => HS7.out y.w (Below.chain D8.out y.kept)
      have T8 := Lib.hid (fun y : Later wc => HX.out.keep (Below.chain BB7.out (Below.chain D8.out y.kept)))
      have W1 := fun y : Later wc => lword_any s y.w
      have W2 := fun y : Later wc => rword_any s y.w
      have W3 := fun y : Later wc => lright_any t x y.w (T8.out y)
      have W4 := fun y : Later wc => rright6_any t x y.w (T8.out y)
      have W5 := fun y : Later wc => rhas6_any l' t x v4 y.w (T8.out y) (R48.out.keep y.kept)
      have W6 := fun y : Later wc => CS v6 v4 y.w (O8.out.keep y.kept) (R48.out.keep y.kept)
      rw [HH.out] at W5
      clear hoa hob hoa2 ba bb bc ha hb2 hc2 N7 M7 HN
      generalize wordB s = p1 at *
      generalize rightL t = p2 at *
      go_wp2_with fail
      refine wp_region_later (by kernel_rfl) (by kernel_rfl) ?_
      repeat (go_big_quiet_step (first | with_reducible exact later_call (W1 _) | with_reducible exact later_same (W2 _) | with_reducible exact later_call (W3 _) | with_reducible exact later_call (W4 _) | with_reducible exact later_call (W5 _) | with_reducible exact later_call (W6 _)))
      refine wpQuiet_nil ?_
      rintro w' ⟨x, rfl⟩
      have hk := x.kept
      go_wp2_with fail
      go_ret
      exact ⟨rfl, Below.chain C0.out (Below.chain BB7.out (Below.chain D8.out hk))⟩
end Go.Proofs.Ytlnmjbheohkanaa.LabelTells
