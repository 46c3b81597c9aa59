/- The walk of the law LabelMore. -/
import Derived.Test.YtlnmjbheohkanaaKT
namespace Go.Proofs.Ytlnmjbheohkanaa.LabelMore
open Go Go.RowKit
set_option linter.unusedVariables false
theorem inB_app (l m : List ByteArray) (s : ByteArray) : inB (l ++ m) s = (inB l s || inB m s) := by unfold inB; rw [List.any_append]
theorem holds_more (l m : List ByteArray) : ∀ t : Ex, notsT t = false → termK t = true → holdsL l t = true → holdsL (l ++ m) t = true := by
  refine ex_ind fun kind name v kids ih hn hK h => ?_
  rw [notsT] at hn
  rw [termK] at hK
  simp only [Bool.or_eq_false_iff, decide_eq_false_iff_not] at hn
  simp only [Bool.and_eq_true, decide_eq_true_eq] at hK
  obtain ⟨hk6, hnk⟩ := hn
  obtain ⟨⟨⟨-, hN⟩, -⟩, hTL⟩ := hK
  rw [holdsL] at h ⊢
  by_cases k4 : kind = 4
  · rw [if_pos k4] at h ⊢
    rw [inB_app, h]; rfl
  rw [if_neg k4] at h ⊢
  by_cases k5 : kind = 5
  · rw [if_pos k5] at h ⊢
    simp only [decide_eq_true_eq, List.length_append] at *
    omega
  rw [if_neg k5, if_neg hk6] at h ⊢
  by_cases k7 : kind = 7
  · rw [if_pos k7] at h ⊢
    have hn2 : kids.length = 2 := by rw [k7] at hN; simp [kidsN] at hN; omega
    match kids, hn2, hTL, ih, hnk, h with
    | [t1, t2], _, hTL, ih, hnk, h =>
      rw [termL, termL, termL, Bool.and_true, Bool.and_eq_true] at hTL
      rw [notsTL, notsTL, notsTL, Bool.or_false, Bool.or_eq_false_iff] at hnk
      rw [holdsLL, holdsLL, holdsLL] at h ⊢
      simp only [List.headD_cons, List.drop_succ_cons, List.drop_zero, Bool.and_eq_true] at h ⊢
      exact ⟨ih t1 (by simp) hnk.1 hTL.1 h.1, ih t2 (by simp) hnk.2 hTL.2 h.2⟩
  rw [if_neg k7] at h ⊢
  by_cases k8 : kind = 8
  · rw [if_pos k8] at h ⊢
    have hn2 : kids.length = 2 := by rw [k8] at hN; simp [kidsN] at hN; omega
    match kids, hn2, hTL, ih, hnk, h with
    | [t1, t2], _, hTL, ih, hnk, h =>
      rw [termL, termL, termL, Bool.and_true, Bool.and_eq_true] at hTL
      rw [notsTL, notsTL, notsTL, Bool.or_false, Bool.or_eq_false_iff] at hnk
      rw [holdsLL, holdsLL, holdsLL] at h ⊢
      simp only [List.headD_cons, List.drop_succ_cons, List.drop_zero, Bool.or_eq_true] at h ⊢
      rcases h with h | h
      · exact .inl (ih t1 (by simp) hnk.1 hTL.1 h)
      · exact .inr (ih t2 (by simp) hnk.2 hTL.2 h)
  rw [if_neg k8] at h ⊢
theorem has_more (l m : List ByteArray) (t : Ex) (hn : notsT t = false) (h : hasL l t = true) : hasL (l ++ m) t = true := by
  unfold hasL at *
  rw [Bool.and_eq_true] at h
  rw [h.1, Bool.true_and]
  cases t with
  | node kind name v kids =>
    by_cases k0 : kind = 0
    · rw [holdsL, if_neg (by omega), if_neg (by omega), if_neg (by omega), if_neg (by omega), if_neg (by omega)]
    · have hr := h.1
      rw [right_nz _ _ _ _ k0] at hr
      exact holds_more l m _ hn (termE_K hr).2 h.2
set_option maxHeartbeats 8000000 in
set_option maxRecDepth 100000 in
theorem walk (v : Value) (l : List ByteArray) (v2 : Value) (l2 : List ByteArray) (t : Ex) (x : Xc) (w : World) (hl : RwS w v l) (hl2 : RwS w v2 l2) (hx : Tx w t x) :
    Calls Try.prog 8 #[v, v2, xv x] w fun e w' => e = .returned (.bool true) ∧ Below w.heap.size w w' := by
  obtain ⟨ao, L, cap, rfl, hL, hLc, hLm⟩ : ∃ ao L cap, v = .slice ao L cap ∧ l.length = L ∧ L ≤ cap ∧ cap ≤ 9223372036854775807 := by
    obtain ⟨a, c, e, e1, e2, -⟩ := hl
    simp only [maxLen] at e2
    exact ⟨a, _, c, e, rfl, e1, by omega⟩
  obtain ⟨ao2, L2, cap2, rfl, hL2, hLc2, hLm2⟩ : ∃ ao L cap, v2 = .slice ao L cap ∧ l2.length = L ∧ L ≤ cap ∧ cap ≤ 9223372036854775807 := by
    obtain ⟨a, c, e, e1, e2, -⟩ := hl2
    simp only [maxLen] at e2
    exact ⟨a, _, c, e, rfl, e1, by omega⟩
  obtain ⟨M, hM⟩ : ∃ M : Nat, M = min L 30 := ⟨_, rfl⟩
  obtain ⟨N, hN⟩ : ∃ N : Nat, N = min L2 30 := ⟨_, rfl⟩
  have hmin : min (L : Int) 30 = (M : Int) := by omega
  have hmin2 : min (L2 : Int) 30 = (N : Int) := by omega
  have hMc : (M : Int) ≤ (cap : Int) := by omega
  have hNc : (N : Int) ≤ (cap2 : Int) := by omega
  have hMl : M ≤ l.length := by omega
  have hNl : N ≤ l2.length := by omega
  have hM30 : M ≤ 30 := by omega
  have hN30 : N ≤ 30 := by omega
  have c0 := below_a1 w (.cells (xcs x) 28)
  have LZ := Lib.hid (lies7_new w x 28 (xcs x) rfl)
  have HX := Lib.hid (hx.keep c0)
  have HR := Lib.hid ((hl.keep c0).head M hMl)
  have HR2 := Lib.hid ((hl2.keep c0).head N hNl)
  have HM := Lib.hid (show (l.take M).length ≤ 30 by simp; omega)
  have HM2 := Lib.hid (show (l2.take N).length ≤ 30 by simp; omega)
  have C0 := Lib.hid c0
  have B0 := Lib.hid (Below.refl (w.alloc (.cells (xcs x) 28)).heap.size (w.alloc (.cells (xcs x) 28)))
  have S1 := Lib.hid (shown6_any (w.alloc (.cells (xcs x) 28)))
  clear hl hx c0 hL hMl hM hl2 hL2 hNl hN
  generalize l.take M = l' at *
  generalize l2.take N = m' at *
  go_enter Try.func8, Try.ntmps8
  go_wp2_with fail
  (with_reducible refine (S1.out).mono ?_); rintro e w1 ⟨rfl, b1⟩
  have B1 := Lib.hid (Below.chain B0.out b1)
  clear b1
  have ⟨y0, y1, y2, y3, y4, y5, y6⟩ := (LZ.out.keep B1.out).at
  have K := Lib.hid (count6_any t x w1 (HX.out.keep B1.out))
  by_cases hc : 300 < cnt t
  · have ic : (300 : Int) < (cnt t : Int) := by omega
    generalize cnt t = n at *
    go_wp2_with fail
    (with_reducible refine K.out.mono ?_); rintro e w3 ⟨rfl, b3⟩
    go_wp2_with fail
    go_ret
    exact ⟨rfl, Below.chain C0.out (Below.chain B1.out b3)⟩
  have ic : ¬ (300 : Int) < (cnt t : Int) := by omega
  clear hc
  generalize cnt t = n at *
  go_wp2_with fail
  (with_reducible refine (K.out).mono ?_); rintro e w2 ⟨rfl, b2⟩
  have B2 := Lib.hid (Below.chain B1.out b2)
  clear b2
  clear K y0 y1 y2 y3 y4 y5 y6
  have ⟨y0, y1, y2, y3, y4, y5, y6⟩ := (LZ.out.keep B2.out).at
  have K := Lib.hid (nots6_any t x w2 (HX.out.keep B2.out))
  cases hn : notsT t
  · rw [hn] at K
    have HMO := Lib.hid (has_more l' m' t hn)
    clear hn
    go_wp2_with fail
    (with_reducible refine (K.out).mono ?_); rintro e w3 ⟨rfl, b3⟩
    have B3 := Lib.hid (Below.chain B2.out b3)
    clear b3
    clear K y0 y1 y2 y3 y4 y5 y6
    have R4 := Lib.hid (HR.out.keep B3.out)
    have s4 := Lib.hid (show ([] : List ByteArray).length + l'.length ≤ 1000000 by have := HM.out; simp; omega)
    have s5 := Lib.hid (show l'.length + m'.length ≤ 1000000 by have := HM.out; have := HM2.out; omega)
    have R42 := Lib.hid (HR2.out.keep B3.out)
    have NA := Lib.hid ((Ow.lit (E := encS) (e := 9) w3 w3.heap.size [] (Nat.le_refl _) (by simp) #[] rfl).below (Below.refl _ _).drew)
    have A4 := Lib.hid (show Below w3.heap.size w3 (w3.alloc (.cells #[] 9)).drew from (below_a1 _ _).drew)
    go_wp2_with fail
    go_region_held3 (fun W => Below w3.heap.size w3 W)
      (first | exact (Below.refl _ _).drew | exact A4.out | exact d25 | exact d31)
      (first
        | (refine step_append_rw (E := encS) rfl (.tmp 23) (.tmp 24) _ rfl Try.underlying22 info_str zs_str one_pos b16 (by simp [Act.eval]) (by simp [Act.eval]) NA.out (R4.out.keep A4.out) s4.out A4.out.size ?_
           intro v25 w25 o25 g25 _
           have d25 := A4.out.grown g25 A4.out.size NA.out.row
           rw [List.nil_append] at o25)
        | (refine step_append_rw (E := encS) rfl (.tmp 25) (.tmp 30) _ rfl Try.underlying22 info_str zs_str one_pos b16 (by simp [Act.eval]) (by simp [Act.eval]) o25 (R42.out.keep d25) s5.out d25.size ?_
           intro v31 w31 o31 g31 _
           have d31 := d25.grown g31 d25.size o25.row))
    all_goals
      have BB := Lib.hid (Below.chain B3.out d31)
      have R6 := Lib.hid (R4.out.keep d31)
      have O6 := Lib.hid o31.rw
      clear o25 g25 o31 g31 d25 d31
      have ⟨y0, y1, y2, y3, y4, y5, y6⟩ := (LZ.out.keep BB.out).at
      have K := Lib.hid (lhas_any l' t x _ w31 (HX.out.keep BB.out) R6.out)
      cases hp : hasL l' t
      · rw [hp] at K
        clear hp
        go_wp2_with fail
        (with_reducible refine K.out.mono ?_); rintro e w7 ⟨rfl, b7⟩
        go_wp2_with fail
        go_ret
        exact ⟨rfl, Below.chain C0.out (Below.chain BB.out b7)⟩
      · rw [hp] at K
        have HMO2 := Lib.hid (HMO.out hp)
        clear hp
        go_wp2_with fail
        (with_reducible refine K.out.mono ?_); rintro e w7 ⟨rfl, b7⟩
        have ⟨x0, x1, x2, x3, x4, x5, x6⟩ := (LZ.out.keep (Below.chain BB.out b7)).at
        have K2 := Lib.hid (lhas_any (l' ++ m') t x _ w7 (HX.out.keep (Below.chain BB.out b7)) (O6.out.keep b7))
        rw [HMO2.out] at K2
        go_wp2_with fail
        (with_reducible refine K2.out.mono ?_); rintro e w8 ⟨rfl, b8⟩
        go_wp2_with fail
        go_ret
        exact ⟨rfl, Below.chain C0.out (Below.chain BB.out (Below.chain b7 b8))⟩
  · rw [hn] at K
    go_wp2_with fail
    (with_reducible refine (K.out).mono ?_); rintro e w3 ⟨rfl, b3⟩
    have B3 := Lib.hid (Below.chain B2.out b3)
    clear b3
    go_wp2_with fail
    go_ret
    exact ⟨rfl, Below.chain C0.out B3.out⟩
end Go.Proofs.Ytlnmjbheohkanaa.LabelMore
