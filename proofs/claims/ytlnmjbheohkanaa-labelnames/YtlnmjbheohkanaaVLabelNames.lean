/- The walk of the law LabelNames. -/
import Derived.Test.YtlnmjbheohkanaaKT
namespace Go.Proofs.Ytlnmjbheohkanaa.LabelNames
open Go Go.RowKit
set_option linter.unusedVariables false
theorem names_words : ∀ t : Ex, termK t = true → ∀ s ∈ namesT t, wordB s = true := by
  have aux : ∀ l : List Ex, (∀ t ∈ l, termK t = true → ∀ s ∈ namesT t, wordB s = true) → termL l = true → ∀ s ∈ namesTL l, wordB s = true := by
    intro l
    induction l with
    | nil => intro _ _ s hs; rw [namesTL] at hs; simp at hs
    | cons x l ih =>
      intro h hT s hs
      rw [termL, Bool.and_eq_true] at hT
      rw [namesTL, List.mem_append] at hs
      rcases hs with hs | hs
      · exact h x (by simp) hT.1 s hs
      · exact ih (fun t ht => h t (by simp [ht])) hT.2 s hs
  refine ex_ind fun kind name v kids ih hK s hs => ?_
  rw [termK] at hK
  simp only [Bool.and_eq_true, decide_eq_true_eq] at hK
  obtain ⟨⟨⟨-, hN⟩, hnm⟩, hTL⟩ := hK
  rw [namesT, List.mem_append] at hs
  rcases hs with hs | hs
  · by_cases k4 : kind = 4
    · rw [if_pos k4] at hs
      have e : s = name := by simpa using hs
      unfold nameOk at hnm
      rw [if_pos k4] at hnm
      rw [e]; exact hnm
    · rw [if_neg k4] at hs; simp at hs
  · exact aux kids ih hTL s hs
theorem right_K {t : Ex} (h : rightL t = true) : termK t = true ∨ namesT t = [] := by
  cases t with
  | node kind name v kids =>
    by_cases k0 : kind = 0
    · right
      rw [rightL, if_pos k0] at h
      simp only [Bool.and_eq_true, decide_eq_true_eq] at h
      have hk : kids = [] := List.eq_nil_of_length_eq_zero h.2
      rw [namesT, if_neg (by omega), hk, namesTL]; rfl
    · left
      rw [right_nz _ _ _ _ k0] at h
      exact (termE_K h).2
theorem word_size {s : ByteArray} (h : wordB s = true) : s.size ≤ 40 := by
  rcases Nat.lt_or_ge 40 s.size with h4 | h4
  · rw [word_long h4] at h; cases h
  · exact h4
theorem names_size {t : Ex} (h : rightL t = true) : ∀ s ∈ namesL t, s.size ≤ 40 := by
  intro s hs
  rw [namesL_mem h] at hs
  rcases right_K h with hk | hk
  · exact word_size (names_words t hk s hs)
  · rw [hk] at hs; simp at hs
theorem holds_ext (K l : List ByteArray) (hlen : decide (0 < K.length) = decide (0 < l.length)) : ∀ t : Ex, termK t = true → (∀ s ∈ namesT t, inB K s = inB l s) → holdsL K t = holdsL l t := by
  refine ex_ind fun kind name v kids ih hK h => ?_
  rw [termK] at hK
  simp only [Bool.and_eq_true, decide_eq_true_eq] at hK
  obtain ⟨⟨⟨-, hN⟩, -⟩, hTL⟩ := hK
  rw [namesT] at h
  rw [holdsL, holdsL]
  by_cases k4 : kind = 4
  · rw [if_pos k4, if_pos k4]
    exact h name (by rw [if_pos k4]; simp)
  rw [if_neg k4, if_neg k4]
  by_cases k5 : kind = 5
  · rw [if_pos k5, if_pos k5]; exact hlen
  rw [if_neg k5, if_neg k5]
  have hLL : holdsLL K kids = holdsLL l kids := by
    have aux : ∀ m : List Ex, (∀ t ∈ m, t ∈ kids) → termL m = true → (∀ s ∈ namesTL m, inB K s = inB l s) → holdsLL K m = holdsLL l m := by
      intro m
      induction m with
      | nil => intro _ _ _; rw [holdsLL, holdsLL]
      | cons y m ihm =>
        intro hm hT hs
        rw [termL, Bool.and_eq_true] at hT
        rw [holdsLL, holdsLL, ih y (hm y (by simp)) hT.1 (fun s hs' => hs s (by rw [namesTL]; simp [hs'])), ihm (fun t ht => hm t (by simp [ht])) hT.2 (fun s hs' => hs s (by rw [namesTL]; simp [hs']))]
    exact aux kids (fun t ht => ht) hTL (fun s hs => h s (by simp [hs]))
  rw [hLL]
theorem has_ext (K l : List ByteArray) (t : Ex) (hr : rightL t = true) (hlen : decide (0 < K.length) = decide (0 < l.length)) (h : ∀ s, inB (namesL t) s = true → inB K s = inB l s) : hasL K t = hasL l t := by
  unfold hasL
  rw [hr, Bool.true_and, Bool.true_and]
  rcases right_K hr with hk | hk
  · exact holds_ext K l hlen t hk fun s hs => h s (by rw [inB_mem, namesL_mem hr]; exact hs)
  · cases t with
    | node kind name v kids =>
      by_cases k0 : kind = 0
      · rw [holdsL, holdsL]
        simp [k0]
      · rw [right_nz _ _ _ _ k0] at hr
        exact holds_ext K l hlen _ (termE_K hr).2 fun s hs => by rw [hk] at hs; simp at hs
theorem inB_app (l m : List ByteArray) (s : ByteArray) : inB (l ++ m) s = (inB l s || inB m s) := by unfold inB; rw [List.any_append]
theorem inB_cons (z : ByteArray) (l : List ByteArray) (s : ByteArray) : inB (z :: l) s = ((z.toList == s.toList) || inB l s) := rfl
theorem inB_nil (s : ByteArray) : inB [] s = false := rfl
theorem not_same {N : List ByteArray} {z s : ByteArray} (hz : inB N z = false) (hs : inB N s = true) : (z.toList == s.toList) = false := by
  rw [Bool.eq_false_iff]
  intro h
  have e : z = s := byt_inj (by rw [← tl_byt, ← tl_byt]; simpa using h)
  rw [e, hs] at hz; cases hz
theorem drop_in (l : List ByteArray) (k : Nat) (hk : k < l.length) (s : ByteArray) : inB (l.drop k) s = ((l[k].toList == s.toList) || inB (l.drop (k + 1)) s) := by
  rw [List.drop_eq_getElem_cons hk]; rfl
theorem two_drew (w : World) (a b : ByteArray) : RwS (w.alloc (.cells #[.string a, .string b] 9)).drew (.slice (some ⟨w.heap.size, 0, none⟩) 2 2) [a, b] := (two_rw w a b).keep (Below.refl _ _).drew
theorem less_not {a b : List UInt8} (h : Op.bytesLess a b = true) : Op.bytesLess b a = false ∧ (b == a) = false := by
  rcases bl_tri a b with k | k | k
  · refine ⟨k.2.1, ?_⟩
    rw [Bool.eq_false_iff]
    intro e
    have e2 : b = a := by simpa using e
    exact k.2.2 e2.symm
  · rw [h] at k; exact absurd k.1 (by simp)
  · rw [h] at k; exact absurd k.1 (by simp)
set_option maxHeartbeats 16000000 in
set_option maxRecDepth 100000 in
theorem walk (v : Value) (l : List ByteArray) (t : Ex) (x : Xc) (w : World) (hl : RwS w v l) (hx : Tx w t x) :
    Calls Try.prog 5 #[v, xv x] w fun e w' => e = .returned (.bool true) ∧ Below w.heap.size w w' := by
  obtain ⟨ao, L, cap, rfl, hL, hLc, hLm⟩ : ∃ ao L cap, v = .slice ao L cap ∧ l.length = L ∧ L ≤ cap ∧ cap ≤ 9223372036854775807 := by
    obtain ⟨a, c, e, e1, e2, -⟩ := hl
    simp only [maxLen] at e2
    exact ⟨a, _, c, e, rfl, e1, by omega⟩
  obtain ⟨M, hM⟩ : ∃ M : Nat, M = min L 30 := ⟨_, rfl⟩
  have hmin : min (L : Int) 30 = (M : Int) := by omega
  have hMc : (M : Int) ≤ (cap : Int) := by omega
  have hMl : M ≤ l.length := by omega
  have hM30 : M ≤ 30 := by omega
  have c0 := below_a1 w (.cells (xcs x) 28)
  have LZ := Lib.hid (lies7_new w x 28 (xcs x) rfl)
  have HX := Lib.hid (hx.keep c0)
  have HR := Lib.hid ((hl.keep c0).head M hMl)
  have HM := Lib.hid (show (l.take M).length = M by simp; omega)
  have C0 := Lib.hid c0
  have B0 := Lib.hid (Below.refl (w.alloc (.cells (xcs x) 28)).heap.size (w.alloc (.cells (xcs x) 28)))
  have S1 := Lib.hid (shown6_any (w.alloc (.cells (xcs x) 28)))
  clear hl hx c0 hL hMl hM
  generalize l.take M = l' at *
  go_enter Try.func5, Try.ntmps5
  go_wp2_with fail
  (with_reducible refine (S1.out).mono ?_); rintro e w1 ⟨rfl, b1⟩
  have B1 := Lib.hid (Below.chain B0.out b1)
  clear b1
  have ⟨y0, y1, y2, y3, y4, y5, y6⟩ := (LZ.out.keep B1.out).at
  have K := Lib.hid (count6_any t x w1 (HX.out.keep B1.out))
  by_cases hc : 300 < cnt t
  · have ic : (300 : Int) < (cnt t : Int) := by omega
    generalize cnt t = n at *
    go_wp2_with fail
    (with_reducible refine K.out.mono ?_); rintro e w3 ⟨rfl, b3⟩
    go_wp2_with fail
    go_ret
    exact ⟨rfl, Below.chain C0.out (Below.chain B1.out b3)⟩
  have ic : ¬ (300 : Int) < (cnt t : Int) := by omega
  have HNT := Lib.hid (fun (_ : rightL t = true) => namesT_few t (by omega))
  clear hc
  generalize cnt t = n at *
  go_wp2_with fail
  (with_reducible refine (K.out).mono ?_); rintro e w2 ⟨rfl, b2⟩
  have B2 := Lib.hid (Below.chain B1.out b2)
  clear b2
  clear K y0 y1 y2 y3 y4 y5 y6
  have ⟨y0, y1, y2, y3, y4, y5, y6⟩ := (LZ.out.keep B2.out).at
  have K := Lib.hid (lright_any t x w2 (HX.out.keep B2.out))
  cases hrt : rightL t
  · rw [hrt] at K
    clear hrt
    go_wp2_with fail
    (with_reducible refine K.out.mono ?_); rintro e w3 ⟨rfl, b3⟩
    go_wp2_with fail
    go_ret
    exact ⟨rfl, Below.chain C0.out (Below.chain B2.out b3)⟩
  rw [hrt] at K
  have HRT := Lib.hid hrt
  clear hrt
  go_wp2_with fail
  (with_reducible refine (K.out).mono ?_); rintro e w3 ⟨rfl, b3⟩
  have B3 := Lib.hid (Below.chain B2.out b3)
  clear b3
  clear K y0 y1 y2 y3 y4 y5 y6
  have ⟨y0, y1, y2, y3, y4, y5, y6⟩ := (LZ.out.keep B3.out).at
  have K := Lib.hid (lnames_any t x w3 (HX.out.keep B3.out) HNT.out)
  go_wp2_with fail
  (with_reducible refine (K.out).mono ?_); rintro e w4 ⟨u, rfl, ho, b4⟩
  have B4 := Lib.hid (Below.chain B3.out b4)
  have hU : ∃ uo Ln uc, u = .slice uo Ln uc ∧ (namesL t).length = Ln ∧ Ln ≤ 9223372036854775807 := by
    obtain ⟨a, c, e, e1, e2, -⟩ := ho.rw
    simp only [maxLen] at e2
    exact ⟨a, _, c, e, rfl, by omega⟩
  obtain ⟨uo, Ln, uc, rfl, hLn, hLnm⟩ := hU
  have RN := Lib.hid ho.rw
  have HLn := Lib.hid hLn
  have NS := Lib.hid (names_size HRT.out)
  have NR := Lib.hid (namesL_rising t)
  have EX := Lib.hid (fun K => has_ext K l' t HRT.out)
  have HX4 := Lib.hid (HX.out.keep B4.out)
  have HR4 := Lib.hid (HR.out.keep B4.out)
  have LZ4 := Lib.hid (LZ.out.keep B4.out)
  have BB4 := Lib.hid (Below.chain C0.out B4.out)
  clear ho b4 hLn K y0 y1 y2 y3 y4 y5 y6 HX HR LZ B4 B3 B2 B1 B0
  generalize namesL t = N at *
  go_wp2_with fail
  go_loopg [7, 8] Ln (fun g s7 s8 wr => ∃ (i : Nat) (ot : ByteArray), g + i = Ln ∧ s8 = .int .i64 i ∧ s7 = .string ot ∧ ot.size ≤ 41 ∧ (∀ j (h : j < N.length), j < i → N[j].size < ot.size) ∧ wr = w4)
  case atStart => exact ⟨0, ⟨#[]⟩, rfl, rfl, rfl, by decide, fun j _ h => absurd h (Nat.not_lt_zero _), rfl⟩
  case round =>
    obtain ⟨i, ot, hg, rfl, rfl, hot, hz, rfl⟩ := hrel
    have HZ := Lib.hid hz
    clear hz
    by_cases hlt : i < Ln
    · have ii : (i : Int) < (Ln : Int) := by omega
      have hi : i < N.length := by rw [HLn.out]; exact hlt
      obtain ⟨ao', cap', he, -, -, -, hc⟩ := RN.out
      simp only [Value.slice.injEq] at he
      obtain ⟨rfl, -, rfl⟩ := he
      obtain ⟨bb, oo, rfl, hcell⟩ := hc i hi
      have q0 : wr.cell? ⟨bb, oo + i, none⟩ = some (.string N[i]) := by have := hcell 0 (by decide); simpa [encS] using this
      have HS := Lib.hid (show N[i].size ≤ 40 from NS.out _ (List.getElem_mem hi))
      have HU := Lib.hid (fun (o2 : ByteArray) (h1 : ot.size ≤ o2.size) (h2 : N[i].size < o2.size) (j : Nat) (hj : j < N.length) (hji : j < i + 1) => (show N[j].size < o2.size by
        by_cases e : j = i
        · subst e; exact h2
        · exact Nat.lt_of_lt_of_le (HZ.out j hj (by omega)) h1))
      clear hc hcell
      generalize N[i] = z at *
      have hsz := HS.out
      by_cases hs : ot.size ≤ z.size
      · have js : (ot.size : Int) ≤ (z.size : Int) := by omega
        have ez : (z ++ (⟨#[120]⟩ : ByteArray)).size = z.size + 1 := by rw [ByteArray.size_append]; rfl
        have EZ := Lib.hid ez
        clear ez
        go_wp2_with fail
        go_roundg (Ln - (i + 1))
        case rel => exact ⟨i + 1, z ++ ⟨#[120]⟩, by omega, by go_num, rfl, by rw [EZ.out]; omega, HU.out _ (by rw [EZ.out]; omega) (by rw [EZ.out]; omega), rfl⟩
        case measure => omega
      · have js : ¬ (ot.size : Int) ≤ (z.size : Int) := by omega
        have js2 : (z.size : Int) < (ot.size : Int) := by omega
        go_wp2_with fail
        go_roundg (Ln - (i + 1))
        case rel => exact ⟨i + 1, ot, by omega, by go_num, rfl, hot, HU.out _ (Nat.le_refl _) (by omega), rfl⟩
        case measure => omega
    · obtain rfl : Ln = i := by omega
      have ii : ¬ ((Ln : Int) < (Ln : Int)) := by omega
      have HOT := Lib.hid (show inB N ot = false by
        rw [Bool.eq_false_iff]
        intro hm
        rw [inB_mem] at hm
        obtain ⟨j, hj, e⟩ := List.getElem_of_mem hm
        have := HZ.out j hj (by have := HLn.out; omega)
        rw [e] at this; omega)
      clear HZ hlt hg
      rename World => wA
      go_wp2_with fail
      go_loopg [9, 10] M (fun g s9 s10 wr => ∃ (r : Nat) (KL : List ByteArray), g = r ∧ r ≤ M ∧ s10 = .int .i64 ((r : Int) - 1) ∧ OwS wr wA.heap.size s9 KL ∧ (∀ s, inB N s = true → inB KL s = inB (l'.drop r) s) ∧ KL.length ≤ 2 * (M - r) ∧ Below wA.heap.size wA wr)
      case atStart => exact ⟨M, [], rfl, Nat.le_refl _, by go_num, Ow.nil _ _, fun s _ => by rw [List.drop_of_length_le (by rw [HM.out]; exact Nat.le_refl _)], Nat.zero_le _, Below.refl _ _⟩
      case round =>
        obtain ⟨r, KL, hg, hrM, hs10, hOK, hin, hKl, hb⟩ := hrel
        have HIN := Lib.hid hin
        have HKL := Lib.hid hKl
        have HB := Lib.hid hb
        have HOK := Lib.hid hOK
        clear hin hKl hb hOK
        by_cases hr0 : 0 < r
        · obtain ⟨k, rfl⟩ : ∃ k, r = k + 1 := ⟨r - 1, by omega⟩
          have ek : (((k + 1 : Nat) : Int) - 1) = (k : Int) := by omega
          rw [ek] at hs10
          subst hs10
          have ii : (0 : Int) ≤ (k : Int) := by omega
          have i2 : (k : Int) < (M : Int) := by omega
          have hi : k < l'.length := by rw [HM.out]; omega
          obtain ⟨ao', cap', he, -, -, -, hc⟩ := HR4.out
          simp only [Value.slice.injEq] at he
          obtain ⟨rfl, -, rfl⟩ := he
          obtain ⟨bb, oo, rfl, hcell⟩ := hc k hi
          have qA : wA.cell? ⟨bb, oo + k, none⟩ = some (.string l'[k]) := by have := hcell 0 (by decide); simpa [encS] using this
          have HD := Lib.hid (drop_in l' k hi)
          clear hc hcell ek
          generalize l'[k] = z at *
          have CW := Lib.hid (fun W (h : Below wA.heap.size wA W) => show W.cell? ⟨bb, oo + k, none⟩ = some (.string z) from (h.cell (block_lt_of_cell qA)).trans qA)
          have q0 := CW.out _ HB.out
          clear qA hi
          have CI := Lib.hid (rin_any N z _ wr (RN.out.keep HB.out))
          cases hzn : inB N z
          · rw [hzn] at CI
            have HZN := Lib.hid hzn
            clear hzn
            go_wp2_with fail
            (with_reducible refine CI.out.mono ?_); rintro e w5 ⟨rfl, rfl⟩
            go_wp2_with fail
            go_roundg k
            case rel => exact ⟨k, KL, rfl, by omega, by go_num, HOK.out, fun s hs => by rw [HD.out, not_same HZN.out hs, Bool.false_or]; exact HIN.out s hs, by have := HKL.out; omega, HB.out⟩
            case measure => omega
          · rw [hzn] at CI
            clear hzn
            go_wp2_with fail
            (with_reducible refine CI.out.mono ?_); rintro e w5 ⟨rfl, rfl⟩
            have A1 := Lib.hid (show Below wr.heap.size wr (wr.alloc (.cells #[.string z, .string z] 9)).drew from (below_a1 _ _).drew)
            have O1 := Lib.hid (HOK.out.below A1.out)
            have T2 := Lib.hid (two_drew wr z z)
            have SZ := Lib.hid (show wA.heap.size ≤ (wr.alloc (.cells #[.string z, .string z] 9)).drew.heap.size from Nat.le_trans HB.out.size A1.out.size)
            have LN := Lib.hid (show KL.length + [z, z].length ≤ 1000000 by have := HKL.out; simp; omega)
            go_wp2_with fail
            go_region_held3 (fun W => W.cell? ⟨bb, oo + k, none⟩ = some (.string z))
              (first | exact CW.out _ HB.out.drew | exact CW.out _ (Below.chain HB.out A1.out) | exact CW.out _ d6)
              (first
                | (refine step_append_rw (E := encS) rfl (.tmp 61) (.tmp 70) _ rfl Try.underlying22 info_str zs_str one_pos b16 (by simp [Act.eval]) (by simp [Act.eval]) O1.out T2.out LN.out SZ.out ?_
                   intro v6 w6 o6 g6 _
                   have d6 := (Below.chain HB.out A1.out).grown g6 SZ.out O1.out.row))
            all_goals
              go_wp2_with fail
              go_roundg k
              case rel => exact ⟨k, KL ++ [z, z], rfl, by omega, by go_num, o6, fun s hs => by rw [inB_app, inB_cons, inB_cons, inB_nil, HIN.out s hs, HD.out]; cases (z.toList == s.toList) <;> simp, by have := HKL.out; simp only [List.length_append, List.length_cons, List.length_nil]; omega, d6⟩
              case measure => omega
        · obtain rfl : r = 0 := by omega
          subst hs10
          have HIN2 := Lib.hid (show ∀ s, inB N s = true → inB KL s = inB l' s from fun s hs => by rw [HIN.out s hs, List.drop_zero])
          clear HIN hr0 hg
          rename World => wB
          by_cases hM0 : 0 < M
          · have im : (0 : Int) < (M : Int) := by omega
            have A1 := Lib.hid (below_a1 wB (.cells #[.string ot] 9))
            have O1 := Lib.hid (HOK.out.below A1.out)
            have R1 := Lib.hid (one_new wB ot)
            have LN := Lib.hid (show KL.length + [ot].length ≤ 1000000 by have := HKL.out; simp; omega)
            have SZ := Lib.hid (show wA.heap.size ≤ (wB.alloc (.cells #[.string ot] 9)).heap.size from Nat.le_trans HB.out.size A1.out.size)
            go_upto_region 20 with (at_builtin; refine wpList_append_rw (E := encS) rfl _ _ _ rfl Try.underlying22 info_str rfl (by decide) (by decide) rfl rfl O1.out R1.out LN.out SZ.out ?_; intro vK wK oK gK atK)
            have BK := Lib.hid ((Below.chain HB.out A1.out).grown gK SZ.out O1.out.row)
            have OK := Lib.hid oK
            clear oK gK atK A1 O1 R1 LN SZ
            have BK2 := Lib.hid (Below.chain BB4.out BK.out)
            have EQ := Lib.hid (EX.out (KL ++ [ot]) (by rw [HM.out, decide_eq_true hM0]; simp) (fun s hs => by rw [inB_app, inB_cons, inB_nil, not_same HOT.out hs, HIN2.out s hs]; simp))
            have RNK := Lib.hid (RN.out.keep BK.out)
            have OKK := Lib.hid OK.out.rw
            have RLK := Lib.hid (HR4.out.keep BK.out)
            have TK := Lib.hid (HX4.out.keep BK.out)
            have LK := Lib.hid (LZ4.out.keep BK.out)
            go_wp2_with fail
            go_loopg [11] Ln (fun g s11 wr => ∃ i : Nat, g + i = Ln + 1 ∧ 1 ≤ i ∧ s11 = .int .i64 i ∧ Below wK.heap.size wK wr)
            case atStart => exact ⟨1, rfl, Nat.le_refl _, rfl, Below.refl _ _⟩
            case round =>
              obtain ⟨i, hg, hi1, rfl, hb⟩ := hrel
              obtain ⟨j, rfl⟩ : ∃ j, i = j + 1 := ⟨i - 1, by omega⟩
              by_cases hlt : j + 1 < Ln
              · have ii : ((j : Int) + 1) < (Ln : Int) := by omega
                have i3 : (j : Int) < (Ln : Int) := by omega
                have hi : j + 1 < N.length := by rw [HLn.out]; exact hlt
                have hj : j < N.length := by omega
                obtain ⟨ao', cap', he, -, -, -, hc⟩ := RNK.out.keep hb
                simp only [Value.slice.injEq] at he
                obtain ⟨rfl, -, rfl⟩ := he
                obtain ⟨bb, oo, rfl, hcell⟩ := hc (j + 1) hi
                obtain ⟨bb', oo', he2, hcell2⟩ := hc j hj
                cases he2
                have q0 : wr.cell? ⟨bb, oo + (j + 1), none⟩ = some (.string N[j + 1]) := by have := hcell 0 (by decide); simpa [encS] using this
                have q1 : wr.cell? ⟨bb, oo + j, none⟩ = some (.string N[j]) := by have := hcell2 0 (by decide); simpa [encS] using this
                have hbl : Op.bytesLess N[j].toList N[j + 1].toList = true := by
                  have := List.pairwise_iff_getElem.1 NR.out j (j + 1) (by simpa using hj) (by simpa using hi) (by omega)
                  rw [tl_byt, tl_byt]
                  simpa using this
                have hb2 := less_not hbl
                obtain ⟨hb3, hb4⟩ := hb2
                clear hc hcell hcell2 hbl
                generalize N[j + 1] = z1 at *
                generalize N[j] = z0 at *
                clear hi hj
                have HB5 := Lib.hid hb.drew
                go_wp2_with fail
                go_region
                all_goals
                  go_wp2_with fail
                  go_roundg (Ln - (j + 1))
                  case rel => exact ⟨j + 1 + 1, by omega, by omega, by go_num, HB5.out⟩
                  case measure => omega
              · have ii : ¬ (((j : Int) + 1) < (Ln : Int)) := by omega
                have HB5 := Lib.hid hb
                rename World => wF
                have L8 := fun y : Later wF => (LK.out.keep (Below.chain HB5.out y.kept)).at
                have W1 := fun y : Later wF => lhas_any (KL ++ [ot]) t x _ y.w (TK.out.keep (Below.chain HB5.out y.kept)) (OKK.out.keep (Below.chain HB5.out y.kept))
                have W2 := fun y : Later wF => lhas_any l' t x _ y.w (TK.out.keep (Below.chain HB5.out y.kept)) (RLK.out.keep (Below.chain HB5.out y.kept))
                rw [EQ.out] at W1
                clear EQ EX hb
                generalize hasL l' t = hb5 at *
                go_wp2_with fail
                refine wp_region_later (by kernel_rfl) (by kernel_rfl) ?_
                repeat (go_big_quiet_step (first | with_reducible exact later_call (W1 _) | with_reducible exact later_call (W2 _)))
                refine wpQuiet_nil ?_
                rintro w' ⟨x, rfl⟩
                have hkk := x.kept
                go_wp2_with fail
                go_ret
                exact ⟨rfl, Below.chain BK2.out (Below.chain HB5.out hkk)⟩
          · have im : ¬ (0 : Int) < (M : Int) := by omega
            have BK2 := Lib.hid (Below.chain BB4.out HB.out)
            have EQ := Lib.hid (EX.out KL (by rw [HM.out]; have := HKL.out; rw [Bool.eq_iff_iff]; simp only [decide_eq_true_eq]; omega) (HIN2.out))
            have RNK := Lib.hid (RN.out.keep HB.out)
            have OKK := Lib.hid HOK.out.rw
            have RLK := Lib.hid (HR4.out.keep HB.out)
            have TK := Lib.hid (HX4.out.keep HB.out)
            have LK := Lib.hid (LZ4.out.keep HB.out)
            go_wp2_with fail
            go_loopg [11] Ln (fun g s11 wr => ∃ i : Nat, g + i = Ln + 1 ∧ 1 ≤ i ∧ s11 = .int .i64 i ∧ Below wB.heap.size wB wr)
            case atStart => exact ⟨1, rfl, Nat.le_refl _, rfl, Below.refl _ _⟩
            case round =>
              obtain ⟨i, hg, hi1, rfl, hb⟩ := hrel
              obtain ⟨j, rfl⟩ : ∃ j, i = j + 1 := ⟨i - 1, by omega⟩
              by_cases hlt : j + 1 < Ln
              · have ii : ((j : Int) + 1) < (Ln : Int) := by omega
                have i3 : (j : Int) < (Ln : Int) := by omega
                have hi : j + 1 < N.length := by rw [HLn.out]; exact hlt
                have hj : j < N.length := by omega
                obtain ⟨ao', cap', he, -, -, -, hc⟩ := RNK.out.keep hb
                simp only [Value.slice.injEq] at he
                obtain ⟨rfl, -, rfl⟩ := he
                obtain ⟨bb, oo, rfl, hcell⟩ := hc (j + 1) hi
                obtain ⟨bb', oo', he2, hcell2⟩ := hc j hj
                cases he2
                have q0 : wr.cell? ⟨bb, oo + (j + 1), none⟩ = some (.string N[j + 1]) := by have := hcell 0 (by decide); simpa [encS] using this
                have q1 : wr.cell? ⟨bb, oo + j, none⟩ = some (.string N[j]) := by have := hcell2 0 (by decide); simpa [encS] using this
                have hbl : Op.bytesLess N[j].toList N[j + 1].toList = true := by
                  have := List.pairwise_iff_getElem.1 NR.out j (j + 1) (by simpa using hj) (by simpa using hi) (by omega)
                  rw [tl_byt, tl_byt]
                  simpa using this
                have hb2 := less_not hbl
                obtain ⟨hb3, hb4⟩ := hb2
                clear hc hcell hcell2 hbl
                generalize N[j + 1] = z1 at *
                generalize N[j] = z0 at *
                clear hi hj
                have HB5 := Lib.hid hb.drew
                go_wp2_with fail
                go_region
                all_goals
                  go_wp2_with fail
                  go_roundg (Ln - (j + 1))
                  case rel => exact ⟨j + 1 + 1, by omega, by omega, by go_num, HB5.out⟩
                  case measure => omega
              · have ii : ¬ (((j : Int) + 1) < (Ln : Int)) := by omega
                have HB5 := Lib.hid hb
                rename World => wF
                have L8 := fun y : Later wF => (LK.out.keep (Below.chain HB5.out y.kept)).at
                have W1 := fun y : Later wF => lhas_any KL t x _ y.w (TK.out.keep (Below.chain HB5.out y.kept)) (OKK.out.keep (Below.chain HB5.out y.kept))
                have W2 := fun y : Later wF => lhas_any l' t x _ y.w (TK.out.keep (Below.chain HB5.out y.kept)) (RLK.out.keep (Below.chain HB5.out y.kept))
                rw [EQ.out] at W1
                clear EQ EX hb
                generalize hasL l' t = hb5 at *
                go_wp2_with fail
                refine wp_region_later (by kernel_rfl) (by kernel_rfl) ?_
                repeat (go_big_quiet_step (first | with_reducible exact later_call (W1 _) | with_reducible exact later_call (W2 _)))
                refine wpQuiet_nil ?_
                rintro w' ⟨x, rfl⟩
                have hkk := x.kept
                go_wp2_with fail
                go_ret
                exact ⟨rfl, Below.chain BK2.out (Below.chain HB5.out hkk)⟩
end Go.Proofs.Ytlnmjbheohkanaa.LabelNames
