/- The walk of the law LabelAlone. -/
import Derived.Test.YtlnmjbheohkanaaKT
namespace Go.Proofs.Ytlnmjbheohkanaa.LabelAlone
open Go Go.RowKit
set_option linter.unusedVariables false
abbrev anyE : Ex := .node 5 ⟨#[]⟩ vz []
abbrev anyX : Xc := ⟨5, ⟨#[]⟩, vz, none, 0, 0⟩
theorem any_tx (w : World) : Tx w anyE anyX := Tx.mk zero_ok (Rw.nil _) (Txs.nil _)
theorem term_any : termE 1 anyE = true := by
  have e0 : (⟨#[]⟩ : ByteArray).toList = [] := nil_list
  refine termE_mk (by rw [deep, deepL]; decide) ?_
  rw [termK, nought_z, termL]
  simp [kidsN, nameOk, e0]
theorem term_nm (s : ByteArray) (h : wordB s = true) : termE 1 (nmE s) = true := termE_mk (by rw [deep, deepL]; decide) (termK_nm s h)
theorem right_nm (s : ByteArray) : rightL (nmE s) = wordB s := by
  rw [right_nz _ _ _ _ (by decide)]
  unfold termE
  rw [termK, nought_z, termL, deep, deepL]
  simp [kidsN, nameOk]
theorem holds_any (l : List ByteArray) : holdsL l anyE = decide (0 < l.length) := by
  rw [holdsL, if_neg (by decide), if_pos rfl]
set_option maxHeartbeats 16000000 in
set_option maxRecDepth 100000 in
theorem walk (v : Value) (l : List ByteArray) (s : ByteArray) (w : World) (hl : RwS w v l) :
    Calls Try.prog 10 #[v, .string s] w fun e w' => e = .returned (.bool true) ∧ Below w.heap.size w w' := by
  have hsf := run_store_float
  obtain ⟨ao, L, cap, rfl, hL, hLc, hLm⟩ : ∃ ao L cap, v = .slice ao L cap ∧ l.length = L ∧ L ≤ cap ∧ cap ≤ 9223372036854775807 := by
    obtain ⟨a, c, e, e1, e2, -⟩ := hl
    simp only [maxLen] at e2
    exact ⟨a, _, c, e, rfl, e1, by omega⟩
  obtain ⟨M, hM⟩ : ∃ M : Nat, M = min L 30 := ⟨_, rfl⟩
  have hmin : min (L : Int) 30 = (M : Int) := by omega
  have hMc : (M : Int) ≤ (cap : Int) := by omega
  have hMl : M ≤ l.length := by omega
  have hM30 : M ≤ 30 := by omega
  have HR := Lib.hid (hl.head M hMl)
  have HM := Lib.hid (show (l.take M).length = M by simp; omega)
  clear hl hL hMl hM
  generalize l.take M = l' at *
  have B0 := Lib.hid (Below.refl w.heap.size w)
  go_enter Try.func10, Try.ntmps10
  go_wp2_with fail
  (with_reducible refine (shown6_any w).mono ?_); rintro e w1 ⟨rfl, b1⟩
  have B1 := Lib.hid (Below.chain B0.out b1)
  clear b1
  have K := Lib.hid (lword_any s w1)
  have E0 := Lib.hid (right_nm s)
  cases hw : wordB s
  · rw [hw] at K E0
    have E1 := Lib.hid (has_bad l' E0.out)
    clear hw
    go_wp2_with fail
    (with_reducible refine (K.out).mono ?_); rintro e w2 ⟨rfl, b2⟩
    have B2 := Lib.hid (Below.chain B1.out b2)
    clear b2
    go_wp2_with fail
    (with_reducible refine (xname_any s w2).mono ?_); rintro e w3 ⟨za, rfl, ta, b3⟩
    have B3 := Lib.hid (Below.chain B2.out b3)
    have Ta := Lib.hid ta
    clear ta b3
    have K2 := Lib.hid (lright_any _ _ _ Ta.out)
    rw [E0.out] at K2
    go_wp2_with fail
    (with_reducible refine (K2.out).mono ?_); rintro e w4 ⟨rfl, b4⟩
    have B4 := Lib.hid (Below.chain B3.out b4)
    have Ta := Lib.hid (Ta.out.keep b4)
    clear b4
    clear Ta
    go_wp2_with fail
    (with_reducible refine (xname_any s w4).mono ?_); rintro e w5 ⟨zb, rfl, tb, b5⟩
    have B5 := Lib.hid (Below.chain B4.out b5)
    have Tb := Lib.hid tb
    clear tb b5
    have K3 := Lib.hid (lhas_any l' _ _ _ _ Tb.out (HR.out.keep B5.out))
    rw [E1.out] at K3
    go_wp2_with fail
    (with_reducible refine (K3.out).mono ?_); rintro e w6 ⟨rfl, b6⟩
    have B6 := Lib.hid (Below.chain B5.out b6)
    have Tb := Lib.hid (Tb.out.keep b6)
    clear b6
    go_wp2_with fail
    go_ret
    exact ⟨rfl, B6.out⟩
  · rw [hw] at K E0
    have tn := term_nm s hw
    have Hn := Lib.hid (has_term l' (by decide) tn)
    have Hnn := Lib.hid (has_term l' (by decide) (term_not tn))
    have Hy := Lib.hid (has_term l' (by decide) term_any)
    have tn2 : termE 2 (nmE s) = true := termE_mk (by rw [deep, deepL]; decide) (termK_nm s hw)
    have Ha := Lib.hid (has_term l' (by decide) (term_and tn2 (term_not tn)))
    have Ho := Lib.hid (has_term l' (by decide) (term_or (term_not tn) tn2))
    rw [holds_nm] at Hn
    rw [holds_not, holds_nm] at Hnn
    rw [holds_any, HM.out] at Hy
    rw [holds_and, holds_not, holds_nm] at Ha
    rw [holds_or, holds_not, holds_nm] at Ho
    have Hd := Lib.hid (show decide (0 < M) = decide ((0 : Int) < (M : Int)) by rw [Bool.eq_iff_iff]; simp)
    rw [Hd.out] at Hy
    clear hw tn tn2
    go_wp2_with fail
    (with_reducible refine (K.out).mono ?_); rintro e w2 ⟨rfl, b2⟩
    have B2 := Lib.hid (Below.chain B1.out b2)
    clear b2
    go_wp2_with fail
    go_loopg [6, 7] M (fun g s6 s7 wr => ∃ i : Nat, g + i = M ∧ s7 = .int .i64 i ∧ s6 = .bool (inB (l'.take i) s) ∧ wr = w2)
    case atStart => exact ⟨0, rfl, rfl, rfl, rfl⟩
    case round =>
      obtain ⟨i, hg, rfl, rfl, rfl⟩ := hrel
      by_cases hlt : i < M
      · have ii : (i : Int) < (M : Int) := by omega
        have hi : i < l'.length := by rw [HM.out]; exact hlt
        obtain ⟨ao', cap', he, -, -, -, hc⟩ := HR.out.keep B2.out
        simp only [Value.slice.injEq] at he
        obtain ⟨rfl, -, rfl⟩ := he
        obtain ⟨bb, oo, rfl, hcell⟩ := hc i hi
        have q0 : wr.cell? ⟨bb, oo + i, none⟩ = some (.string l'[i]) := by have := hcell 0 (by decide); simpa [encS] using this
        have HT := Lib.hid (inB_take l' s i hi)
        clear hc hcell
        generalize l'[i] = z at *
        cases hin : inB (l'.take i) s
        · rw [hin, Bool.false_or] at HT
          clear hin
          cases hz : z.toList == s.toList
          all_goals
            rw [hz] at HT
            go_wp2_with fail
            go_roundg (M - (i + 1))
            case rel => exact ⟨i + 1, by omega, by go_num, by rw [HT.out], rfl⟩
            case measure => omega
        · rw [hin, Bool.true_or] at HT
          clear hin
          go_wp2_with fail
          go_roundg (M - (i + 1))
          case rel => exact ⟨i + 1, by omega, by go_num, by rw [HT.out], rfl⟩
          case measure => omega
      · obtain rfl : M = i := by omega
        have ii : ¬ ((M : Int) < (M : Int)) := by omega
        have ht : l'.take M = l' := List.take_of_length_le (by rw [HM.out]; exact Nat.le_refl _)
        rw [ht]
        clear ht
        have BV := Lib.hid (Below.chain B2.out (below_a1 wr (.cells (xcs anyX) 28)))
        have LV := Lib.hid (lies7_new wr anyX 28 (xcs anyX) rfl)
        cases hp : inB l' s
        all_goals
          rw [hp] at Hn Hnn Ha Ho
          clear hp
          have U0 := Lib.hid (Below.refl (wr.alloc (.cells (xcs anyX) 28)).heap.size (wr.alloc (.cells (xcs anyX) 28)))
          go_wp2_with fail
          (with_reducible refine (xname_any s (wr.alloc (.cells (xcs anyX) 28))).mono ?_); rintro e w3 ⟨za, rfl, ta, b3⟩
          have B3 := Lib.hid (Below.chain U0.out b3)
          have Ta := Lib.hid ta
          clear ta b3
          have K := Lib.hid (lhas_any l' _ _ _ _ Ta.out (HR.out.keep (Below.chain BV.out B3.out)))
          rw [Hn.out] at K
          go_wp2_with fail
          (with_reducible refine (K.out).mono ?_); rintro e w4 ⟨rfl, b4⟩
          have B4 := Lib.hid (Below.chain B3.out b4)
          have Ta := Lib.hid (Ta.out.keep b4)
          clear b4
          clear K
          clear Ta
          go_wp2_with fail
          (with_reducible refine (xname_any s w4).mono ?_); rintro e w5 ⟨zb, rfl, tb, b5⟩
          have B5 := Lib.hid (Below.chain B4.out b5)
          have Tb := Lib.hid tb
          clear tb b5
          go_wp2_with fail
          (with_reducible refine (not6_any _ _ w5 Tb.out).mono ?_); rintro e w6 ⟨zc, rfl, tc, b6⟩
          have B6 := Lib.hid (Below.chain B5.out b6)
          have Tb := Lib.hid (Tb.out.keep b6)
          have Tc := Lib.hid tc
          clear tc b6
          clear Tb
          have K := Lib.hid (lhas_any l' _ _ _ _ Tc.out (HR.out.keep (Below.chain BV.out B6.out)))
          rw [Hnn.out] at K
          go_wp2_with fail
          (with_reducible refine (K.out).mono ?_); rintro e w7 ⟨rfl, b7⟩
          have B7 := Lib.hid (Below.chain B6.out b7)
          have Tc := Lib.hid (Tc.out.keep b7)
          clear b7
          clear K
          clear Tc
          have ⟨y0, y1, y2, y3, y4, y5, y6⟩ := (LV.out.keep B7.out).at
          have K := Lib.hid (lhas_any l' anyE anyX _ _ (any_tx _) (HR.out.keep (Below.chain BV.out B7.out)))
          rw [Hy.out] at K
          go_wp2_with fail
          (with_reducible refine (K.out).mono ?_); rintro e w8 ⟨rfl, b8⟩
          have B8 := Lib.hid (Below.chain B7.out b8)
          clear b8
          clear K
          go_wp2_with fail
          (with_reducible refine (xname_any s w8).mono ?_); rintro e w9 ⟨zd, rfl, td, b9⟩
          have B9 := Lib.hid (Below.chain B8.out b9)
          have Td := Lib.hid td
          clear td b9
          go_wp2_with fail
          (with_reducible refine (xname_any s w9).mono ?_); rintro e w10 ⟨ze, rfl, te, b10⟩
          have B10 := Lib.hid (Below.chain B9.out b10)
          have Td := Lib.hid (Td.out.keep b10)
          have Te := Lib.hid te
          clear te b10
          go_wp2_with fail
          (with_reducible refine (not6_any _ _ w10 Te.out).mono ?_); rintro e w11 ⟨zf, rfl, tf, b11⟩
          have B11 := Lib.hid (Below.chain B10.out b11)
          have Td := Lib.hid (Td.out.keep b11)
          have Te := Lib.hid (Te.out.keep b11)
          have Tf := Lib.hid tf
          clear tf b11
          clear Te
          go_wp2_with fail
          (with_reducible refine (and6_any _ _ _ _ w11 Td.out Tf.out).mono ?_); rintro e w12 ⟨zg, rfl, tg, b12⟩
          have B12 := Lib.hid (Below.chain B11.out b12)
          have Td := Lib.hid (Td.out.keep b12)
          have Tf := Lib.hid (Tf.out.keep b12)
          have Tg := Lib.hid tg
          clear tg b12
          clear Td Tf
          have K := Lib.hid (lhas_any l' _ _ _ _ Tg.out (HR.out.keep (Below.chain BV.out B12.out)))
          rw [Ha.out] at K
          go_wp2_with fail
          (with_reducible refine (K.out).mono ?_); rintro e w13 ⟨rfl, b13⟩
          have B13 := Lib.hid (Below.chain B12.out b13)
          have Tg := Lib.hid (Tg.out.keep b13)
          clear b13
          clear K
          clear Tg
          go_wp2_with fail
          (with_reducible refine (xname_any s w13).mono ?_); rintro e w14 ⟨zh, rfl, th, b14⟩
          have B14 := Lib.hid (Below.chain B13.out b14)
          have Th := Lib.hid th
          clear th b14
          go_wp2_with fail
          (with_reducible refine (not6_any _ _ w14 Th.out).mono ?_); rintro e w15 ⟨zi, rfl, ti, b15⟩
          have B15 := Lib.hid (Below.chain B14.out b15)
          have Th := Lib.hid (Th.out.keep b15)
          have Ti := Lib.hid ti
          clear ti b15
          clear Th
          go_wp2_with fail
          (with_reducible refine (xname_any s w15).mono ?_); rintro e w16 ⟨zj, rfl, tj, b16⟩
          have B16 := Lib.hid (Below.chain B15.out b16)
          have Ti := Lib.hid (Ti.out.keep b16)
          have Tj := Lib.hid tj
          clear tj b16
          go_wp2_with fail
          (with_reducible refine (or6_any _ _ _ _ w16 Ti.out Tj.out).mono ?_); rintro e w17 ⟨zk, rfl, tk, b17⟩
          have B17 := Lib.hid (Below.chain B16.out b17)
          have Ti := Lib.hid (Ti.out.keep b17)
          have Tj := Lib.hid (Tj.out.keep b17)
          have Tk := Lib.hid tk
          clear tk b17
          clear Ti Tj
          have K := Lib.hid (lhas_any l' _ _ _ _ Tk.out (HR.out.keep (Below.chain BV.out B17.out)))
          rw [Ho.out] at K
          go_wp2_with fail
          (with_reducible refine (K.out).mono ?_); rintro e w18 ⟨rfl, b18⟩
          have B18 := Lib.hid (Below.chain B17.out b18)
          have Tk := Lib.hid (Tk.out.keep b18)
          clear b18
          clear K
          clear Tk
          go_wp2_with fail
          go_ret
          exact ⟨rfl, Below.chain BV.out B18.out⟩
end Go.Proofs.Ytlnmjbheohkanaa.LabelAlone
