/- The walk of the law ExprProps. -/
import Derived.Test.YtfhnjilflffdfaaEZ
import Derived.Deep.DeepCutAuto
namespace Go.Proofs.Ytfhnjilflffdfaa.ExprProps
open Go Go.RowKit
set_option linter.unusedVariables false
theorem any_take {α : Type} (l : List α) (p : α → Bool) (i : Nat) (h : i < l.length) : (l.take (i + 1)).any p = ((l.take i).any p || p l[i]) := by
  rw [List.take_succ_eq_append_getElem h, List.any_append]; simp
theorem fix_name (p : Pr) : (fixP p).1 = p.1 := by unfold fixP; split <;> rfl
theorem more_ok (L : List Pr) (name : ByteArray) (va : Vl) (t : Ex) (h : ((namesE t).any (fun s => s.toList == name.toList) && !(L.any fun p => p.1.toList == name.toList)) = false) :
    evalR (L ++ [fixP (name, va)]) t = evalR L t := by
  refine evalR_more L _ t fun nm hn he => ?_
  rw [fix_name] at he
  have hi : (namesE t).any (fun s => s.toList == name.toList) = true := List.any_eq_true.2 ⟨nm, hn, by simpa using he⟩
  rw [hi] at h
  have ht : (L.any fun p => p.1.toList == name.toList) = true := by simpa using h
  obtain ⟨p, hp, hpe⟩ := List.any_eq_true.1 ht
  exact ⟨p, hp, by have : p.1.toList = name.toList := by simpa using hpe
                   rw [this]; exact he.symm⟩
set_option maxHeartbeats 16000000 in
set_option maxRecDepth 100000 in
theorem walk (t : Ex) (x : Xc) (v : Value) (l : List Pr) (name : ByteArray) (k n : Int) (f : Nat) (s : ByteArray) (w : World) (h : Tx w t x) (hp : RwP w v l) (hok : ∀ q ∈ l, q.2.Ok) (hvo : Vl.Ok ⟨k, n, f, s⟩) :
    Calls Try.prog 6 #[xv x, v, .string name, .agg #[.int .i64 k, .int .i64 n, .float .f64 f, .string s]] w fun e w' => e = .returned (.bool true) ∧ Below w.heap.size w w' := by
  have hsf := run_store_float
  have HX0 := Lib.hid h
  have HP := Lib.hid hp
  have HOK := Lib.hid hok
  have HLK := Lib.hid (fix_ok (l.take 100) (fun q hq => hok q (List.mem_of_mem_take hq)))
  have HVK := Lib.hid (node_ok h)
  have HVO := Lib.hid hvo
  clear h hp hok hvo
  cases hlg : largeB t
  case true =>
    go_enter Try.func6, Try.ntmps6
    go_wp2_with fail
    refine (shown_any _).mono ?_; rintro e w1 ⟨rfl, b1⟩
    have V_2 := (((Vr.new w 27 (xcs x)).keep (below_a1 (w.alloc (.cells (xcs x) 27)) (.cells #[.int .i64 k, .int .i64 n, .float .f64 f, .string s] 24))).keep b1)
    have Q_3 := ((Vr.at' (w.alloc (.cells (xcs x) 27)) 24 #[.int .i64 k, .int .i64 n, .float .f64 f, .string s] (w.heap.size + 1) (by simp)).keep b1)
    have T_4 := ((HX0.out.keep ((below_a1 w (.cells (xcs x) 27)).alloc (by simp) (.cells #[.int .i64 k, .int .i64 n, .float .f64 f, .string s] 24))).keep b1)
    have P_5 := ((HP.out.keep ((below_a1 w (.cells (xcs x) 27)).alloc (by simp) (.cells #[.int .i64 k, .int .i64 n, .float .f64 f, .string s] 24))).keep b1)
    have cc_6 := (Below.chain ((below_a1 w (.cells (xcs x) 27)).alloc (by simp) (.cells #[.int .i64 k, .int .i64 n, .float .f64 f, .string s] 24)) b1)
    clear b1
    have ⟨q0, q1, q2, q3, q4, q5, q6⟩ := V_2.cells7
    have K0 := Lib.hid (large_any t x w1 T_4)
    rw [hlg] at K0
    go_wp2_with fail
    (with_reducible refine (K0.out).mono ?_); rintro e w7 ⟨rfl, b7⟩
    have V_8 := (V_2.keep b7)
    have Q_9 := (Q_3.keep b7)
    have T_10 := (T_4.keep b7)
    have P_11 := (P_5.keep b7)
    have cc_12 := (Below.chain cc_6 b7)
    clear V_2 b7 Q_3 T_4 P_5 cc_6
    clear K0
    clear q0 q1 q2 q3 q4 q5 q6
    go_wp2_with fail
    go_ret
    exact ⟨rfl, cc_12⟩
  cases hrt : rightE t
  case false =>
    go_enter Try.func6, Try.ntmps6
    go_wp2_with fail
    refine (shown_any _).mono ?_; rintro e w1 ⟨rfl, b1⟩
    have V_2 := (((Vr.new w 27 (xcs x)).keep (below_a1 (w.alloc (.cells (xcs x) 27)) (.cells #[.int .i64 k, .int .i64 n, .float .f64 f, .string s] 24))).keep b1)
    have Q_3 := ((Vr.at' (w.alloc (.cells (xcs x) 27)) 24 #[.int .i64 k, .int .i64 n, .float .f64 f, .string s] (w.heap.size + 1) (by simp)).keep b1)
    have T_4 := ((HX0.out.keep ((below_a1 w (.cells (xcs x) 27)).alloc (by simp) (.cells #[.int .i64 k, .int .i64 n, .float .f64 f, .string s] 24))).keep b1)
    have P_5 := ((HP.out.keep ((below_a1 w (.cells (xcs x) 27)).alloc (by simp) (.cells #[.int .i64 k, .int .i64 n, .float .f64 f, .string s] 24))).keep b1)
    have cc_6 := (Below.chain ((below_a1 w (.cells (xcs x) 27)).alloc (by simp) (.cells #[.int .i64 k, .int .i64 n, .float .f64 f, .string s] 24)) b1)
    clear b1
    have ⟨q0, q1, q2, q3, q4, q5, q6⟩ := V_2.cells7
    have K0 := Lib.hid (large_any t x w1 T_4)
    rw [hlg] at K0
    go_wp2_with fail
    (with_reducible refine (K0.out).mono ?_); rintro e w7 ⟨rfl, b7⟩
    have V_8 := (V_2.keep b7)
    have Q_9 := (Q_3.keep b7)
    have T_10 := (T_4.keep b7)
    have P_11 := (P_5.keep b7)
    have cc_12 := (Below.chain cc_6 b7)
    clear V_2 b7 Q_3 T_4 P_5 cc_6
    clear K0
    clear q0 q1 q2 q3 q4 q5 q6
    have ⟨q0, q1, q2, q3, q4, q5, q6⟩ := V_8.cells7
    have K1 := Lib.hid (xright_any t x w7 T_10)
    rw [hrt] at K1
    go_wp2_with fail
    (with_reducible refine (K1.out).mono ?_); rintro e w13 ⟨rfl, b13⟩
    have V_14 := (V_8.keep b13)
    have Q_15 := (Q_9.keep b13)
    have T_16 := (T_10.keep b13)
    have P_17 := (P_11.keep b13)
    have cc_18 := (Below.chain cc_12 b13)
    clear V_8 b13 Q_9 T_10 P_11 cc_12
    clear K1
    clear q0 q1 q2 q3 q4 q5 q6
    go_wp2_with fail
    go_ret
    exact ⟨rfl, cc_18⟩
  have HSZ := Lib.hid (size_small ((rightE_iff t).1 hrt).2 ((rightE_iff t).1 hrt).1 hlg)
  have HNL := Lib.hid (Nat.le_trans (names_len t) HSZ.out)
  go_enter Try.func6, Try.ntmps6
  go_wp2_with fail
  refine (shown_any _).mono ?_; rintro e w1 ⟨rfl, b1⟩
  have V_2 := (((Vr.new w 27 (xcs x)).keep (below_a1 (w.alloc (.cells (xcs x) 27)) (.cells #[.int .i64 k, .int .i64 n, .float .f64 f, .string s] 24))).keep b1)
  have Q_3 := ((Vr.at' (w.alloc (.cells (xcs x) 27)) 24 #[.int .i64 k, .int .i64 n, .float .f64 f, .string s] (w.heap.size + 1) (by simp)).keep b1)
  have T_4 := ((HX0.out.keep ((below_a1 w (.cells (xcs x) 27)).alloc (by simp) (.cells #[.int .i64 k, .int .i64 n, .float .f64 f, .string s] 24))).keep b1)
  have P_5 := ((HP.out.keep ((below_a1 w (.cells (xcs x) 27)).alloc (by simp) (.cells #[.int .i64 k, .int .i64 n, .float .f64 f, .string s] 24))).keep b1)
  have cc_6 := (Below.chain ((below_a1 w (.cells (xcs x) 27)).alloc (by simp) (.cells #[.int .i64 k, .int .i64 n, .float .f64 f, .string s] 24)) b1)
  clear b1
  have ⟨q0, q1, q2, q3, q4, q5, q6⟩ := V_2.cells7
  have K0 := Lib.hid (large_any t x w1 T_4)
  rw [hlg] at K0
  go_wp2_with fail
  (with_reducible refine (K0.out).mono ?_); rintro e w7 ⟨rfl, b7⟩
  have V_8 := (V_2.keep b7)
  have Q_9 := (Q_3.keep b7)
  have T_10 := (T_4.keep b7)
  have P_11 := (P_5.keep b7)
  have cc_12 := (Below.chain cc_6 b7)
  clear V_2 b7 Q_3 T_4 P_5 cc_6
  clear K0
  clear q0 q1 q2 q3 q4 q5 q6
  have ⟨q0, q1, q2, q3, q4, q5, q6⟩ := V_8.cells7
  have K1 := Lib.hid (xright_any t x w7 T_10)
  rw [hrt] at K1
  go_wp2_with fail
  (with_reducible refine (K1.out).mono ?_); rintro e w13 ⟨rfl, b13⟩
  have V_14 := (V_8.keep b13)
  have Q_15 := (Q_9.keep b13)
  have T_16 := (T_10.keep b13)
  have P_17 := (P_11.keep b13)
  have cc_18 := (Below.chain cc_12 b13)
  clear V_8 b13 Q_9 T_10 P_11 cc_12
  clear K1
  clear q0 q1 q2 q3 q4 q5 q6
  clear hlg hrt
  have ⟨m0, m1, m2, m3⟩ := Q_15.cells4
  go_wp2_with fail
  have R5 := (Ow.lit (E := encP) (e := 47) w13 w13.heap.size [(name, ⟨k, n, f, s⟩)] (Nat.le_refl _) (by simp) #[.string name, .int .i64 k, .int .i64 n, .float .f64 f, .string s] rfl).rw
  clear m0 m1 m2 m3
  refine (few_any _ [(name, ⟨k, n, f, s⟩)] _ R5 (fun q hq => by have e : q = (name, ⟨k, n, f, s⟩) := by simpa using hq
                                                                rw [e]; exact HVO.out)).mono ?_; rintro e w19 ⟨vm, rfl, om, b19⟩
  have V_20 := ((V_14.keep (below_a1 w13 (.cells #[.string name, .int .i64 k, .int .i64 n, .float .f64 f, .string s] 47))).keep b19)
  have Q_21 := ((Q_15.keep (below_a1 w13 (.cells #[.string name, .int .i64 k, .int .i64 n, .float .f64 f, .string s] 47))).keep b19)
  have T_22 := ((T_16.keep (below_a1 w13 (.cells #[.string name, .int .i64 k, .int .i64 n, .float .f64 f, .string s] 47))).keep b19)
  have P_23 := ((P_17.keep (below_a1 w13 (.cells #[.string name, .int .i64 k, .int .i64 n, .float .f64 f, .string s] 47))).keep b19)
  have M_24 := om.rw
  have cc_25 := (Below.chain (Below.chain cc_18 (below_a1 w13 (.cells #[.string name, .int .i64 k, .int .i64 n, .float .f64 f, .string s] 47))) b19)
  clear V_14 b19 Q_15 T_16 P_17 cc_18
  clear om R5
  rw [show ([(name, (⟨k, n, f, s⟩ : Vl))].take 100).map fixP = [fixP (name, ⟨k, n, f, s⟩)] from rfl] at M_24
  go_wp2_with fail
  have HL100 := Lib.hid (show ((l.take 100).map fixP).length ≤ 100 by simp; omega)
  (with_reducible refine (few_any _ l _ P_23 HOK.out).mono ?_); rintro e w26 ⟨v26, rfl, o26, b26⟩
  have V_27 := (V_20.keep b26)
  have Q_28 := (Q_21.keep b26)
  have T_29 := (T_22.keep b26)
  have P_30 := o26.rw
  have M_31 := (M_24.keep b26)
  have cc_32 := (Below.chain cc_25 b26)
  clear V_20 b26 Q_21 T_22 M_24 cc_25
  clear o26
  generalize (l.take 100).map fixP = L at *
  have ⟨q0, q1, q2, q3, q4, q5, q6⟩ := V_27.cells7
  go_wp2_with fail
  refine (names_any t (by have := HSZ.out; omega) x _ T_29).mono ?_; rintro e w33 ⟨va, rfl, oa, b33⟩
  have V_34 := (V_27.keep b33)
  have Q_35 := (Q_28.keep b33)
  have T_36 := (T_29.keep b33)
  have P_37 := (P_30.keep b33)
  have M_38 := (M_31.keep b33)
  have N_39 := oa.rw
  have cc_40 := (Below.chain cc_32 b33)
  clear V_27 b33 Q_28 T_29 P_30 M_31 cc_32
  clear oa
  clear q0 q1 q2 q3 q4 q5 q6
  have HM := Lib.hid (more_ok L name ⟨k, n, f, s⟩ t)
  have MOK := Lib.hid (show PsOk (L ++ [fixP (name, ⟨k, n, f, s⟩)]) from fun q hq => by rcases List.mem_append.1 hq with hq | hq; exact HLK.out q hq; exact fix_ok [(name, ⟨k, n, f, s⟩)] (fun q hq => by have e : q = (name, ⟨k, n, f, s⟩) := (by simpa using hq); rw [e]; exact HVO.out) q (by simpa using hq))
  obtain ⟨la, lc, rfl⟩ := P_37.shape
  obtain ⟨na, nc, rfl⟩ := N_39.shape
  have hPm : L.length ≤ 9223372036854775807 := by obtain ⟨_, _, he, h2, h3, _⟩ := P_37; simp only [maxLen] at h3; omega
  have HV := Lib.hid V_34
  have HQ := Lib.hid Q_35
  have HT := Lib.hid T_36
  have HP_ := Lib.hid P_37
  have HM_ := Lib.hid M_38
  have HN := Lib.hid N_39
  have HC := Lib.hid cc_40
  clear M_38 N_39 P_37 Q_35 T_36 V_34 cc_40
  generalize hNN : namesE t = NN at *
  have hNm : NN.length ≤ 300 := HNL.out
  clear hNN
  generalize hLl : L.length = LL at *
  have HLl := Lib.hid hLl
  generalize hNl : NN.length = NL at *
  have HNl := Lib.hid hNl
  clear hLl hNl
  go_wp2_with fail
  go_loopg [12, 13] LL (fun g s12 s13 wr => ∃ i : Nat, g + i = LL ∧ s13 = .int .i64 i ∧ s12 = .bool ((L.take i).any fun p => p.1.toList == name.toList) ∧ wr = w33)
  case atStart => exact ⟨0, rfl, rfl, rfl, rfl⟩
  case round =>
    obtain ⟨i, hg, rfl, rfl, rfl⟩ := hrel
    by_cases hlt : i < LL
    · have ii : (i : Int) < (LL : Int) := by omega
      have hi : i < L.length := by rw [HLl.out]; exact hlt
      obtain ⟨b, o, ha, q0, -⟩ := RwP.at HP_.out i hi
      subst ha
      have HA := Lib.hid (any_take L (fun p => p.1.toList == name.toList) i hi)
      generalize L[i] = p at *
      generalize hac : ((L.take i).any fun p => p.1.toList == name.toList) = ac at *
      cases ac
      · cases hpe : p.1.toList == name.toList
        · rw [hpe] at HA
          go_wp2_with fail
          go_roundg (LL - (i + 1))
          case rel => exact ⟨i + 1, by omega, by go_num, by rw [HA.out]; rfl, rfl⟩
          case measure => omega
        · rw [hpe] at HA
          go_wp2_with fail
          go_roundg (LL - (i + 1))
          case rel => exact ⟨i + 1, by omega, by go_num, by rw [HA.out]; rfl, rfl⟩
          case measure => omega
      · go_wp2_with fail
        go_roundg (LL - (i + 1))
        case rel => exact ⟨i + 1, by omega, by go_num, by rw [HA.out]; rfl, rfl⟩
        case measure => omega
    · obtain rfl : LL = i := by omega
      have ht : L.take LL = L := List.take_of_length_le (by rw [HLl.out]; exact Nat.le_refl _)
      rw [ht]
      rename World => wA
      generalize hth : (L.any fun p => p.1.toList == name.toList) = th at *
      clear hth ht hg hlt
      go_wp2_with fail
      go_loopg [14, 15] NL (fun g s14 s15 wr => ∃ i : Nat, g + i = NL ∧ s15 = .int .i64 i ∧ s14 = .bool ((NN.take i).any fun s => s.toList == name.toList) ∧ wr = wA)
      case atStart => exact ⟨0, rfl, rfl, rfl, rfl⟩
      case round =>
      obtain ⟨i, hg, rfl, rfl, rfl⟩ := hrel
      by_cases hlt : i < NL
      · have ii : (i : Int) < (NL : Int) := by omega
        have hi : i < NN.length := by rw [HNl.out]; exact hlt
        obtain ⟨_, _, he, -, -, -, h5⟩ := HN.out
        obtain ⟨b, o, ha, hcc⟩ := h5 i hi
        simp only [Value.slice.injEq] at he
        obtain ⟨rfl, -, rfl⟩ := he
        subst ha
        have q0 : wr.cell? ⟨b, o + i, none⟩ = some (.string NN[i]) := by have := hcc 0 (by omega); simpa [encS] using this
        have HA := Lib.hid (any_take NN (fun s => s.toList == name.toList) i hi)
        clear hcc h5
        generalize NN[i] = p at *
        generalize hac : ((NN.take i).any fun s => s.toList == name.toList) = ac at *
        cases ac
        · cases hpe : p.toList == name.toList
          · rw [hpe] at HA
            go_wp2_with fail
            go_roundg (NL - (i + 1))
            case rel => exact ⟨i + 1, by omega, by go_num, by rw [HA.out]; rfl, rfl⟩
            case measure => omega
          · rw [hpe] at HA
            go_wp2_with fail
            go_roundg (NL - (i + 1))
            case rel => exact ⟨i + 1, by omega, by go_num, by rw [HA.out]; rfl, rfl⟩
            case measure => omega
        · go_wp2_with fail
          go_roundg (NL - (i + 1))
          case rel => exact ⟨i + 1, by omega, by go_num, by rw [HA.out]; rfl, rfl⟩
          case measure => omega
      · obtain rfl : NL = i := by omega
        have ht : NN.take NL = NN := List.take_of_length_le (by rw [HNl.out]; exact Nat.le_refl _)
        rw [ht]
        rename World => wB
        generalize his : (NN.any fun s => s.toList == name.toList) = isb at *
        clear his ht hg hlt
        cases isb <;> cases th
        case true.false =>
          go_wp2_with fail
          go_ret
          exact ⟨rfl, HC.out⟩
        all_goals
          have EQM := Lib.hid (HM.out rfl)
          have V := HV.out
          have ⟨q0, q1, q2, q3, q4, q5, q6⟩ := V.cells7
          have E1 := Lib.hid (xeval_any t x _ L _ HT.out HP_.out HLK.out)
          have OKe := Lib.hid (evalR_ok HLK.out (t := t) HVK.out)
          generalize hr : evalR L t = r at *
          obtain ⟨⟨rk, rn, rf, rs⟩, re⟩ := r
          dsimp only at E1 OKe
          go_wp2_with fail
          (with_reducible refine E1.out.mono ?_); rintro e wC ⟨rfl, bC⟩
          clear q0 q1 q2 q3 q4 q5 q6 E1
          go_upto_region 20 with fail
          generalize hWW : wC.alloc (.cells #[.int .i64 rk, .int .i64 rn, .float .f64 rf, .string rs] 24) = W at *
          have bW : Below wB.heap.size wB W := hWW ▸ Below.chain bC (below_a1 _ _)
          have LA := (show Lies W wC.heap.size (.int .i64 rk) (.int .i64 rn) (.float .f64 rf) (.string rs) from hWW ▸ lies_new _ _ _ _ _ _)
          go_cut [18, 19] (fun s18 s19 wx => ∃ gg, s18 = .pointer (some ⟨gg, 0, none⟩) ∧ s19 = .int .i64 re ∧ Lies wx gg (.int .i64 rk) (.int .i64 rn) (.float .f64 rf) (.string rs) ∧ Below W.heap.size W wx)
          case first =>
            have Vh := Lib.hid (V.keep bW)
            have Th := Lib.hid (HT.out.keep bW)
            have PL := Lib.hid (HP_.out.keep bW)
            have PM := Lib.hid (HM_.out.keep bW)
            have NA := Lib.hid ((Ow.lit (E := encP) (e := 47) W W.heap.size [] (Nat.le_refl _) (by simp) #[] rfl).below (Below.refl _ _).drew)
            have NB := Lib.hid ((Ow.lit (E := encP) (e := 47) W W.heap.size [] (Nat.le_refl _) (by simp) #[] rfl).below (below_a1 _ (.cells #[.int .i64 0, .int .i64 0, .float .f64 0, .string ⟨#[]⟩] 24)).drew)
            have NC := Lib.hid ((Ow.lit (E := encP) (e := 47) (W.alloc (.cells #[.int .i64 0, .int .i64 0, .float .f64 0, .string ⟨#[]⟩] 24)) W.heap.size [] (by simp) (by simp) #[] rfl).below (Below.refl _ _).drew)
            rw [show (W.alloc (.cells #[.int .i64 0, .int .i64 0, .float .f64 0, .string ⟨#[]⟩] 24)).heap.size = W.heap.size + 1 by simp] at NC
            have DA := Lib.hid (show Below W.heap.size W (W.alloc (.cells #[] 47)).drew from bl_dr (bl_al (Below.refl _ _)))
            have DB := Lib.hid (show Below W.heap.size W ((W.alloc (.cells #[] 47)).alloc (.cells #[.int .i64 0, .int .i64 0, .float .f64 0, .string ⟨#[]⟩] 24)).drew from bl_dr (bl_al (bl_al (Below.refl _ _))))
            have DC := Lib.hid (show Below W.heap.size W ((W.alloc (.cells #[.int .i64 0, .int .i64 0, .float .f64 0, .string ⟨#[]⟩] 24)).alloc (.cells #[] 47)).drew from bl_dr (bl_al (bl_al (Below.refl _ _))))
            have ZB := Lib.hid (show Vr ((W.alloc (.cells #[] 47)).alloc (.cells #[.int .i64 0, .int .i64 0, .float .f64 0, .string ⟨#[]⟩] 24)).drew (W.heap.size + 1) 24 #[.int .i64 0, .int .i64 0, .float .f64 0, .string ⟨#[]⟩] from Vr.dr (Vr.at' _ _ _ _ (by simp)))
            have ZC := Lib.hid (show Vr ((W.alloc (.cells #[.int .i64 0, .int .i64 0, .float .f64 0, .string ⟨#[]⟩] 24)).alloc (.cells #[] 47)).drew W.heap.size 24 #[.int .i64 0, .int .i64 0, .float .f64 0, .string ⟨#[]⟩] from Vr.dr (Vr.al (Vr.new _ _ _)))
            have hL100 : L.length ≤ 100 := by rw [HLl.out]; exact HL100.out
            have s1 := Lib.hid (show ([] : List Pr).length + L.length ≤ 1000000 by simp; omega)
            have s2 := Lib.hid (show ([] ++ L).length + [fixP (name, ⟨k, n, f, s⟩)].length ≤ 1000000 by simp; omega)
            have EQ2 := Lib.hid (show evalR ([] ++ L ++ [fixP (name, ⟨k, n, f, s⟩)]) t = (⟨rk, rn, rf, rs⟩, re) by rw [List.nil_append]; exact EQM.out)
            have LK2 := Lib.hid (show PsOk ([] ++ L ++ [fixP (name, ⟨k, n, f, s⟩)]) by rw [List.nil_append]; exact MOK.out)
            clear hL100 LA bW V hWW bC
            go_region_held3 (fun w' => w'.cell? ⟨w.heap.size, 0, none⟩ = some (.int .i64 x.kind) ∧ w'.cell? ⟨w.heap.size, 1, none⟩ = some (.string x.name) ∧ w'.cell? ⟨w.heap.size, 2, none⟩ = some (.int .i64 x.v.k) ∧ w'.cell? ⟨w.heap.size, 3, none⟩ = some (.int .i64 x.v.n) ∧ w'.cell? ⟨w.heap.size, 4, none⟩ = some (.float .f64 x.v.f) ∧ w'.cell? ⟨w.heap.size, 5, none⟩ = some (.string x.v.s) ∧ w'.cell? ⟨w.heap.size, 6, none⟩ = some (.slice x.ao x.len x.cap))
              ((refine k7 Vh.out ?_; (repeat with_reducible first | exact Below.refl _ _ | exact d1 | exact d2 | exact dd | refine bl_dr ?_ | refine bl_al ?_ | refine below_set4 ?_ (by have := d2.size; have := d1.size; omega) _ _ _ _ | refine Below.chain ?_ (by assumption))))
              (first
                | (refine step_append_rw (E := encP) rfl (.tmp 84) (.tmp 85) _ rfl Try.underlying28 info_p rfl (by decide) (by decide) (by simp [Act.eval]) (by simp [Act.eval]) NA.out (PL.out.keep DA.out) s1.out DA.out.size ?_; intro v1 w1 o1 g1 at1; have d1 := DA.out.grown g1 DA.out.size NA.out.row)
                | (refine step_append_rw (E := encP) rfl (.tmp 84) (.tmp 85) _ rfl Try.underlying28 info_p rfl (by decide) (by decide) (by simp [Act.eval]) (by simp [Act.eval]) NB.out (PL.out.keep DB.out) s1.out DB.out.size ?_; intro v1 w1 o1 g1 at1; have d1 := DB.out.grown g1 DB.out.size NB.out.row; have Z := ZB.out.grown g1 (by simp [Value.ownBlock]); have nz : some (W.heap.size + 1) ≠ v1.ownBlock := fun e => by rcases at1 with h | h <;> rw [h] at e <;> first | (simp [Value.ownBlock] at e; done) | (simp [Value.ownBlock] at e; omega))
                | (refine step_append_rw (E := encP) rfl (.tmp 84) (.tmp 85) _ rfl Try.underlying28 info_p rfl (by decide) (by decide) (by simp [Act.eval]) (by simp [Act.eval]) NC.out (PL.out.keep DC.out) s1.out DC.out.size ?_; intro v1 w1 o1 g1 at1; have d1 := DC.out.grown g1 DC.out.size NC.out.row; have Z := ZC.out.grown g1 (by simp [Value.ownBlock]); have nz : some W.heap.size ≠ v1.ownBlock := fun e => by rcases at1 with h | h <;> rw [h] at e <;> first | (simp [Value.ownBlock] at e; done) | (simp at e; omega))
                | (refine step_append_rw (E := encP) rfl (.tmp 86) (.tmp 87) _ rfl Try.underlying28 info_p rfl (by decide) (by decide) (by simp [Act.eval]) (by simp [Act.eval]) o1 (PM.out.keep d1) s2.out d1.size ?_; intro v2 w2 o2 g2 at2; have d2 := d1.grown g2 d1.size o1.row; try (have Z2 := Z.grown g2 nz))
                | (refine step_append_rw (E := encP) rfl (.tmp 86) (.tmp 87) _ rfl Try.underlying28 info_p rfl (by decide) (by decide) (by simp [Act.eval]) (by simp [Act.eval]) (o1.below (below_a1 w1 (.cells #[.int .i64 0, .int .i64 0, .float .f64 0, .string ⟨#[]⟩] 24))) (PM.out.keep (bl_al d1)) s2.out (bl_al (o := (.cells #[.int .i64 0, .int .i64 0, .float .f64 0, .string ⟨#[]⟩] 24)) d1).size ?_; intro v2 w2 o2 g2 at2; have d2 := (bl_al (o := (.cells #[.int .i64 0, .int .i64 0, .float .f64 0, .string ⟨#[]⟩] 24)) d1).grown g2 (bl_al (o := (.cells #[.int .i64 0, .int .i64 0, .float .f64 0, .string ⟨#[]⟩] 24)) d1).size o1.row; have Z2 := (Vr.new w1 24 #[.int .i64 0, .int .i64 0, .float .f64 0, .string ⟨#[]⟩]).grown g2 (fun e => o1.far (Nat.le_refl _) e.symm))
                | (go_simp; go_at_call 12; have EV := xeval_any t x _ _ w2 (Th.out.keep d2) o2.rw LK2.out; rw [EQ2.out] at EV; (with_reducible refine EV.mono ?_); rintro e wd ⟨rfl, bd⟩; have dd := Below.chain d2 bd; try (have Z3 := Z2.keep bd; have ⟨zc0, zc1, zc2, zc3⟩ := Z3.cells4; have zf0 := Z3.thaw 0; have zf1 := Z3.thaw 1; have zf2 := Z3.thaw 2; have zf3 := Z3.thaw 3))
                | (go_simp; go_at_call 12; have EV := xeval_any t x _ _ (w2.alloc (.cells #[.int .i64 0, .int .i64 0, .float .f64 0, .string ⟨#[]⟩] 24)) (Th.out.keep (bl_al d2)) (o2.rw.keep (below_a1 _ _)) LK2.out; rw [EQ2.out] at EV; (with_reducible refine EV.mono ?_); rintro e wd ⟨rfl, bd⟩; have dd := Below.chain (bl_al (o := (.cells #[.int .i64 0, .int .i64 0, .float .f64 0, .string ⟨#[]⟩] 24)) d2) bd; have Z3 := (Vr.new w2 24 #[.int .i64 0, .int .i64 0, .float .f64 0, .string ⟨#[]⟩]).keep bd; have ⟨zc0, zc1, zc2, zc3⟩ := Z3.cells4; have zf0 := Z3.thaw 0; have zf1 := Z3.thaw 1; have zf2 := Z3.thaw 2; have zf3 := Z3.thaw 3))
            all_goals go_wp2_with fail
            all_goals go_meet
            all_goals (refine ⟨_, rfl, rfl, ?_, ?_⟩)
            all_goals with_reducible first | exact bl_al dd | exact lies_new _ _ _ _ _ _ | exact Lies.set Z3.lies _ _ _ _ | exact below_set4 dd (by have := d2.size; have := d1.size; omega) _ _ _ _
          case rest =>
          rename World => w9
          obtain ⟨gg, rfl, rfl, LB, b9⟩ := hcut
          have LA9 := LA.below b9
          have ⟨a0, a1, a2, a3⟩ := LA9
          have ⟨y0, y1, y2, y3⟩ := LB
          have SM := Lib.hid (same_refl ⟨rk, rn, rf, rs⟩ OKe.out)
          have bre : (re == re) = true := by simp
          have cF := Below.chain (Below.chain HC.out bW) b9
          clear LA LA9 LB bW b9 V hWW bC
          go_wp2_with fail
          (with_reducible refine (SM.out _).mono ?_); rintro e wz ⟨rfl, bz⟩
          go_wp2_with fail
          go_ret
          exact ⟨rfl, Below.chain cF bz⟩
end Go.Proofs.Ytfhnjilflffdfaa.ExprProps
