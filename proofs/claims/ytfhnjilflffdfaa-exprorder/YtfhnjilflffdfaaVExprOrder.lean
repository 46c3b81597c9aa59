/- The walk of the law ExprOrder. -/
import Derived.Test.YtfhnjilflffdfaaEZ
import Derived.Deep.DeepCutAuto
namespace Go.Proofs.Ytfhnjilflffdfaa.ExprOrder
open Go Go.RowKit
set_option linter.unusedVariables false
set_option maxHeartbeats 8000000 in
theorem walk (t : Ex) (x : Xc) (v : Value) (l : List Pr) (w : World) (h : Tx w t x) (hp : RwP w v l) (hok : ∀ q ∈ l, q.2.Ok) :
    Calls Try.prog 3 #[xv x, v] w fun e w' => e = .returned (.bool true) ∧ Below w.heap.size w w' := by
  have hsf := run_store_float
  have HX := Lib.hid h
  have HP := Lib.hid hp
  have HOK := Lib.hid hok
  have HLK := Lib.hid (fix_ok (l.take 100) (fun q hq => hok q (List.mem_of_mem_take hq)))
  have HVK := Lib.hid (node_ok h)
  clear h hp hok
  cases hlg : largeB t
  case true =>
    go_enter Try.func3, Try.ntmps3
    go_wp2_with fail
    refine (shown_any _).mono ?_; rintro e w1 ⟨rfl, b1⟩
    have c1 := Below.chain (below_a1 w (.cells (xcs x) 27)) b1
    have V1 := (Vr.new w 27 (xcs x)).keep b1
    have ⟨q0, q1, q2, q3, q4, q5, q6⟩ := V1.cells7
    have LG := Lib.hid (large_any t x w1 (HX.out.keep c1))
    rw [hlg] at LG
    go_wp2_with fail
    (with_reducible refine LG.out.mono ?_); rintro e w2 ⟨rfl, b2⟩
    go_wp2_with fail
    go_ret
    exact ⟨rfl, Below.chain c1 b2⟩
  cases hrt : rightE t
  case false =>
    go_enter Try.func3, Try.ntmps3
    go_wp2_with fail
    refine (shown_any _).mono ?_; rintro e w1 ⟨rfl, b1⟩
    have c1 := Below.chain (below_a1 w (.cells (xcs x) 27)) b1
    have V1 := (Vr.new w 27 (xcs x)).keep b1
    have ⟨q0, q1, q2, q3, q4, q5, q6⟩ := V1.cells7
    have LG := Lib.hid (large_any t x w1 (HX.out.keep c1))
    rw [hlg] at LG
    go_wp2_with fail
    (with_reducible refine LG.out.mono ?_); rintro e w2 ⟨rfl, b2⟩
    have c2 := Below.chain c1 b2
    have V2 := V1.keep b2
    have ⟨r0, r1, r2, r3, r4, r5, r6⟩ := V2.cells7
    have RG := Lib.hid (xright_any t x w2 (HX.out.keep c2))
    rw [hrt] at RG
    go_wp2_with fail
    (with_reducible refine RG.out.mono ?_); rintro e w3 ⟨rfl, b3⟩
    go_wp2_with fail
    go_ret
    exact ⟨rfl, Below.chain c2 b3⟩
  have hf := ((rightE_iff t).1 hrt).2
  have TRN := Lib.hid (fun w' (y : Xc) (hb : Tx w' t y) => turned_any t hf y w' hb)
  have ETN := Lib.hid (fun L => evalR_turn L t hrt)
  have HEO := Lib.hid (fun L (hL : PsOk L) => evalR_ok hL (t := t) HVK.out)
  clear hf
  go_enter Try.func3, Try.ntmps3
  go_wp2_with fail
  refine (shown_any _).mono ?_; rintro e w1 ⟨rfl, b1⟩
  have c1 := Below.chain (below_a1 w (.cells (xcs x) 27)) b1
  have V1 := (Vr.new w 27 (xcs x)).keep b1
  have T1 := HX.out.keep c1
  have P1 := HP.out.keep c1
  have ⟨q0, q1, q2, q3, q4, q5, q6⟩ := V1.cells7
  have LG := Lib.hid (large_any t x w1 T1)
  rw [hlg] at LG
  clear b1 hlg
  go_wp2_with fail
  (with_reducible refine LG.out.mono ?_); rintro e w2 ⟨rfl, b2⟩
  have c2 := Below.chain c1 b2
  have V2 := V1.keep b2
  have T2 := T1.keep b2
  have P2 := P1.keep b2
  clear q0 q1 q2 q3 q4 q5 q6 c1 V1 T1 P1 b2 LG
  have ⟨q0, q1, q2, q3, q4, q5, q6⟩ := V2.cells7
  have RG := Lib.hid (xright_any t x w2 T2)
  rw [hrt] at RG
  clear hrt
  go_wp2_with fail
  (with_reducible refine RG.out.mono ?_); rintro e w3 ⟨rfl, b3⟩
  clear q0 q1 q2 q3 q4 q5 q6
  have V_4 := (V2.keep b3)
  have T_5 := (T2.keep b3)
  have P_6 := (P2.keep b3)
  have cc_7 := (Below.chain c2 b3)
  clear V2 b3 T2 P2 c2
  go_wp2_with fail
  (with_reducible refine (few_any _ l _ P_6 HOK.out).mono ?_); rintro e w8 ⟨v8, rfl, o8, b8⟩
  have V_9 := (V_4.keep b8)
  have T_10 := (T_5.keep b8)
  have P_11 := o8.rw
  have cc_12 := (Below.chain cc_7 b8)
  clear V_4 b8 T_5 cc_7
  clear o8
  generalize (l.take 100).map fixP = L at *
  have HLE := Lib.hid (HEO.out L HLK.out)
  skip
  have ⟨q0, q1, q2, q3, q4, q5, q6⟩ := V_9.cells7
  go_wp2_with fail
  have H13 := Lib.hid (xeval_any t x _ L _ T_10 P_11 HLK.out)
  (with_reducible refine (H13.out).mono ?_); rintro e w13 ⟨rfl, b13⟩
  clear H13
  clear q0 q1 q2 q3 q4 q5 q6
  have EQ := ETN.out L
  have HEQ := Lib.hid EQ
  clear EQ
  generalize hr : evalR L t = r at *
  obtain ⟨⟨rk, rn, rf, rs⟩, re⟩ := r
  dsimp only at HLE ⊢
  have V_14 := ((V_9.keep b13).keep (below_a1 w13 (.cells #[.int .i64 rk, .int .i64 rn, .float .f64 rf, .string rs] 24)))
  have T_15 := ((T_10.keep b13).keep (below_a1 w13 (.cells #[.int .i64 rk, .int .i64 rn, .float .f64 rf, .string rs] 24)))
  have P_16 := ((P_11.keep b13).keep (below_a1 w13 (.cells #[.int .i64 rk, .int .i64 rn, .float .f64 rf, .string rs] 24)))
  have cc_17 := (Below.chain (Below.chain cc_12 b13) (below_a1 w13 (.cells #[.int .i64 rk, .int .i64 rn, .float .f64 rf, .string rs] 24)))
  clear V_9 b13 T_10 P_11 cc_12
  have V_18 := V_14
  have T_19 := T_15
  have P_20 := P_16
  have A_21 := (lies_new w13 (.int .i64 rk) (.int .i64 rn) (.float .f64 rf) (.string rs) 24)
  have cc_22 := cc_17
  clear V_14 T_15 P_16 cc_17
  have ⟨q0, q1, q2, q3, q4, q5, q6⟩ := V_18.cells7
  go_wp2_with fail
  (with_reducible refine (TRN.out _ x T_19).mono ?_); rintro e w23 ⟨y23, rfl, h23, b23⟩
  have V_24 := (V_18.keep b23)
  have T_25 := (T_19.keep b23)
  have P_26 := (P_20.keep b23)
  have A_27 := (A_21.keep b23)
  have U_28 := h23.tx
  have cc_29 := (Below.chain cc_22 b23)
  clear V_18 b23 T_19 P_20 A_21 h23 cc_22
  clear q0 q1 q2 q3 q4 q5 q6
  go_wp2_with fail
  have H30 := Lib.hid (xeval_any (turn t) y23 _ L _ U_28 P_26 HLK.out)
  rw [HEQ.out] at H30
  (with_reducible refine (H30.out).mono ?_); rintro e w30 ⟨rfl, b30⟩
  clear H30
  have V_31 := ((V_24.keep b30).keep (below_a1 w30 (.cells #[.int .i64 rk, .int .i64 rn, .float .f64 rf, .string rs] 24)))
  have T_32 := ((T_25.keep b30).keep (below_a1 w30 (.cells #[.int .i64 rk, .int .i64 rn, .float .f64 rf, .string rs] 24)))
  have P_33 := ((P_26.keep b30).keep (below_a1 w30 (.cells #[.int .i64 rk, .int .i64 rn, .float .f64 rf, .string rs] 24)))
  have A_34 := ((A_27.keep b30).keep (below_a1 w30 (.cells #[.int .i64 rk, .int .i64 rn, .float .f64 rf, .string rs] 24)))
  have cc_35 := (Below.chain (Below.chain cc_29 b30) (below_a1 w30 (.cells #[.int .i64 rk, .int .i64 rn, .float .f64 rf, .string rs] 24)))
  clear V_24 b30 T_25 P_26 A_27 cc_29
  have V_36 := V_31
  have T_37 := T_32
  have P_38 := P_33
  have A_39 := A_34
  have B_40 := (lies_new w30 (.int .i64 rk) (.int .i64 rn) (.float .f64 rf) (.string rs) 24)
  have cc_41 := cc_35
  clear V_31 T_32 P_33 A_34 cc_35
  have ⟨a0, a1, a2, a3⟩ := A_39
  have ⟨z0, z1, z2, z3⟩ := B_40
  have SM := Lib.hid (same_refl ⟨rk, rn, rf, rs⟩ HLE.out)
  have be : (re == re) = true := by simp
  go_wp2_with fail
  (with_reducible refine (SM.out _).mono ?_); rintro e w42 ⟨rfl, b42⟩
  have V_43 := (V_36.keep b42)
  have T_44 := (T_37.keep b42)
  have P_45 := (P_38.keep b42)
  have A_46 := (A_39.keep b42)
  have B_47 := (B_40.keep b42)
  have cc_48 := (Below.chain cc_41 b42)
  clear V_36 b42 T_37 P_38 A_39 B_40 cc_41
  go_wp2_with fail
  go_ret
  exact ⟨rfl, cc_48⟩
end Go.Proofs.Ytfhnjilflffdfaa.ExprOrder
