import Derived.Test.YtfhnjilflffdfaaEV
namespace Go.Proofs.Ytfhnjilflffdfaa
open Go Go.RowKit
set_option linter.unusedVariables false
set_option maxHeartbeats 8000000 in
theorem shown_any (w : World) : Calls Try.prog 8 #[] w fun e w' => e = .returned (.bool true) ∧ Below w.heap.size w w' := by
  have hsf := run_store_float
  have S1 := Lib.hid shown1
  have S2 := Lib.hid shown2
  have S3 := Lib.hid (shown3 [])
  have S4 := Lib.hid (shown4 [])
  have S5 := Lib.hid shown5
  go_enter Try.func8, Try.ntmps8
  go_wp2_with fail
  have P0 := propsX w
  have c0 := below_a1 w (.cells #[.string sX, .int .i64 2, .int .i64 2, .float .f64 0, .string ⟨#[]⟩] 47)
  (with_reducible refine (xprop_any sX _).mono ?_); rintro e w1 ⟨x1, rfl, h1, b1⟩
  have P_2 := (P0.keep b1)
  have A_3 := h1
  have cc_4 := (Below.chain c0 b1)
  clear P0 b1 h1 c0
  go_wp2_with fail
  (with_reducible refine (xwhole_any 3 (by decide) (by decide) _).mono ?_); rintro e w5 ⟨x5, rfl, h5, b5⟩
  have P_6 := (P_2.keep b5)
  have A_7 := (A_3.keep b5)
  have B_8 := h5
  have cc_9 := (Below.chain cc_4 b5)
  clear P_2 b5 A_3 h5 cc_4
  go_wp2_with fail
  have t10 := ten w5 x1 x5 _ _ A_7 B_8
  (with_reducible refine (op_any sLt _ _ [x1, x5] _ t10.1 t10.2 (by simp)).mono ?_); rintro e w10 ⟨x10, rfl, h10, b10⟩
  have P_11 := ((P_6.keep (below_a1 w5 _)).keep b10)
  have A_12 := ((A_7.keep (below_a1 w5 _)).keep b10)
  have B_13 := ((B_8.keep (below_a1 w5 _)).keep b10)
  have C_14 := h10
  have cc_15 := (Below.chain (Below.chain cc_9 (below_a1 w5 _)) b10)
  clear P_6 b10 A_7 B_8 h10 cc_9
  go_wp2_with fail
  have H16 := Lib.hid (xholds_any _ x10 _ lX _ C_14 P_11 lX_ok)
  rw [S1.out] at H16
  (with_reducible refine (H16.out).mono ?_); rintro e w16 ⟨rfl, b16⟩
  have P_17 := (P_11.keep b16)
  have cc_18 := (Below.chain cc_15 b16)
  clear P_11 b16 cc_15
  go_wp2_with fail
  (with_reducible refine (xprop_any sY _).mono ?_); rintro e w19 ⟨x19, rfl, h19, b19⟩
  have P_20 := (P_17.keep b19)
  have A_21 := h19
  have cc_22 := (Below.chain cc_18 b19)
  clear P_17 b19 h19 cc_18
  go_wp2_with fail
  (with_reducible refine (xwhole_any 3 (by decide) (by decide) _).mono ?_); rintro e w23 ⟨x23, rfl, h23, b23⟩
  have P_24 := (P_20.keep b23)
  have A_25 := (A_21.keep b23)
  have B_26 := h23
  have cc_27 := (Below.chain cc_22 b23)
  clear P_20 b23 A_21 h23 cc_22
  go_wp2_with fail
  have t28 := ten w23 x19 x23 _ _ A_25 B_26
  (with_reducible refine (op_any sLt _ _ [x19, x23] _ t28.1 t28.2 (by simp)).mono ?_); rintro e w28 ⟨x28, rfl, h28, b28⟩
  have P_29 := ((P_24.keep (below_a1 w23 _)).keep b28)
  have A_30 := ((A_25.keep (below_a1 w23 _)).keep b28)
  have B_31 := ((B_26.keep (below_a1 w23 _)).keep b28)
  have C_32 := h28
  have cc_33 := (Below.chain (Below.chain cc_27 (below_a1 w23 _)) b28)
  clear P_24 b28 A_25 B_26 h28 cc_27
  go_wp2_with fail
  have H34 := Lib.hid (xholds_any _ x28 _ lX _ C_32 P_29 lX_ok)
  rw [S2.out] at H34
  (with_reducible refine (H34.out).mono ?_); rintro e w34 ⟨rfl, b34⟩
  have P_35 := (P_29.keep b34)
  have cc_36 := (Below.chain cc_33 b34)
  clear P_29 b34 cc_33
  go_wp2_with fail
  (with_reducible refine (xwhole_any 9223372036854775807 (by decide) (by decide) _).mono ?_); rintro e w37 ⟨x37, rfl, h37, b37⟩
  have A_38 := h37
  have cc_39 := (Below.chain cc_36 b37)
  clear h37 cc_36 b37
  go_wp2_with fail
  (with_reducible refine (xwhole_any 1 (by decide) (by decide) _).mono ?_); rintro e w40 ⟨x40, rfl, h40, b40⟩
  have A_41 := (A_38.keep b40)
  have B_42 := h40
  have cc_43 := (Below.chain cc_39 b40)
  clear A_38 b40 h40 cc_39
  go_wp2_with fail
  have t44 := ten w40 x37 x40 _ _ A_41 B_42
  (with_reducible refine (op_any sPlus _ _ [x37, x40] _ t44.1 t44.2 (by simp)).mono ?_); rintro e w44 ⟨x44, rfl, h44, b44⟩
  have A_45 := ((A_41.keep (below_a1 w40 _)).keep b44)
  have B_46 := ((B_42.keep (below_a1 w40 _)).keep b44)
  have C_47 := h44
  have cc_48 := (Below.chain (Below.chain cc_43 (below_a1 w40 _)) b44)
  clear A_41 b44 B_42 h44 cc_43
  go_wp2_with fail
  have H49 := Lib.hid (xeval_any overE x44 (.slice none 0 0) [] _ C_47 (Rw.nil _) nil_ok)
  rw [S3.out] at H49
  generalize (evalR [] overE).1 = r49 at *
  obtain ⟨rk49, rn49, rf49, rs49⟩ := r49
  (with_reducible refine (H49.out).mono ?_); rintro e w49 ⟨rfl, b49⟩
  have cc_50 := (Below.chain (Below.chain cc_48 b49) (below_a1 w49 (.cells #[.int .i64 rk49, .int .i64 rn49, .float .f64 rf49, .string rs49] 24)))
  clear cc_48 b49
  go_wp2_with fail
  (with_reducible refine (xwhole_any 1 (by decide) (by decide) _).mono ?_); rintro e w51 ⟨x51, rfl, h51, b51⟩
  have O_52 := h51
  have cc_53 := (Below.chain cc_50 b51)
  clear h51 cc_50 b51
  go_wp2_with fail
  (with_reducible refine (xwhole_any 9223372036854775807 (by decide) (by decide) _).mono ?_); rintro e w54 ⟨x54, rfl, h54, b54⟩
  have O_55 := (O_52.keep b54)
  have A_56 := h54
  have cc_57 := (Below.chain cc_53 b54)
  clear O_52 b54 h54 cc_53
  go_wp2_with fail
  (with_reducible refine (xwhole_any 1 (by decide) (by decide) _).mono ?_); rintro e w58 ⟨x58, rfl, h58, b58⟩
  have O_59 := (O_55.keep b58)
  have A_60 := (A_56.keep b58)
  have B_61 := h58
  have cc_62 := (Below.chain cc_57 b58)
  clear O_55 b58 A_56 h58 cc_57
  go_wp2_with fail
  have t63 := ten w58 x54 x58 _ _ A_60 B_61
  (with_reducible refine (op_any sPlus _ _ [x54, x58] _ t63.1 t63.2 (by simp)).mono ?_); rintro e w63 ⟨x63, rfl, h63, b63⟩
  have O_64 := ((O_59.keep (below_a1 w58 _)).keep b63)
  have A_65 := ((A_60.keep (below_a1 w58 _)).keep b63)
  have B_66 := ((B_61.keep (below_a1 w58 _)).keep b63)
  have C_67 := h63
  have cc_68 := (Below.chain (Below.chain cc_62 (below_a1 w58 _)) b63)
  clear O_59 b63 A_60 B_61 h63 cc_62
  go_wp2_with fail
  (with_reducible refine (xwhole_any 0 (by decide) (by decide) _).mono ?_); rintro e w69 ⟨x69, rfl, h69, b69⟩
  have O_70 := (O_64.keep b69)
  have C_71 := (C_67.keep b69)
  have Z_72 := h69
  have cc_73 := (Below.chain cc_68 b69)
  clear O_64 b69 C_67 h69 cc_68
  go_wp2_with fail
  have t74 := ten w69 x63 x69 _ _ C_71 Z_72
  (with_reducible refine (op_any sEq _ _ [x63, x69] _ t74.1 t74.2 (by simp)).mono ?_); rintro e w74 ⟨x74, rfl, h74, b74⟩
  have O_75 := ((O_70.keep (below_a1 w69 _)).keep b74)
  have C_76 := ((C_71.keep (below_a1 w69 _)).keep b74)
  have Z_77 := ((Z_72.keep (below_a1 w69 _)).keep b74)
  have D_78 := h74
  have cc_79 := (Below.chain (Below.chain cc_73 (below_a1 w69 _)) b74)
  clear O_70 b74 C_71 Z_72 h74 cc_73
  go_wp2_with fail
  have t80 := ten w74 x51 x74 _ _ O_75 D_78
  (with_reducible refine (op_any sAnd _ _ [x51, x74] _ t80.1 t80.2 (by simp)).mono ?_); rintro e w80 ⟨x80, rfl, h80, b80⟩
  have O_81 := ((O_75.keep (below_a1 w74 _)).keep b80)
  have D_82 := ((D_78.keep (below_a1 w74 _)).keep b80)
  have M_83 := h80
  have cc_84 := (Below.chain (Below.chain cc_79 (below_a1 w74 _)) b80)
  clear O_75 b80 D_78 h80 cc_79
  go_wp2_with fail
  have H85 := Lib.hid (xeval_any mixE x80 (.slice none 0 0) [] _ M_83 (Rw.nil _) nil_ok)
  rw [S4.out] at H85
  generalize (evalR [] mixE).1 = r85 at *
  obtain ⟨rk85, rn85, rf85, rs85⟩ := r85
  (with_reducible refine (H85.out).mono ?_); rintro e w85 ⟨rfl, b85⟩
  have cc_86 := (Below.chain (Below.chain cc_84 b85) (below_a1 w85 (.cells #[.int .i64 rk85, .int .i64 rn85, .float .f64 rf85, .string rs85] 24)))
  clear cc_84 b85
  go_wp2_with fail
  (with_reducible refine (xprop_any sX _).mono ?_); rintro e w87 ⟨x87, rfl, h87, b87⟩
  have A_88 := h87
  have cc_89 := (Below.chain cc_86 b87)
  clear h87 cc_86 b87
  go_wp2_with fail
  have t90 := ten1 w87 x87 _ A_88
  (with_reducible refine (op_any sNot _ _ [x87] _ t90.1 t90.2 (by simp)).mono ?_); rintro e w90 ⟨x90, rfl, h90, b90⟩
  have A_91 := ((A_88.keep (below_a1 w87 _)).keep b90)
  have C_92 := h90
  have cc_93 := (Below.chain (Below.chain cc_89 (below_a1 w87 _)) b90)
  clear A_88 b90 h90 cc_89
  go_wp2_with fail
  have H94 := Lib.hid (xdepth_any _ x90 _ C_92)
  rw [S5.out] at H94
  (with_reducible refine (H94.out).mono ?_); rintro e w94 ⟨rfl, b94⟩
  have cc_95 := (Below.chain cc_93 b94)
  clear cc_93 b94
  go_wp2_with fail
  go_ret
  exact ⟨rfl, cc_95⟩
end Go.Proofs.Ytfhnjilflffdfaa
