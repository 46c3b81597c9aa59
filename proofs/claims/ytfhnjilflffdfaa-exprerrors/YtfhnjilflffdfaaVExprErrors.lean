/- The walk of the law ExprErrors. -/
import Derived.Test.YtfhnjilflffdfaaEZ
import Derived.Test.YtfhnjilflffdfaaEG9
import Derived.Test.YtfhnjilflffdfaaEG10
import Derived.Test.YtfhnjilflffdfaaEG11
import Derived.Deep.DeepCutAuto
namespace Go.Proofs.Ytfhnjilflffdfaa.ExprErrors
open Go Go.RowKit
set_option linter.unusedVariables false
theorem and1 (a : Int) : bits BinOp.and IntKind.i64 a 1 = 0 ∨ bits BinOp.and IntKind.i64 a 1 = 1 := by
  have key : bits BinOp.and IntKind.i64 a 1 = (((BitVec.ofInt 64 a).toNat % 2 : Nat) : Int) := by
    show IntKind.i64.wrap ((BitVec.ofInt 64 a &&& BitVec.ofInt 64 1).toNat : Int) = _
    have e : (BitVec.ofInt 64 1).toNat = 1 := by decide
    have e2 : (BitVec.ofInt 64 a).toNat &&& 1 = (BitVec.ofInt 64 a).toNat % 2 := Nat.and_two_pow_sub_one_eq_mod _ 1
    rw [BitVec.toNat_and, e, e2, IntKind.wrap_i64]
    have := Nat.mod_lt (BitVec.ofInt 64 a).toNat (show 0 < 2 by decide)
    omega
  rw [key]
  omega
theorem lit_tx (w : World) : Tx w (litE ⟨1, 1, 0, ⟨#[]⟩⟩) ⟨1, ⟨#[]⟩, ⟨1, 1, 0, ⟨#[]⟩⟩, none, 0, 0⟩ := Tx.mk ⟨by decide, by decide, by decide⟩ (Rw.nil _) (Txs.nil _)
set_option maxHeartbeats 16000000 in
set_option maxRecDepth 100000 in
theorem walk (t : Ex) (x : Xc) (v : Value) (l : List Pr) (n : Int) (w : World) (h : Tx w t x) (hp : RwP w v l) (hok : ∀ q ∈ l, q.2.Ok) (n1 : -9223372036854775808 ≤ n) (n2 : n ≤ 9223372036854775807) :
    Calls Try.prog 4 #[xv x, v, .int .i64 n] w fun e w' => e = .returned (.bool true) ∧ Below w.heap.size w w' := by
  have hsf := run_store_float
  have HX0 := Lib.hid h
  have HP := Lib.hid hp
  have HOK := Lib.hid hok
  have HLK := Lib.hid (fix_ok (l.take 100) (fun q hq => hok q (List.mem_of_mem_take hq)))
  clear h hp hok n1 n2
  cases hct : decide ((100 : Int) < wrap64 (t.sz : Nat))
  case true =>
    go_enter Try.func4, Try.ntmps4
    go_wp2_with fail
    refine (shown_any _).mono ?_; rintro e w1 ⟨rfl, b1⟩
    have V0_2 := ((Vr.new w 27 (xcs x)).keep b1)
    have T0_3 := ((HX0.out.keep (Below.chain (Below.refl w.heap.size w) (below_a1 w (.cells (xcs x) 27)))).keep b1)
    have P_4 := ((HP.out.keep (Below.chain (Below.refl w.heap.size w) (below_a1 w (.cells (xcs x) 27)))).keep b1)
    have cc_5 := (Below.chain (Below.chain (Below.refl w.heap.size w) (below_a1 w (.cells (xcs x) 27))) b1)
    clear b1
    have ⟨q0, q1, q2, q3, q4, q5, q6⟩ := V0_2.cells7
    have K0 := Lib.hid (xcount_any t x w1 T0_3)
    generalize zz0 : wrap64 (t.sz : Nat) = z0 at *
    go_wp2_with fail
    (with_reducible refine (K0.out).mono ?_); rintro e w6 ⟨rfl, b6⟩
    have V0_7 := (V0_2.keep b6)
    have T0_8 := (T0_3.keep b6)
    have P_9 := (P_4.keep b6)
    have cc_10 := (Below.chain cc_5 b6)
    clear V0_2 b6 T0_3 P_4 cc_5
    clear q0 q1 q2 q3 q4 q5 q6
    clear K0
    go_wp2_with fail
    go_ret
    exact ⟨rfl, cc_10⟩
  cases hdp : decide ((45 : Int) < ((min (deep t) 51 : Nat) : Int))
  case true =>
    go_enter Try.func4, Try.ntmps4
    go_wp2_with fail
    refine (shown_any _).mono ?_; rintro e w1 ⟨rfl, b1⟩
    have V0_2 := ((Vr.new w 27 (xcs x)).keep b1)
    have T0_3 := ((HX0.out.keep (Below.chain (Below.refl w.heap.size w) (below_a1 w (.cells (xcs x) 27)))).keep b1)
    have P_4 := ((HP.out.keep (Below.chain (Below.refl w.heap.size w) (below_a1 w (.cells (xcs x) 27)))).keep b1)
    have cc_5 := (Below.chain (Below.chain (Below.refl w.heap.size w) (below_a1 w (.cells (xcs x) 27))) b1)
    clear b1
    have ⟨q0, q1, q2, q3, q4, q5, q6⟩ := V0_2.cells7
    have K0 := Lib.hid (xcount_any t x w1 T0_3)
    generalize zz0 : wrap64 (t.sz : Nat) = z0 at *
    go_wp2_with fail
    (with_reducible refine (K0.out).mono ?_); rintro e w6 ⟨rfl, b6⟩
    have V0_7 := (V0_2.keep b6)
    have T0_8 := (T0_3.keep b6)
    have P_9 := (P_4.keep b6)
    have cc_10 := (Below.chain cc_5 b6)
    clear V0_2 b6 T0_3 P_4 cc_5
    clear q0 q1 q2 q3 q4 q5 q6
    clear K0
    have ⟨q0, q1, q2, q3, q4, q5, q6⟩ := V0_7.cells7
    have K1 := Lib.hid (xdepth_any t x w6 T0_8)
    generalize zz1 : ((min (deep t) 51 : Nat) : Int) = z1 at *
    go_wp2_with fail
    (with_reducible refine (K1.out).mono ?_); rintro e w11 ⟨rfl, b11⟩
    have V0_12 := (V0_7.keep b11)
    have T0_13 := (T0_8.keep b11)
    have P_14 := (P_9.keep b11)
    have cc_15 := (Below.chain cc_10 b11)
    clear V0_7 b11 T0_8 P_9 cc_10
    clear q0 q1 q2 q3 q4 q5 q6
    clear K1
    go_wp2_with fail
    go_ret
    exact ⟨rfl, cc_15⟩
  cases hrt : rightE t
  case false =>
    go_enter Try.func4, Try.ntmps4
    go_wp2_with fail
    refine (shown_any _).mono ?_; rintro e w1 ⟨rfl, b1⟩
    have V0_2 := ((Vr.new w 27 (xcs x)).keep b1)
    have T0_3 := ((HX0.out.keep (Below.chain (Below.refl w.heap.size w) (below_a1 w (.cells (xcs x) 27)))).keep b1)
    have P_4 := ((HP.out.keep (Below.chain (Below.refl w.heap.size w) (below_a1 w (.cells (xcs x) 27)))).keep b1)
    have cc_5 := (Below.chain (Below.chain (Below.refl w.heap.size w) (below_a1 w (.cells (xcs x) 27))) b1)
    clear b1
    have ⟨q0, q1, q2, q3, q4, q5, q6⟩ := V0_2.cells7
    have K0 := Lib.hid (xcount_any t x w1 T0_3)
    generalize zz0 : wrap64 (t.sz : Nat) = z0 at *
    go_wp2_with fail
    (with_reducible refine (K0.out).mono ?_); rintro e w6 ⟨rfl, b6⟩
    have V0_7 := (V0_2.keep b6)
    have T0_8 := (T0_3.keep b6)
    have P_9 := (P_4.keep b6)
    have cc_10 := (Below.chain cc_5 b6)
    clear V0_2 b6 T0_3 P_4 cc_5
    clear q0 q1 q2 q3 q4 q5 q6
    clear K0
    have ⟨q0, q1, q2, q3, q4, q5, q6⟩ := V0_7.cells7
    have K1 := Lib.hid (xdepth_any t x w6 T0_8)
    generalize zz1 : ((min (deep t) 51 : Nat) : Int) = z1 at *
    go_wp2_with fail
    (with_reducible refine (K1.out).mono ?_); rintro e w11 ⟨rfl, b11⟩
    have V0_12 := (V0_7.keep b11)
    have T0_13 := (T0_8.keep b11)
    have P_14 := (P_9.keep b11)
    have cc_15 := (Below.chain cc_10 b11)
    clear V0_7 b11 T0_8 P_9 cc_10
    clear q0 q1 q2 q3 q4 q5 q6
    clear K1
    have ⟨q0, q1, q2, q3, q4, q5, q6⟩ := V0_12.cells7
    have K2 := Lib.hid (xright_any t x w11 T0_13)
    rw [hrt] at K2
    go_wp2_with fail
    (with_reducible refine (K2.out).mono ?_); rintro e w16 ⟨rfl, b16⟩
    have V0_17 := (V0_12.keep b16)
    have T0_18 := (T0_13.keep b16)
    have P_19 := (P_14.keep b16)
    have cc_20 := (Below.chain cc_15 b16)
    clear V0_12 b16 T0_13 P_14 cc_15
    clear q0 q1 q2 q3 q4 q5 q6
    clear K2
    go_wp2_with fail
    go_ret
    exact ⟨rfl, cc_20⟩
  have HD := Lib.hid (show deep t ≤ 45 by have := of_decide_eq_false hdp; omega)
  have HE := Lib.hid (fun L s hs => errors_all L s hs t hrt HD.out)
  go_enter Try.func4, Try.ntmps4
  go_wp2_with fail
  refine (shown_any _).mono ?_; rintro e w1 ⟨rfl, b1⟩
  have V0_2 := ((Vr.new w 27 (xcs x)).keep b1)
  have T0_3 := ((HX0.out.keep (Below.chain (Below.refl w.heap.size w) (below_a1 w (.cells (xcs x) 27)))).keep b1)
  have P_4 := ((HP.out.keep (Below.chain (Below.refl w.heap.size w) (below_a1 w (.cells (xcs x) 27)))).keep b1)
  have cc_5 := (Below.chain (Below.chain (Below.refl w.heap.size w) (below_a1 w (.cells (xcs x) 27))) b1)
  clear b1
  have ⟨q0, q1, q2, q3, q4, q5, q6⟩ := V0_2.cells7
  have K0 := Lib.hid (xcount_any t x w1 T0_3)
  generalize zz0 : wrap64 (t.sz : Nat) = z0 at *
  go_wp2_with fail
  (with_reducible refine (K0.out).mono ?_); rintro e w6 ⟨rfl, b6⟩
  have V0_7 := (V0_2.keep b6)
  have T0_8 := (T0_3.keep b6)
  have P_9 := (P_4.keep b6)
  have cc_10 := (Below.chain cc_5 b6)
  clear V0_2 b6 T0_3 P_4 cc_5
  clear q0 q1 q2 q3 q4 q5 q6
  clear K0
  have ⟨q0, q1, q2, q3, q4, q5, q6⟩ := V0_7.cells7
  have K1 := Lib.hid (xdepth_any t x w6 T0_8)
  generalize zz1 : ((min (deep t) 51 : Nat) : Int) = z1 at *
  go_wp2_with fail
  (with_reducible refine (K1.out).mono ?_); rintro e w11 ⟨rfl, b11⟩
  have V0_12 := (V0_7.keep b11)
  have T0_13 := (T0_8.keep b11)
  have P_14 := (P_9.keep b11)
  have cc_15 := (Below.chain cc_10 b11)
  clear V0_7 b11 T0_8 P_9 cc_10
  clear q0 q1 q2 q3 q4 q5 q6
  clear K1
  have ⟨q0, q1, q2, q3, q4, q5, q6⟩ := V0_12.cells7
  have K2 := Lib.hid (xright_any t x w11 T0_13)
  rw [hrt] at K2
  go_wp2_with fail
  (with_reducible refine (K2.out).mono ?_); rintro e w16 ⟨rfl, b16⟩
  have V0_17 := (V0_12.keep b16)
  have T0_18 := (T0_13.keep b16)
  have P_19 := (P_14.keep b16)
  have cc_20 := (Below.chain cc_15 b16)
  clear V0_12 b16 T0_13 P_14 cc_15
  clear q0 q1 q2 q3 q4 q5 q6
  clear K2
  go_wp2_with fail
  (with_reducible refine (few_any _ l _ P_19 HOK.out).mono ?_); rintro e w21 ⟨v21, rfl, o21, b21⟩
  have V0_22 := (V0_17.keep b21)
  have T0_23 := (T0_18.keep b21)
  have P_24 := o21.rw
  have cc_25 := (Below.chain cc_20 b21)
  clear V0_17 b21 T0_18 cc_20
  clear o21
  generalize (l.take 100).map fixP = L at *
  have ER := Lib.hid (HE.out L)
  clear HE
  skip
  go_wp2_with fail
  (with_reducible refine (xwhole_any 9223372036854775807 (by decide) (by decide) _).mono ?_); rintro e w26 ⟨x26, rfl, h26, b26⟩
  have V0_27 := (V0_22.keep b26)
  have T0_28 := (T0_23.keep b26)
  have P_29 := (P_24.keep b26)
  have a_30 := h26
  have cc_31 := (Below.chain cc_25 b26)
  clear V0_22 b26 T0_23 P_24 h26 cc_25
  go_wp2_with fail
  (with_reducible refine (xwhole_any 1 (by decide) (by decide) _).mono ?_); rintro e w32 ⟨x32, rfl, h32, b32⟩
  have V0_33 := (V0_27.keep b32)
  have T0_34 := (T0_28.keep b32)
  have P_35 := (P_29.keep b32)
  have a_36 := (a_30.keep b32)
  have b_37 := h32
  have cc_38 := (Below.chain cc_31 b32)
  clear V0_27 b32 T0_28 P_29 a_30 h32 cc_31
  go_wp2_with fail
  have t39 := ten w32 x26 x32 _ _ a_36 b_37
  (with_reducible refine (op_any sPlus _ _ [x26, x32] _ t39.1 t39.2 (by simp)).mono ?_); rintro e w39 ⟨x39, rfl, h39, b39⟩
  have V0_40 := ((V0_33.keep (below_a1 w32 _)).keep b39)
  have T0_41 := ((T0_34.keep (below_a1 w32 _)).keep b39)
  have P_42 := ((P_35.keep (below_a1 w32 _)).keep b39)
  have a_43 := ((a_36.keep (below_a1 w32 _)).keep b39)
  have b_44 := ((b_37.keep (below_a1 w32 _)).keep b39)
  have O_45 := h39
  have cc_46 := (Below.chain (Below.chain cc_38 (below_a1 w32 _)) b39)
  clear V0_33 b39 T0_34 P_35 a_36 b_37 h39 cc_38
  have VN47 := Lib.hid (Vr.new w39 27 #[.int .i64 0, .string ⟨#[]⟩, .int .i64 0, .int .i64 0, .float .f64 0, .string ⟨#[]⟩, .slice none 0 0])
  go_upto_region 6 with (refine wpList_store_x x39 rfl _ _ rfl rfl rfl VN47.out rfl ?_)
  have V0_48 := (V0_40.keep (below_setRow (below_a1 w39 (.cells #[.int .i64 0, .string ⟨#[]⟩, .int .i64 0, .int .i64 0, .float .f64 0, .string ⟨#[]⟩, .slice none 0 0] 27)) (Nat.le_refl _) (xcs x39)))
  have T0_49 := (T0_41.keep (below_setRow (below_a1 w39 (.cells #[.int .i64 0, .string ⟨#[]⟩, .int .i64 0, .int .i64 0, .float .f64 0, .string ⟨#[]⟩, .slice none 0 0] 27)) (Nat.le_refl _) (xcs x39)))
  have P_50 := (P_42.keep (below_setRow (below_a1 w39 (.cells #[.int .i64 0, .string ⟨#[]⟩, .int .i64 0, .int .i64 0, .float .f64 0, .string ⟨#[]⟩, .slice none 0 0] 27)) (Nat.le_refl _) (xcs x39)))
  have O_51 := (O_45.keep (below_setRow (below_a1 w39 (.cells #[.int .i64 0, .string ⟨#[]⟩, .int .i64 0, .int .i64 0, .float .f64 0, .string ⟨#[]⟩, .slice none 0 0] 27)) (Nat.le_refl _) (xcs x39)))
  have VO_52 := (VN47.out.set (xcs x39))
  have cc_53 := (Below.chain cc_46 (below_setRow (below_a1 w39 (.cells #[.int .i64 0, .string ⟨#[]⟩, .int .i64 0, .int .i64 0, .float .f64 0, .string ⟨#[]⟩, .slice none 0 0] 27)) (Nat.le_refl _) (xcs x39)))
  clear V0_40 T0_41 P_42 O_45 cc_46
  clear VN47
  generalize ((w39.alloc (.cells #[.int .i64 0, .string ⟨#[]⟩, .int .i64 0, .int .i64 0, .float .f64 0, .string ⟨#[]⟩, .slice none 0 0] 27)).setRow w39.heap.size (xcs x39)) = W54 at *
  go_wp2_with fail
  (with_reducible refine (xwhole_any 1 (by decide) (by decide) _).mono ?_); rintro e w55 ⟨x55, rfl, h55, b55⟩
  have V0_56 := (V0_48.keep b55)
  have T0_57 := (T0_49.keep b55)
  have P_58 := (P_50.keep b55)
  have O_59 := (O_51.keep b55)
  have VO_60 := (VO_52.keep b55)
  have c_61 := h55
  have cc_62 := (Below.chain cc_53 b55)
  clear V0_48 b55 T0_49 P_50 O_51 VO_52 h55 cc_53
  go_wp2_with fail
  have t63 := ten w55 x55 ⟨1, ⟨#[]⟩, ⟨1, 1, 0, ⟨#[]⟩⟩, none, 0, 0⟩ _ _ c_61 (lit_tx _)
  (with_reducible refine (op_any sPlus _ _ [x55, ⟨1, ⟨#[]⟩, ⟨1, 1, 0, ⟨#[]⟩⟩, none, 0, 0⟩] _ t63.1 t63.2 (by simp)).mono ?_); rintro e w63 ⟨x63, rfl, h63, b63⟩
  have V0_64 := ((V0_56.keep (below_a1 w55 _)).keep b63)
  have T0_65 := ((T0_57.keep (below_a1 w55 _)).keep b63)
  have P_66 := ((P_58.keep (below_a1 w55 _)).keep b63)
  have O_67 := ((O_59.keep (below_a1 w55 _)).keep b63)
  have VO_68 := ((VO_60.keep (below_a1 w55 _)).keep b63)
  have c_69 := ((c_61.keep (below_a1 w55 _)).keep b63)
  have W_70 := h63
  have cc_71 := (Below.chain (Below.chain cc_62 (below_a1 w55 _)) b63)
  clear V0_56 b63 T0_57 P_58 O_59 VO_60 c_61 h63 cc_62
  have VN72 := Lib.hid (Vr.new w63 27 #[.int .i64 0, .string ⟨#[]⟩, .int .i64 0, .int .i64 0, .float .f64 0, .string ⟨#[]⟩, .slice none 0 0])
  go_upto_region 7 with (refine wpList_store_x x63 rfl _ _ rfl rfl rfl VN72.out rfl ?_)
  have V0_73 := (V0_64.keep (below_setRow (below_a1 w63 (.cells #[.int .i64 0, .string ⟨#[]⟩, .int .i64 0, .int .i64 0, .float .f64 0, .string ⟨#[]⟩, .slice none 0 0] 27)) (Nat.le_refl _) (xcs x63)))
  have T0_74 := (T0_65.keep (below_setRow (below_a1 w63 (.cells #[.int .i64 0, .string ⟨#[]⟩, .int .i64 0, .int .i64 0, .float .f64 0, .string ⟨#[]⟩, .slice none 0 0] 27)) (Nat.le_refl _) (xcs x63)))
  have P_75 := (P_66.keep (below_setRow (below_a1 w63 (.cells #[.int .i64 0, .string ⟨#[]⟩, .int .i64 0, .int .i64 0, .float .f64 0, .string ⟨#[]⟩, .slice none 0 0] 27)) (Nat.le_refl _) (xcs x63)))
  have O_76 := (O_67.keep (below_setRow (below_a1 w63 (.cells #[.int .i64 0, .string ⟨#[]⟩, .int .i64 0, .int .i64 0, .float .f64 0, .string ⟨#[]⟩, .slice none 0 0] 27)) (Nat.le_refl _) (xcs x63)))
  have VO_77 := (VO_68.keep (below_setRow (below_a1 w63 (.cells #[.int .i64 0, .string ⟨#[]⟩, .int .i64 0, .int .i64 0, .float .f64 0, .string ⟨#[]⟩, .slice none 0 0] 27)) (Nat.le_refl _) (xcs x63)))
  have W_78 := (W_70.keep (below_setRow (below_a1 w63 (.cells #[.int .i64 0, .string ⟨#[]⟩, .int .i64 0, .int .i64 0, .float .f64 0, .string ⟨#[]⟩, .slice none 0 0] 27)) (Nat.le_refl _) (xcs x63)))
  have VW_79 := (VN72.out.set (xcs x63))
  have cc_80 := (Below.chain cc_71 (below_setRow (below_a1 w63 (.cells #[.int .i64 0, .string ⟨#[]⟩, .int .i64 0, .int .i64 0, .float .f64 0, .string ⟨#[]⟩, .slice none 0 0] 27)) (Nat.le_refl _) (xcs x63)))
  clear V0_64 T0_65 P_66 O_67 VO_68 W_70 cc_71
  clear VN72
  generalize ((w63.alloc (.cells #[.int .i64 0, .string ⟨#[]⟩, .int .i64 0, .int .i64 0, .float .f64 0, .string ⟨#[]⟩, .slice none 0 0] 27)).setRow w63.heap.size (xcs x63)) = W81 at *
  have ⟨q0, q1, q2, q3, q4, q5, q6⟩ := V0_73.cells7
  go_wp2_with fail
  have t82 := ten1 W81 x _ T0_74
  (with_reducible refine (op_any sNull _ _ [x] _ t82.1 t82.2 (by simp)).mono ?_); rintro e w82 ⟨x82, rfl, h82, b82⟩
  have V0_83 := ((V0_73.keep (below_a1 W81 _)).keep b82)
  have T0_84 := ((T0_74.keep (below_a1 W81 _)).keep b82)
  have P_85 := ((P_75.keep (below_a1 W81 _)).keep b82)
  have O_86 := ((O_76.keep (below_a1 W81 _)).keep b82)
  have VO_87 := ((VO_77.keep (below_a1 W81 _)).keep b82)
  have W_88 := ((W_78.keep (below_a1 W81 _)).keep b82)
  have VW_89 := ((VW_79.keep (below_a1 W81 _)).keep b82)
  have N_90 := h82
  have cc_91 := (Below.chain (Below.chain cc_80 (below_a1 W81 _)) b82)
  clear V0_73 b82 T0_74 P_75 O_76 VO_77 W_78 VW_79 h82 cc_80
  have VN92 := Lib.hid (Vr.new w82 27 #[.int .i64 0, .string ⟨#[]⟩, .int .i64 0, .int .i64 0, .float .f64 0, .string ⟨#[]⟩, .slice none 0 0])
  go_upto_region 8 with (refine wpList_store_x x82 rfl _ _ rfl rfl rfl VN92.out rfl ?_)
  have V0_93 := (V0_83.keep (below_setRow (below_a1 w82 (.cells #[.int .i64 0, .string ⟨#[]⟩, .int .i64 0, .int .i64 0, .float .f64 0, .string ⟨#[]⟩, .slice none 0 0] 27)) (Nat.le_refl _) (xcs x82)))
  have T0_94 := (T0_84.keep (below_setRow (below_a1 w82 (.cells #[.int .i64 0, .string ⟨#[]⟩, .int .i64 0, .int .i64 0, .float .f64 0, .string ⟨#[]⟩, .slice none 0 0] 27)) (Nat.le_refl _) (xcs x82)))
  have P_95 := (P_85.keep (below_setRow (below_a1 w82 (.cells #[.int .i64 0, .string ⟨#[]⟩, .int .i64 0, .int .i64 0, .float .f64 0, .string ⟨#[]⟩, .slice none 0 0] 27)) (Nat.le_refl _) (xcs x82)))
  have O_96 := (O_86.keep (below_setRow (below_a1 w82 (.cells #[.int .i64 0, .string ⟨#[]⟩, .int .i64 0, .int .i64 0, .float .f64 0, .string ⟨#[]⟩, .slice none 0 0] 27)) (Nat.le_refl _) (xcs x82)))
  have VO_97 := (VO_87.keep (below_setRow (below_a1 w82 (.cells #[.int .i64 0, .string ⟨#[]⟩, .int .i64 0, .int .i64 0, .float .f64 0, .string ⟨#[]⟩, .slice none 0 0] 27)) (Nat.le_refl _) (xcs x82)))
  have W_98 := (W_88.keep (below_setRow (below_a1 w82 (.cells #[.int .i64 0, .string ⟨#[]⟩, .int .i64 0, .int .i64 0, .float .f64 0, .string ⟨#[]⟩, .slice none 0 0] 27)) (Nat.le_refl _) (xcs x82)))
  have VW_99 := (VW_89.keep (below_setRow (below_a1 w82 (.cells #[.int .i64 0, .string ⟨#[]⟩, .int .i64 0, .int .i64 0, .float .f64 0, .string ⟨#[]⟩, .slice none 0 0] 27)) (Nat.le_refl _) (xcs x82)))
  have N_100 := (N_90.keep (below_setRow (below_a1 w82 (.cells #[.int .i64 0, .string ⟨#[]⟩, .int .i64 0, .int .i64 0, .float .f64 0, .string ⟨#[]⟩, .slice none 0 0] 27)) (Nat.le_refl _) (xcs x82)))
  have VN_101 := (VN92.out.set (xcs x82))
  have cc_102 := (Below.chain cc_91 (below_setRow (below_a1 w82 (.cells #[.int .i64 0, .string ⟨#[]⟩, .int .i64 0, .int .i64 0, .float .f64 0, .string ⟨#[]⟩, .slice none 0 0] 27)) (Nat.le_refl _) (xcs x82)))
  clear V0_83 T0_84 P_85 O_86 VO_87 W_88 VW_89 N_90 cc_91
  clear VN92
  generalize ((w82.alloc (.cells #[.int .i64 0, .string ⟨#[]⟩, .int .i64 0, .int .i64 0, .float .f64 0, .string ⟨#[]⟩, .slice none 0 0] 27)).setRow w82.heap.size (xcs x82)) = W103 at *
  clear q0 q1 q2 q3 q4 q5 q6
  simp only [Act.put]
  go_cut [11] (fun s11 wx => ∃ s, s11 = .string s ∧ (s = sAnd ∨ s = sOr) ∧ Below W103.heap.size W103 wx)
  case first =>
    clear N_100 O_96 P_95 T0_94 V0_93 VN_101 VO_97 VW_99 W_98 cc_102
    rcases and1 n with hb | hb
    all_goals
      go_wp2_with fail
      go_meet
      refine ⟨_, rfl, ?_, below_a1 _ _⟩
      first | exact .inl rfl | exact .inr rfl
  case rest =>
  rename World => wS
  obtain ⟨s, rfl, hs, b_wS⟩ := hcut
  have V0_104 := (V0_93.keep b_wS)
  have T0_105 := (T0_94.keep b_wS)
  have P_106 := (P_95.keep b_wS)
  have O_107 := (O_96.keep b_wS)
  have VO_108 := (VO_97.keep b_wS)
  have W_109 := (W_98.keep b_wS)
  have VW_110 := (VW_99.keep b_wS)
  have N_111 := (N_100.keep b_wS)
  have VN_112 := (VN_101.keep b_wS)
  have cc_113 := (Below.chain cc_102 b_wS)
  clear V0_93 b_wS T0_94 P_95 O_96 VO_97 W_98 VW_99 N_100 VN_101 cc_102
  obtain ⟨e1, e2, e3⟩ := ER.out s hs
  clear hs ER
  obtain ⟨⟨⟨k1, m1, f1, s1⟩, r1⟩, hq1⟩ : ∃ r, r = evalR L (opE s [opE sNull [t], opE sNull [wrongE]]) := ⟨_, rfl⟩
  rw [← hq1] at e1
  have Q1 := Lib.hid hq1.symm
  dsimp only at e1
  clear hq1
  obtain ⟨⟨⟨k2, m2, f2, s2⟩, r2⟩, hq2⟩ : ∃ r, r = evalR L (opE s [opE sNull [overE], opE sNull [t]]) := ⟨_, rfl⟩
  rw [← hq2] at e2
  have Q2 := Lib.hid hq2.symm
  dsimp only at e2
  clear hq2
  obtain ⟨⟨⟨k3, m3, f3, s3⟩, r3⟩, hq3⟩ : ∃ r, r = evalR L (opE s [opE sNull [overE], opE sNull [wrongE]]) := ⟨_, rfl⟩
  rw [← hq3] at e3
  have Q3 := Lib.hid hq3.symm
  dsimp only at e3
  clear hq3
  subst e1
  subst e3
  have E2 := Lib.hid e2
  clear e2
  go_upto_region 9 with fail
  have R9 := @reg9
  simp only [Try.f4, Option.getD_some, regOps, Nat.reduceEqDiff, if_false, if_true, Array.append_empty, Array.empty_append] at R9
  refine R9 L HLK.out s t x39 x63 x82 _ _ _ _ k1 m1 f1 s1 4 Q1.out wS VO_108 VW_110 VN_112 O_107 W_109 N_111 P_106 _ _ _ _ _ _ _ _ _ _ _ _ _ _ _ _ _ _ _ _ _ _ _ _ _ _ _ _ _ _ _ _ _ _ _ _ _ _ _ _ _ _ _ _ _ _ _ _ _ _ _ _ _ _ _ _ _ _ _ _ _ _ _ _ _ _ _ _ _ _ _ _ _ _ _ _ _ _ _ _ _ _ _ _ _ _ _ _ _ _ _ _ _ _ _ _ _ _ _ _ _ _ _ _ _ _ _ _ _ _ _ ?_
  clear R9
  intro c12 c55 c56 c57 c58 c59 c60 c61 c62 c63 c64 c65 c66 wR9 b_wR9
  have V0_114 := (V0_104.keep b_wR9)
  have T0_115 := (T0_105.keep b_wR9)
  have P_116 := (P_106.keep b_wR9)
  have O_117 := (O_107.keep b_wR9)
  have VO_118 := (VO_108.keep b_wR9)
  have W_119 := (W_109.keep b_wR9)
  have VW_120 := (VW_110.keep b_wR9)
  have N_121 := (N_111.keep b_wR9)
  have VN_122 := (VN_112.keep b_wR9)
  have cc_123 := (Below.chain cc_113 b_wR9)
  clear V0_104 b_wR9 T0_105 P_106 O_107 VO_108 W_109 VW_110 N_111 VN_112 cc_113
  go_upto_region 10 with fail
  have R10 := @reg10
  simp only [Try.f4, Option.getD_some, regOps, Nat.reduceEqDiff, if_false, if_true, Array.append_empty, Array.empty_append] at R10
  refine R10 L HLK.out s t x39 x63 x82 _ _ _ _ k2 m2 f2 s2 r2 Q2.out wR9 VO_118 VW_120 VN_122 O_117 W_119 N_121 P_116 _ _ _ _ _ _ _ _ _ _ _ _ _ _ _ _ _ _ _ _ _ _ _ _ _ _ _ _ _ _ _ _ _ _ _ _ _ _ _ _ _ _ _ _ _ _ _ _ _ _ _ _ _ _ _ _ _ _ _ _ _ _ _ _ _ _ _ _ _ _ _ _ _ _ _ _ _ _ _ _ _ _ _ _ _ _ _ _ _ _ _ _ _ _ _ _ _ _ _ _ _ _ _ _ _ _ _ _ _ _ _ ?_
  clear R10
  intro c14 c67 c68 c69 c70 c71 c72 c73 c74 c75 c76 c77 c78 wR10 b_wR10
  have V0_124 := (V0_114.keep b_wR10)
  have T0_125 := (T0_115.keep b_wR10)
  have P_126 := (P_116.keep b_wR10)
  have O_127 := (O_117.keep b_wR10)
  have VO_128 := (VO_118.keep b_wR10)
  have W_129 := (W_119.keep b_wR10)
  have VW_130 := (VW_120.keep b_wR10)
  have N_131 := (N_121.keep b_wR10)
  have VN_132 := (VN_122.keep b_wR10)
  have cc_133 := (Below.chain cc_123 b_wR10)
  clear V0_114 b_wR10 T0_115 P_116 O_117 VO_118 W_119 VW_120 N_121 VN_122 cc_123
  go_upto_region 11 with fail
  have R11 := @reg11
  simp only [Try.f4, Option.getD_some, regOps, Nat.reduceEqDiff, if_false, if_true, Array.append_empty, Array.empty_append] at R11
  refine R11 L HLK.out s t x39 x63 x82 _ _ _ _ k3 m3 f3 s3 4 Q3.out wR10 VO_128 VW_130 VN_132 O_127 W_129 N_131 P_126 _ _ _ _ _ _ _ _ _ _ _ _ _ _ _ _ _ _ _ _ _ _ _ _ _ _ _ _ _ _ _ _ _ _ _ _ _ _ _ _ _ _ _ _ _ _ _ _ _ _ _ _ _ _ _ _ _ _ _ _ _ _ _ _ _ _ _ _ _ _ _ _ _ _ _ _ _ _ _ _ _ _ _ _ _ _ _ _ _ _ _ _ _ _ _ _ _ _ _ _ _ _ _ _ _ _ _ _ _ _ _ ?_
  clear R11
  intro c16 c79 c80 c81 c82 c83 c84 c85 c86 c87 c88 c89 c90 c91 c92 wR11 b_wR11
  have V0_134 := (V0_124.keep b_wR11)
  have T0_135 := (T0_125.keep b_wR11)
  have P_136 := (P_126.keep b_wR11)
  have O_137 := (O_127.keep b_wR11)
  have VO_138 := (VO_128.keep b_wR11)
  have W_139 := (W_129.keep b_wR11)
  have VW_140 := (VW_130.keep b_wR11)
  have N_141 := (N_131.keep b_wR11)
  have VN_142 := (VN_132.keep b_wR11)
  have cc_143 := (Below.chain cc_133 b_wR11)
  clear V0_124 b_wR11 T0_125 P_126 O_127 VO_128 W_129 VW_130 N_131 VN_132 cc_133
  have V0_144 := V0_134
  have T0_145 := T0_135
  have P_146 := P_136
  have cc_147 := cc_143
  clear V0_134 T0_135 P_136 cc_143
  have ⟨q0, q1, q2, q3, q4, q5, q6⟩ := V0_144.cells7
  go_wp2_with fail
  have E148 := Lib.hid (xeval_any t x _ L _ T0_145 P_146 HLK.out)
  generalize evalR L t = rO at *
  obtain ⟨⟨ok, om, of_, os⟩, oe⟩ := rO
  dsimp only at E148 E2
  (with_reducible refine (E148.out).mono ?_); rintro e w148 ⟨rfl, b148⟩
  clear E148
  have V0_149 := (V0_144.keep b148)
  have T0_150 := (T0_145.keep b148)
  have P_151 := (P_146.keep b148)
  have cc_152 := (Below.chain cc_147 b148)
  clear V0_144 b148 T0_145 P_146 cc_147
  clear q0 q1 q2 q3 q4 q5 q6
  have HC := Lib.hid (Below.chain cc_152 (below_a1 w148 (.cells #[.int .i64 ok, .int .i64 om, .float .f64 of_, .string os] 24)))
  clear P_151 T0_150 V0_149 cc_152
  have e2 := E2.out
  by_cases ho : oe = 4
  · subst ho
    rw [if_pos rfl] at e2
    subst e2
    go_wp2_with fail
    go_ret
    exact ⟨rfl, HC.out⟩
  · rw [if_neg ho] at e2
    subst e2
    have bo : (oe == 4) = false := by simpa using ho
    clear ho
    go_wp2_with fail
    go_ret
    exact ⟨rfl, HC.out⟩
end Go.Proofs.Ytfhnjilflffdfaa.ExprErrors
