/- The walk of the law ExprNots. -/
import Derived.Test.YtfhnjilflffdfaaEZ
import Derived.Deep.DeepCutAuto
namespace Go.Proofs.Ytfhnjilflffdfaa.ExprNots
open Go Go.RowKit
set_option linter.unusedVariables false
set_option maxHeartbeats 16000000 in
set_option maxRecDepth 100000 in
theorem walk (t : Ex) (x : Xc) (u : Ex) (y : Xc) (v : Value) (l : List Pr) (w : World) (h : Tx w t x) (h' : Tx w u y) (hp : RwP w v l) (hok : ∀ q ∈ l, q.2.Ok) :
    Calls Try.prog 7 #[xv x, xv y, v] w fun e w' => e = .returned (.bool true) ∧ Below w.heap.size w w' := by
  have hsf := run_store_float
  have HX0 := Lib.hid h
  have HX1 := Lib.hid h'
  have HP := Lib.hid hp
  have HOK := Lib.hid hok
  have HLK := Lib.hid (fix_ok (l.take 100) (fun q hq => hok q (List.mem_of_mem_take hq)))
  have HVK := Lib.hid (node_ok h)
  clear h h' hp hok
  cases hl0 : largeB t
  case true =>
    go_enter Try.func7, Try.ntmps7
    go_wp2_with fail
    refine (shown_any _).mono ?_; rintro e w1 ⟨rfl, b1⟩
    have V0_2 := (((Vr.new w 27 (xcs x)).keep (below_a1 (w.alloc (.cells (xcs x) 27)) (.cells (xcs y) 27))).keep b1)
    have V1_3 := ((Vr.at' (w.alloc (.cells (xcs x) 27)) 27 (xcs y) (w.heap.size + 1) (by simp)).keep b1)
    have T0_4 := ((HX0.out.keep (Below.chain (Below.chain (Below.refl w.heap.size w) (below_a1 w (.cells (xcs x) 27))) (below_a1 (w.alloc (.cells (xcs x) 27)) (.cells (xcs y) 27)))).keep b1)
    have T1_5 := ((HX1.out.keep (Below.chain (Below.chain (Below.refl w.heap.size w) (below_a1 w (.cells (xcs x) 27))) (below_a1 (w.alloc (.cells (xcs x) 27)) (.cells (xcs y) 27)))).keep b1)
    have P_6 := ((HP.out.keep (Below.chain (Below.chain (Below.refl w.heap.size w) (below_a1 w (.cells (xcs x) 27))) (below_a1 (w.alloc (.cells (xcs x) 27)) (.cells (xcs y) 27)))).keep b1)
    have cc_7 := (Below.chain (Below.chain (Below.chain (Below.refl w.heap.size w) (below_a1 w (.cells (xcs x) 27))) (below_a1 (w.alloc (.cells (xcs x) 27)) (.cells (xcs y) 27))) b1)
    clear b1
    have ⟨q0, q1, q2, q3, q4, q5, q6⟩ := V0_2.cells7
    have K0 := Lib.hid (large_any t x w1 T0_4)
    rw [hl0] at K0
    go_wp2_with fail
    (with_reducible refine (K0.out).mono ?_); rintro e w8 ⟨rfl, b8⟩
    have V0_9 := (V0_2.keep b8)
    have V1_10 := (V1_3.keep b8)
    have T0_11 := (T0_4.keep b8)
    have T1_12 := (T1_5.keep b8)
    have P_13 := (P_6.keep b8)
    have cc_14 := (Below.chain cc_7 b8)
    clear V0_2 b8 V1_3 T0_4 T1_5 P_6 cc_7
    clear q0 q1 q2 q3 q4 q5 q6
    clear K0
    go_wp2_with fail
    go_ret
    exact ⟨rfl, cc_14⟩
  cases hl1 : largeB u
  case true =>
    go_enter Try.func7, Try.ntmps7
    go_wp2_with fail
    refine (shown_any _).mono ?_; rintro e w1 ⟨rfl, b1⟩
    have V0_2 := (((Vr.new w 27 (xcs x)).keep (below_a1 (w.alloc (.cells (xcs x) 27)) (.cells (xcs y) 27))).keep b1)
    have V1_3 := ((Vr.at' (w.alloc (.cells (xcs x) 27)) 27 (xcs y) (w.heap.size + 1) (by simp)).keep b1)
    have T0_4 := ((HX0.out.keep (Below.chain (Below.chain (Below.refl w.heap.size w) (below_a1 w (.cells (xcs x) 27))) (below_a1 (w.alloc (.cells (xcs x) 27)) (.cells (xcs y) 27)))).keep b1)
    have T1_5 := ((HX1.out.keep (Below.chain (Below.chain (Below.refl w.heap.size w) (below_a1 w (.cells (xcs x) 27))) (below_a1 (w.alloc (.cells (xcs x) 27)) (.cells (xcs y) 27)))).keep b1)
    have P_6 := ((HP.out.keep (Below.chain (Below.chain (Below.refl w.heap.size w) (below_a1 w (.cells (xcs x) 27))) (below_a1 (w.alloc (.cells (xcs x) 27)) (.cells (xcs y) 27)))).keep b1)
    have cc_7 := (Below.chain (Below.chain (Below.chain (Below.refl w.heap.size w) (below_a1 w (.cells (xcs x) 27))) (below_a1 (w.alloc (.cells (xcs x) 27)) (.cells (xcs y) 27))) b1)
    clear b1
    have ⟨q0, q1, q2, q3, q4, q5, q6⟩ := V0_2.cells7
    have K0 := Lib.hid (large_any t x w1 T0_4)
    rw [hl0] at K0
    go_wp2_with fail
    (with_reducible refine (K0.out).mono ?_); rintro e w8 ⟨rfl, b8⟩
    have V0_9 := (V0_2.keep b8)
    have V1_10 := (V1_3.keep b8)
    have T0_11 := (T0_4.keep b8)
    have T1_12 := (T1_5.keep b8)
    have P_13 := (P_6.keep b8)
    have cc_14 := (Below.chain cc_7 b8)
    clear V0_2 b8 V1_3 T0_4 T1_5 P_6 cc_7
    clear q0 q1 q2 q3 q4 q5 q6
    clear K0
    have ⟨q0, q1, q2, q3, q4, q5, q6⟩ := V1_10.cells7
    have K1 := Lib.hid (large_any u y w8 T1_12)
    rw [hl1] at K1
    go_wp2_with fail
    (with_reducible refine (K1.out).mono ?_); rintro e w15 ⟨rfl, b15⟩
    have V0_16 := (V0_9.keep b15)
    have V1_17 := (V1_10.keep b15)
    have T0_18 := (T0_11.keep b15)
    have T1_19 := (T1_12.keep b15)
    have P_20 := (P_13.keep b15)
    have cc_21 := (Below.chain cc_14 b15)
    clear V0_9 b15 V1_10 T0_11 T1_12 P_13 cc_14
    clear q0 q1 q2 q3 q4 q5 q6
    clear K1
    go_wp2_with fail
    go_ret
    exact ⟨rfl, cc_21⟩
  cases hd0 : decide ((45 : Int) < ((min (deep t) 51 : Nat) : Int))
  case true =>
    go_enter Try.func7, Try.ntmps7
    go_wp2_with fail
    refine (shown_any _).mono ?_; rintro e w1 ⟨rfl, b1⟩
    have V0_2 := (((Vr.new w 27 (xcs x)).keep (below_a1 (w.alloc (.cells (xcs x) 27)) (.cells (xcs y) 27))).keep b1)
    have V1_3 := ((Vr.at' (w.alloc (.cells (xcs x) 27)) 27 (xcs y) (w.heap.size + 1) (by simp)).keep b1)
    have T0_4 := ((HX0.out.keep (Below.chain (Below.chain (Below.refl w.heap.size w) (below_a1 w (.cells (xcs x) 27))) (below_a1 (w.alloc (.cells (xcs x) 27)) (.cells (xcs y) 27)))).keep b1)
    have T1_5 := ((HX1.out.keep (Below.chain (Below.chain (Below.refl w.heap.size w) (below_a1 w (.cells (xcs x) 27))) (below_a1 (w.alloc (.cells (xcs x) 27)) (.cells (xcs y) 27)))).keep b1)
    have P_6 := ((HP.out.keep (Below.chain (Below.chain (Below.refl w.heap.size w) (below_a1 w (.cells (xcs x) 27))) (below_a1 (w.alloc (.cells (xcs x) 27)) (.cells (xcs y) 27)))).keep b1)
    have cc_7 := (Below.chain (Below.chain (Below.chain (Below.refl w.heap.size w) (below_a1 w (.cells (xcs x) 27))) (below_a1 (w.alloc (.cells (xcs x) 27)) (.cells (xcs y) 27))) b1)
    clear b1
    have ⟨q0, q1, q2, q3, q4, q5, q6⟩ := V0_2.cells7
    have K0 := Lib.hid (large_any t x w1 T0_4)
    rw [hl0] at K0
    go_wp2_with fail
    (with_reducible refine (K0.out).mono ?_); rintro e w8 ⟨rfl, b8⟩
    have V0_9 := (V0_2.keep b8)
    have V1_10 := (V1_3.keep b8)
    have T0_11 := (T0_4.keep b8)
    have T1_12 := (T1_5.keep b8)
    have P_13 := (P_6.keep b8)
    have cc_14 := (Below.chain cc_7 b8)
    clear V0_2 b8 V1_3 T0_4 T1_5 P_6 cc_7
    clear q0 q1 q2 q3 q4 q5 q6
    clear K0
    have ⟨q0, q1, q2, q3, q4, q5, q6⟩ := V1_10.cells7
    have K1 := Lib.hid (large_any u y w8 T1_12)
    rw [hl1] at K1
    go_wp2_with fail
    (with_reducible refine (K1.out).mono ?_); rintro e w15 ⟨rfl, b15⟩
    have V0_16 := (V0_9.keep b15)
    have V1_17 := (V1_10.keep b15)
    have T0_18 := (T0_11.keep b15)
    have T1_19 := (T1_12.keep b15)
    have P_20 := (P_13.keep b15)
    have cc_21 := (Below.chain cc_14 b15)
    clear V0_9 b15 V1_10 T0_11 T1_12 P_13 cc_14
    clear q0 q1 q2 q3 q4 q5 q6
    clear K1
    have ⟨q0, q1, q2, q3, q4, q5, q6⟩ := V0_16.cells7
    have K2 := Lib.hid (xdepth_any t x w15 T0_18)
    generalize zz2 : ((min (deep t) 51 : Nat) : Int) = z2 at *
    go_wp2_with fail
    (with_reducible refine (K2.out).mono ?_); rintro e w22 ⟨rfl, b22⟩
    have V0_23 := (V0_16.keep b22)
    have V1_24 := (V1_17.keep b22)
    have T0_25 := (T0_18.keep b22)
    have T1_26 := (T1_19.keep b22)
    have P_27 := (P_20.keep b22)
    have cc_28 := (Below.chain cc_21 b22)
    clear V0_16 b22 V1_17 T0_18 T1_19 P_20 cc_21
    clear q0 q1 q2 q3 q4 q5 q6
    clear K2
    go_wp2_with fail
    go_ret
    exact ⟨rfl, cc_28⟩
  cases hd1 : decide ((45 : Int) < ((min (deep u) 51 : Nat) : Int))
  case true =>
    go_enter Try.func7, Try.ntmps7
    go_wp2_with fail
    refine (shown_any _).mono ?_; rintro e w1 ⟨rfl, b1⟩
    have V0_2 := (((Vr.new w 27 (xcs x)).keep (below_a1 (w.alloc (.cells (xcs x) 27)) (.cells (xcs y) 27))).keep b1)
    have V1_3 := ((Vr.at' (w.alloc (.cells (xcs x) 27)) 27 (xcs y) (w.heap.size + 1) (by simp)).keep b1)
    have T0_4 := ((HX0.out.keep (Below.chain (Below.chain (Below.refl w.heap.size w) (below_a1 w (.cells (xcs x) 27))) (below_a1 (w.alloc (.cells (xcs x) 27)) (.cells (xcs y) 27)))).keep b1)
    have T1_5 := ((HX1.out.keep (Below.chain (Below.chain (Below.refl w.heap.size w) (below_a1 w (.cells (xcs x) 27))) (below_a1 (w.alloc (.cells (xcs x) 27)) (.cells (xcs y) 27)))).keep b1)
    have P_6 := ((HP.out.keep (Below.chain (Below.chain (Below.refl w.heap.size w) (below_a1 w (.cells (xcs x) 27))) (below_a1 (w.alloc (.cells (xcs x) 27)) (.cells (xcs y) 27)))).keep b1)
    have cc_7 := (Below.chain (Below.chain (Below.chain (Below.refl w.heap.size w) (below_a1 w (.cells (xcs x) 27))) (below_a1 (w.alloc (.cells (xcs x) 27)) (.cells (xcs y) 27))) b1)
    clear b1
    have ⟨q0, q1, q2, q3, q4, q5, q6⟩ := V0_2.cells7
    have K0 := Lib.hid (large_any t x w1 T0_4)
    rw [hl0] at K0
    go_wp2_with fail
    (with_reducible refine (K0.out).mono ?_); rintro e w8 ⟨rfl, b8⟩
    have V0_9 := (V0_2.keep b8)
    have V1_10 := (V1_3.keep b8)
    have T0_11 := (T0_4.keep b8)
    have T1_12 := (T1_5.keep b8)
    have P_13 := (P_6.keep b8)
    have cc_14 := (Below.chain cc_7 b8)
    clear V0_2 b8 V1_3 T0_4 T1_5 P_6 cc_7
    clear q0 q1 q2 q3 q4 q5 q6
    clear K0
    have ⟨q0, q1, q2, q3, q4, q5, q6⟩ := V1_10.cells7
    have K1 := Lib.hid (large_any u y w8 T1_12)
    rw [hl1] at K1
    go_wp2_with fail
    (with_reducible refine (K1.out).mono ?_); rintro e w15 ⟨rfl, b15⟩
    have V0_16 := (V0_9.keep b15)
    have V1_17 := (V1_10.keep b15)
    have T0_18 := (T0_11.keep b15)
    have T1_19 := (T1_12.keep b15)
    have P_20 := (P_13.keep b15)
    have cc_21 := (Below.chain cc_14 b15)
    clear V0_9 b15 V1_10 T0_11 T1_12 P_13 cc_14
    clear q0 q1 q2 q3 q4 q5 q6
    clear K1
    have ⟨q0, q1, q2, q3, q4, q5, q6⟩ := V0_16.cells7
    have K2 := Lib.hid (xdepth_any t x w15 T0_18)
    generalize zz2 : ((min (deep t) 51 : Nat) : Int) = z2 at *
    go_wp2_with fail
    (with_reducible refine (K2.out).mono ?_); rintro e w22 ⟨rfl, b22⟩
    have V0_23 := (V0_16.keep b22)
    have V1_24 := (V1_17.keep b22)
    have T0_25 := (T0_18.keep b22)
    have T1_26 := (T1_19.keep b22)
    have P_27 := (P_20.keep b22)
    have cc_28 := (Below.chain cc_21 b22)
    clear V0_16 b22 V1_17 T0_18 T1_19 P_20 cc_21
    clear q0 q1 q2 q3 q4 q5 q6
    clear K2
    have ⟨q0, q1, q2, q3, q4, q5, q6⟩ := V1_24.cells7
    have K3 := Lib.hid (xdepth_any u y w22 T1_26)
    generalize zz3 : ((min (deep u) 51 : Nat) : Int) = z3 at *
    go_wp2_with fail
    (with_reducible refine (K3.out).mono ?_); rintro e w29 ⟨rfl, b29⟩
    have V0_30 := (V0_23.keep b29)
    have V1_31 := (V1_24.keep b29)
    have T0_32 := (T0_25.keep b29)
    have T1_33 := (T1_26.keep b29)
    have P_34 := (P_27.keep b29)
    have cc_35 := (Below.chain cc_28 b29)
    clear V0_23 b29 V1_24 T0_25 T1_26 P_27 cc_28
    clear q0 q1 q2 q3 q4 q5 q6
    clear K3
    go_wp2_with fail
    go_ret
    exact ⟨rfl, cc_35⟩
  cases hr0 : rightE t
  case false =>
    go_enter Try.func7, Try.ntmps7
    go_wp2_with fail
    refine (shown_any _).mono ?_; rintro e w1 ⟨rfl, b1⟩
    have V0_2 := (((Vr.new w 27 (xcs x)).keep (below_a1 (w.alloc (.cells (xcs x) 27)) (.cells (xcs y) 27))).keep b1)
    have V1_3 := ((Vr.at' (w.alloc (.cells (xcs x) 27)) 27 (xcs y) (w.heap.size + 1) (by simp)).keep b1)
    have T0_4 := ((HX0.out.keep (Below.chain (Below.chain (Below.refl w.heap.size w) (below_a1 w (.cells (xcs x) 27))) (below_a1 (w.alloc (.cells (xcs x) 27)) (.cells (xcs y) 27)))).keep b1)
    have T1_5 := ((HX1.out.keep (Below.chain (Below.chain (Below.refl w.heap.size w) (below_a1 w (.cells (xcs x) 27))) (below_a1 (w.alloc (.cells (xcs x) 27)) (.cells (xcs y) 27)))).keep b1)
    have P_6 := ((HP.out.keep (Below.chain (Below.chain (Below.refl w.heap.size w) (below_a1 w (.cells (xcs x) 27))) (below_a1 (w.alloc (.cells (xcs x) 27)) (.cells (xcs y) 27)))).keep b1)
    have cc_7 := (Below.chain (Below.chain (Below.chain (Below.refl w.heap.size w) (below_a1 w (.cells (xcs x) 27))) (below_a1 (w.alloc (.cells (xcs x) 27)) (.cells (xcs y) 27))) b1)
    clear b1
    have ⟨q0, q1, q2, q3, q4, q5, q6⟩ := V0_2.cells7
    have K0 := Lib.hid (large_any t x w1 T0_4)
    rw [hl0] at K0
    go_wp2_with fail
    (with_reducible refine (K0.out).mono ?_); rintro e w8 ⟨rfl, b8⟩
    have V0_9 := (V0_2.keep b8)
    have V1_10 := (V1_3.keep b8)
    have T0_11 := (T0_4.keep b8)
    have T1_12 := (T1_5.keep b8)
    have P_13 := (P_6.keep b8)
    have cc_14 := (Below.chain cc_7 b8)
    clear V0_2 b8 V1_3 T0_4 T1_5 P_6 cc_7
    clear q0 q1 q2 q3 q4 q5 q6
    clear K0
    have ⟨q0, q1, q2, q3, q4, q5, q6⟩ := V1_10.cells7
    have K1 := Lib.hid (large_any u y w8 T1_12)
    rw [hl1] at K1
    go_wp2_with fail
    (with_reducible refine (K1.out).mono ?_); rintro e w15 ⟨rfl, b15⟩
    have V0_16 := (V0_9.keep b15)
    have V1_17 := (V1_10.keep b15)
    have T0_18 := (T0_11.keep b15)
    have T1_19 := (T1_12.keep b15)
    have P_20 := (P_13.keep b15)
    have cc_21 := (Below.chain cc_14 b15)
    clear V0_9 b15 V1_10 T0_11 T1_12 P_13 cc_14
    clear q0 q1 q2 q3 q4 q5 q6
    clear K1
    have ⟨q0, q1, q2, q3, q4, q5, q6⟩ := V0_16.cells7
    have K2 := Lib.hid (xdepth_any t x w15 T0_18)
    generalize zz2 : ((min (deep t) 51 : Nat) : Int) = z2 at *
    go_wp2_with fail
    (with_reducible refine (K2.out).mono ?_); rintro e w22 ⟨rfl, b22⟩
    have V0_23 := (V0_16.keep b22)
    have V1_24 := (V1_17.keep b22)
    have T0_25 := (T0_18.keep b22)
    have T1_26 := (T1_19.keep b22)
    have P_27 := (P_20.keep b22)
    have cc_28 := (Below.chain cc_21 b22)
    clear V0_16 b22 V1_17 T0_18 T1_19 P_20 cc_21
    clear q0 q1 q2 q3 q4 q5 q6
    clear K2
    have ⟨q0, q1, q2, q3, q4, q5, q6⟩ := V1_24.cells7
    have K3 := Lib.hid (xdepth_any u y w22 T1_26)
    generalize zz3 : ((min (deep u) 51 : Nat) : Int) = z3 at *
    go_wp2_with fail
    (with_reducible refine (K3.out).mono ?_); rintro e w29 ⟨rfl, b29⟩
    have V0_30 := (V0_23.keep b29)
    have V1_31 := (V1_24.keep b29)
    have T0_32 := (T0_25.keep b29)
    have T1_33 := (T1_26.keep b29)
    have P_34 := (P_27.keep b29)
    have cc_35 := (Below.chain cc_28 b29)
    clear V0_23 b29 V1_24 T0_25 T1_26 P_27 cc_28
    clear q0 q1 q2 q3 q4 q5 q6
    clear K3
    have ⟨q0, q1, q2, q3, q4, q5, q6⟩ := V0_30.cells7
    have K4 := Lib.hid (xright_any t x w29 T0_32)
    rw [hr0] at K4
    go_wp2_with fail
    (with_reducible refine (K4.out).mono ?_); rintro e w36 ⟨rfl, b36⟩
    have V0_37 := (V0_30.keep b36)
    have V1_38 := (V1_31.keep b36)
    have T0_39 := (T0_32.keep b36)
    have T1_40 := (T1_33.keep b36)
    have P_41 := (P_34.keep b36)
    have cc_42 := (Below.chain cc_35 b36)
    clear V0_30 b36 V1_31 T0_32 T1_33 P_34 cc_35
    clear q0 q1 q2 q3 q4 q5 q6
    clear K4
    go_wp2_with fail
    go_ret
    exact ⟨rfl, cc_42⟩
  cases hr1 : rightE u
  case false =>
    go_enter Try.func7, Try.ntmps7
    go_wp2_with fail
    refine (shown_any _).mono ?_; rintro e w1 ⟨rfl, b1⟩
    have V0_2 := (((Vr.new w 27 (xcs x)).keep (below_a1 (w.alloc (.cells (xcs x) 27)) (.cells (xcs y) 27))).keep b1)
    have V1_3 := ((Vr.at' (w.alloc (.cells (xcs x) 27)) 27 (xcs y) (w.heap.size + 1) (by simp)).keep b1)
    have T0_4 := ((HX0.out.keep (Below.chain (Below.chain (Below.refl w.heap.size w) (below_a1 w (.cells (xcs x) 27))) (below_a1 (w.alloc (.cells (xcs x) 27)) (.cells (xcs y) 27)))).keep b1)
    have T1_5 := ((HX1.out.keep (Below.chain (Below.chain (Below.refl w.heap.size w) (below_a1 w (.cells (xcs x) 27))) (below_a1 (w.alloc (.cells (xcs x) 27)) (.cells (xcs y) 27)))).keep b1)
    have P_6 := ((HP.out.keep (Below.chain (Below.chain (Below.refl w.heap.size w) (below_a1 w (.cells (xcs x) 27))) (below_a1 (w.alloc (.cells (xcs x) 27)) (.cells (xcs y) 27)))).keep b1)
    have cc_7 := (Below.chain (Below.chain (Below.chain (Below.refl w.heap.size w) (below_a1 w (.cells (xcs x) 27))) (below_a1 (w.alloc (.cells (xcs x) 27)) (.cells (xcs y) 27))) b1)
    clear b1
    have ⟨q0, q1, q2, q3, q4, q5, q6⟩ := V0_2.cells7
    have K0 := Lib.hid (large_any t x w1 T0_4)
    rw [hl0] at K0
    go_wp2_with fail
    (with_reducible refine (K0.out).mono ?_); rintro e w8 ⟨rfl, b8⟩
    have V0_9 := (V0_2.keep b8)
    have V1_10 := (V1_3.keep b8)
    have T0_11 := (T0_4.keep b8)
    have T1_12 := (T1_5.keep b8)
    have P_13 := (P_6.keep b8)
    have cc_14 := (Below.chain cc_7 b8)
    clear V0_2 b8 V1_3 T0_4 T1_5 P_6 cc_7
    clear q0 q1 q2 q3 q4 q5 q6
    clear K0
    have ⟨q0, q1, q2, q3, q4, q5, q6⟩ := V1_10.cells7
    have K1 := Lib.hid (large_any u y w8 T1_12)
    rw [hl1] at K1
    go_wp2_with fail
    (with_reducible refine (K1.out).mono ?_); rintro e w15 ⟨rfl, b15⟩
    have V0_16 := (V0_9.keep b15)
    have V1_17 := (V1_10.keep b15)
    have T0_18 := (T0_11.keep b15)
    have T1_19 := (T1_12.keep b15)
    have P_20 := (P_13.keep b15)
    have cc_21 := (Below.chain cc_14 b15)
    clear V0_9 b15 V1_10 T0_11 T1_12 P_13 cc_14
    clear q0 q1 q2 q3 q4 q5 q6
    clear K1
    have ⟨q0, q1, q2, q3, q4, q5, q6⟩ := V0_16.cells7
    have K2 := Lib.hid (xdepth_any t x w15 T0_18)
    generalize zz2 : ((min (deep t) 51 : Nat) : Int) = z2 at *
    go_wp2_with fail
    (with_reducible refine (K2.out).mono ?_); rintro e w22 ⟨rfl, b22⟩
    have V0_23 := (V0_16.keep b22)
    have V1_24 := (V1_17.keep b22)
    have T0_25 := (T0_18.keep b22)
    have T1_26 := (T1_19.keep b22)
    have P_27 := (P_20.keep b22)
    have cc_28 := (Below.chain cc_21 b22)
    clear V0_16 b22 V1_17 T0_18 T1_19 P_20 cc_21
    clear q0 q1 q2 q3 q4 q5 q6
    clear K2
    have ⟨q0, q1, q2, q3, q4, q5, q6⟩ := V1_24.cells7
    have K3 := Lib.hid (xdepth_any u y w22 T1_26)
    generalize zz3 : ((min (deep u) 51 : Nat) : Int) = z3 at *
    go_wp2_with fail
    (with_reducible refine (K3.out).mono ?_); rintro e w29 ⟨rfl, b29⟩
    have V0_30 := (V0_23.keep b29)
    have V1_31 := (V1_24.keep b29)
    have T0_32 := (T0_25.keep b29)
    have T1_33 := (T1_26.keep b29)
    have P_34 := (P_27.keep b29)
    have cc_35 := (Below.chain cc_28 b29)
    clear V0_23 b29 V1_24 T0_25 T1_26 P_27 cc_28
    clear q0 q1 q2 q3 q4 q5 q6
    clear K3
    have ⟨q0, q1, q2, q3, q4, q5, q6⟩ := V0_30.cells7
    have K4 := Lib.hid (xright_any t x w29 T0_32)
    rw [hr0] at K4
    go_wp2_with fail
    (with_reducible refine (K4.out).mono ?_); rintro e w36 ⟨rfl, b36⟩
    have V0_37 := (V0_30.keep b36)
    have V1_38 := (V1_31.keep b36)
    have T0_39 := (T0_32.keep b36)
    have T1_40 := (T1_33.keep b36)
    have P_41 := (P_34.keep b36)
    have cc_42 := (Below.chain cc_35 b36)
    clear V0_30 b36 V1_31 T0_32 T1_33 P_34 cc_35
    clear q0 q1 q2 q3 q4 q5 q6
    clear K4
    have ⟨q0, q1, q2, q3, q4, q5, q6⟩ := V1_38.cells7
    have K5 := Lib.hid (xright_any u y w36 T1_40)
    rw [hr1] at K5
    go_wp2_with fail
    (with_reducible refine (K5.out).mono ?_); rintro e w43 ⟨rfl, b43⟩
    have V0_44 := (V0_37.keep b43)
    have V1_45 := (V1_38.keep b43)
    have T0_46 := (T0_39.keep b43)
    have T1_47 := (T1_40.keep b43)
    have P_48 := (P_41.keep b43)
    have cc_49 := (Below.chain cc_42 b43)
    clear V0_37 b43 V1_38 T0_39 T1_40 P_41 cc_42
    clear q0 q1 q2 q3 q4 q5 q6
    clear K5
    go_wp2_with fail
    go_ret
    exact ⟨rfl, cc_49⟩
  have HD0 := Lib.hid (show deep t ≤ 45 by have := of_decide_eq_false hd0; omega)
  have HD1 := Lib.hid (show deep u ≤ 45 by have := of_decide_eq_false hd1; omega)
  have HTW := Lib.hid (fun L (hL : PsOk L) => nots_twice L hL t HVK.out hr0 HD0.out)
  have HAN := Lib.hid (fun L => nots_and L t u hr0 hr1 HD0.out HD1.out)
  go_enter Try.func7, Try.ntmps7
  go_wp2_with fail
  refine (shown_any _).mono ?_; rintro e w1 ⟨rfl, b1⟩
  have V0_2 := (((Vr.new w 27 (xcs x)).keep (below_a1 (w.alloc (.cells (xcs x) 27)) (.cells (xcs y) 27))).keep b1)
  have V1_3 := ((Vr.at' (w.alloc (.cells (xcs x) 27)) 27 (xcs y) (w.heap.size + 1) (by simp)).keep b1)
  have T0_4 := ((HX0.out.keep (Below.chain (Below.chain (Below.refl w.heap.size w) (below_a1 w (.cells (xcs x) 27))) (below_a1 (w.alloc (.cells (xcs x) 27)) (.cells (xcs y) 27)))).keep b1)
  have T1_5 := ((HX1.out.keep (Below.chain (Below.chain (Below.refl w.heap.size w) (below_a1 w (.cells (xcs x) 27))) (below_a1 (w.alloc (.cells (xcs x) 27)) (.cells (xcs y) 27)))).keep b1)
  have P_6 := ((HP.out.keep (Below.chain (Below.chain (Below.refl w.heap.size w) (below_a1 w (.cells (xcs x) 27))) (below_a1 (w.alloc (.cells (xcs x) 27)) (.cells (xcs y) 27)))).keep b1)
  have cc_7 := (Below.chain (Below.chain (Below.chain (Below.refl w.heap.size w) (below_a1 w (.cells (xcs x) 27))) (below_a1 (w.alloc (.cells (xcs x) 27)) (.cells (xcs y) 27))) b1)
  clear b1
  have ⟨q0, q1, q2, q3, q4, q5, q6⟩ := V0_2.cells7
  have K0 := Lib.hid (large_any t x w1 T0_4)
  rw [hl0] at K0
  go_wp2_with fail
  (with_reducible refine (K0.out).mono ?_); rintro e w8 ⟨rfl, b8⟩
  have V0_9 := (V0_2.keep b8)
  have V1_10 := (V1_3.keep b8)
  have T0_11 := (T0_4.keep b8)
  have T1_12 := (T1_5.keep b8)
  have P_13 := (P_6.keep b8)
  have cc_14 := (Below.chain cc_7 b8)
  clear V0_2 b8 V1_3 T0_4 T1_5 P_6 cc_7
  clear q0 q1 q2 q3 q4 q5 q6
  clear K0
  have ⟨q0, q1, q2, q3, q4, q5, q6⟩ := V1_10.cells7
  have K1 := Lib.hid (large_any u y w8 T1_12)
  rw [hl1] at K1
  go_wp2_with fail
  (with_reducible refine (K1.out).mono ?_); rintro e w15 ⟨rfl, b15⟩
  have V0_16 := (V0_9.keep b15)
  have V1_17 := (V1_10.keep b15)
  have T0_18 := (T0_11.keep b15)
  have T1_19 := (T1_12.keep b15)
  have P_20 := (P_13.keep b15)
  have cc_21 := (Below.chain cc_14 b15)
  clear V0_9 b15 V1_10 T0_11 T1_12 P_13 cc_14
  clear q0 q1 q2 q3 q4 q5 q6
  clear K1
  have ⟨q0, q1, q2, q3, q4, q5, q6⟩ := V0_16.cells7
  have K2 := Lib.hid (xdepth_any t x w15 T0_18)
  generalize zz2 : ((min (deep t) 51 : Nat) : Int) = z2 at *
  go_wp2_with fail
  (with_reducible refine (K2.out).mono ?_); rintro e w22 ⟨rfl, b22⟩
  have V0_23 := (V0_16.keep b22)
  have V1_24 := (V1_17.keep b22)
  have T0_25 := (T0_18.keep b22)
  have T1_26 := (T1_19.keep b22)
  have P_27 := (P_20.keep b22)
  have cc_28 := (Below.chain cc_21 b22)
  clear V0_16 b22 V1_17 T0_18 T1_19 P_20 cc_21
  clear q0 q1 q2 q3 q4 q5 q6
  clear K2
  have ⟨q0, q1, q2, q3, q4, q5, q6⟩ := V1_24.cells7
  have K3 := Lib.hid (xdepth_any u y w22 T1_26)
  generalize zz3 : ((min (deep u) 51 : Nat) : Int) = z3 at *
  go_wp2_with fail
  (with_reducible refine (K3.out).mono ?_); rintro e w29 ⟨rfl, b29⟩
  have V0_30 := (V0_23.keep b29)
  have V1_31 := (V1_24.keep b29)
  have T0_32 := (T0_25.keep b29)
  have T1_33 := (T1_26.keep b29)
  have P_34 := (P_27.keep b29)
  have cc_35 := (Below.chain cc_28 b29)
  clear V0_23 b29 V1_24 T0_25 T1_26 P_27 cc_28
  clear q0 q1 q2 q3 q4 q5 q6
  clear K3
  have ⟨q0, q1, q2, q3, q4, q5, q6⟩ := V0_30.cells7
  have K4 := Lib.hid (xright_any t x w29 T0_32)
  rw [hr0] at K4
  go_wp2_with fail
  (with_reducible refine (K4.out).mono ?_); rintro e w36 ⟨rfl, b36⟩
  have V0_37 := (V0_30.keep b36)
  have V1_38 := (V1_31.keep b36)
  have T0_39 := (T0_32.keep b36)
  have T1_40 := (T1_33.keep b36)
  have P_41 := (P_34.keep b36)
  have cc_42 := (Below.chain cc_35 b36)
  clear V0_30 b36 V1_31 T0_32 T1_33 P_34 cc_35
  clear q0 q1 q2 q3 q4 q5 q6
  clear K4
  have ⟨q0, q1, q2, q3, q4, q5, q6⟩ := V1_38.cells7
  have K5 := Lib.hid (xright_any u y w36 T1_40)
  rw [hr1] at K5
  go_wp2_with fail
  (with_reducible refine (K5.out).mono ?_); rintro e w43 ⟨rfl, b43⟩
  have V0_44 := (V0_37.keep b43)
  have V1_45 := (V1_38.keep b43)
  have T0_46 := (T0_39.keep b43)
  have T1_47 := (T1_40.keep b43)
  have P_48 := (P_41.keep b43)
  have cc_49 := (Below.chain cc_42 b43)
  clear V0_37 b43 V1_38 T0_39 T1_40 P_41 cc_42
  clear q0 q1 q2 q3 q4 q5 q6
  clear K5
  go_wp2_with fail
  (with_reducible refine (few_any _ l _ P_48 HOK.out).mono ?_); rintro e w50 ⟨v50, rfl, o50, b50⟩
  have V0_51 := (V0_44.keep b50)
  have V1_52 := (V1_45.keep b50)
  have T0_53 := (T0_46.keep b50)
  have T1_54 := (T1_47.keep b50)
  have P_55 := o50.rw
  have cc_56 := (Below.chain cc_49 b50)
  clear V0_44 b50 V1_45 T0_46 T1_47 cc_49
  clear o50
  generalize (l.take 100).map fixP = L at *
  have TW := Lib.hid (HTW.out L HLK.out)
  have AN := Lib.hid (HAN.out L)
  have OKn := Lib.hid (evalR_ok HLK.out (t := opE sNot [opE sNot [t]]) (by rintro _ _ _ _ ⟨⟩; exact zero_ok))
  have OKd := Lib.hid (evalR_ok HLK.out (t := t) HVK.out)
  have OKa := Lib.hid (evalR_ok HLK.out (t := opE sNot [opE sAnd [t, u]]) (by rintro _ _ _ _ ⟨⟩; exact zero_ok))
  clear HTW HAN
  have ⟨q0, q1, q2, q3, q4, q5, q6⟩ := V0_51.cells7
  go_wp2_with fail
  have t57 := ten1 w50 x _ T0_53
  (with_reducible refine (op_any sNot _ _ [x] _ t57.1 t57.2 (by simp)).mono ?_); rintro e w57 ⟨x57, rfl, h57, b57⟩
  have V0_58 := ((V0_51.keep (below_a1 w50 _)).keep b57)
  have V1_59 := ((V1_52.keep (below_a1 w50 _)).keep b57)
  have T0_60 := ((T0_53.keep (below_a1 w50 _)).keep b57)
  have T1_61 := ((T1_54.keep (below_a1 w50 _)).keep b57)
  have P_62 := ((P_55.keep (below_a1 w50 _)).keep b57)
  have A_63 := h57
  have cc_64 := (Below.chain (Below.chain cc_56 (below_a1 w50 _)) b57)
  clear V0_51 b57 V1_52 T0_53 T1_54 P_55 h57 cc_56
  go_wp2_with fail
  clear q0 q1 q2 q3 q4 q5 q6
  have t65 := ten1 w57 x57 _ A_63
  (with_reducible refine (op_any sNot _ _ [x57] _ t65.1 t65.2 (by simp)).mono ?_); rintro e w65 ⟨x65, rfl, h65, b65⟩
  have V0_66 := ((V0_58.keep (below_a1 w57 _)).keep b65)
  have V1_67 := ((V1_59.keep (below_a1 w57 _)).keep b65)
  have T0_68 := ((T0_60.keep (below_a1 w57 _)).keep b65)
  have T1_69 := ((T1_61.keep (below_a1 w57 _)).keep b65)
  have P_70 := ((P_62.keep (below_a1 w57 _)).keep b65)
  have A_71 := ((A_63.keep (below_a1 w57 _)).keep b65)
  have B_72 := h65
  have cc_73 := (Below.chain (Below.chain cc_64 (below_a1 w57 _)) b65)
  clear V0_58 b65 V1_59 T0_60 T1_61 P_62 A_63 h65 cc_64
  go_wp2_with fail
  have E74 := Lib.hid (xeval_any _ x65 _ L _ B_72 P_70 HLK.out)
  generalize hrA : evalR L (opE sNot [opE sNot [t]]) = rA at *
  obtain ⟨⟨ak, an, af, sa⟩, ae⟩ := rA
  dsimp only at E74 OKn
  (with_reducible refine (E74.out).mono ?_); rintro e w74 ⟨rfl, b74⟩
  clear E74
  have V0_75 := ((V0_66.keep b74).keep (below_a1 w74 (.cells #[.int .i64 ak, .int .i64 an, .float .f64 af, .string sa] 24)))
  have V1_76 := ((V1_67.keep b74).keep (below_a1 w74 (.cells #[.int .i64 ak, .int .i64 an, .float .f64 af, .string sa] 24)))
  have T0_77 := ((T0_68.keep b74).keep (below_a1 w74 (.cells #[.int .i64 ak, .int .i64 an, .float .f64 af, .string sa] 24)))
  have T1_78 := ((T1_69.keep b74).keep (below_a1 w74 (.cells #[.int .i64 ak, .int .i64 an, .float .f64 af, .string sa] 24)))
  have P_79 := ((P_70.keep b74).keep (below_a1 w74 (.cells #[.int .i64 ak, .int .i64 an, .float .f64 af, .string sa] 24)))
  have cc_80 := (Below.chain (Below.chain cc_73 b74) (below_a1 w74 (.cells #[.int .i64 ak, .int .i64 an, .float .f64 af, .string sa] 24)))
  clear V0_66 b74 V1_67 T0_68 T1_69 P_70 cc_73
  have V0_81 := V0_75
  have V1_82 := V1_76
  have T0_83 := T0_77
  have T1_84 := T1_78
  have P_85 := P_79
  have A_86 := (lies_new w74 (.int .i64 ak) (.int .i64 an) (.float .f64 af) (.string sa) 24)
  have cc_87 := cc_80
  clear V0_75 V1_76 T0_77 T1_78 P_79 cc_80
  go_upto_region 6 with fail
  generalize hW88 : w74.alloc (.cells #[.int .i64 ak, .int .i64 an, .float .f64 af, .string sa] 24) = W88 at *
  clear hW88
  have ⟨q0, q1, q2, q3, q4, q5, q6⟩ := V0_81.cells7
  go_wp2_with fail
  have E89 := Lib.hid (xeval_any t x _ L _ T0_83 P_85 HLK.out)
  generalize hrB : evalR L t = rB at *
  obtain ⟨⟨bk, bn, bf, bs⟩, be⟩ := rB
  dsimp only at E89 OKd
  (with_reducible refine (E89.out).mono ?_); rintro e w89 ⟨rfl, b89⟩
  clear E89
  have V0_90 := ((V0_81.keep b89).keep (below_a1 w89 (.cells #[.int .i64 bk, .int .i64 bn, .float .f64 bf, .string bs] 24)))
  have V1_91 := ((V1_82.keep b89).keep (below_a1 w89 (.cells #[.int .i64 bk, .int .i64 bn, .float .f64 bf, .string bs] 24)))
  have T0_92 := ((T0_83.keep b89).keep (below_a1 w89 (.cells #[.int .i64 bk, .int .i64 bn, .float .f64 bf, .string bs] 24)))
  have T1_93 := ((T1_84.keep b89).keep (below_a1 w89 (.cells #[.int .i64 bk, .int .i64 bn, .float .f64 bf, .string bs] 24)))
  have P_94 := ((P_85.keep b89).keep (below_a1 w89 (.cells #[.int .i64 bk, .int .i64 bn, .float .f64 bf, .string bs] 24)))
  have A_95 := ((A_86.keep b89).keep (below_a1 w89 (.cells #[.int .i64 bk, .int .i64 bn, .float .f64 bf, .string bs] 24)))
  have cc_96 := (Below.chain (Below.chain cc_87 b89) (below_a1 w89 (.cells #[.int .i64 bk, .int .i64 bn, .float .f64 bf, .string bs] 24)))
  clear V0_81 b89 V1_82 T0_83 T1_84 P_85 A_86 cc_87
  have V0_97 := V0_90
  have V1_98 := V1_91
  have T0_99 := T0_92
  have T1_100 := T1_93
  have P_101 := P_94
  have A_102 := A_95
  have B_103 := (lies_new w89 (.int .i64 bk) (.int .i64 bn) (.float .f64 bf) (.string bs) 24)
  have cc_104 := cc_96
  clear V0_90 V1_91 T0_92 T1_93 P_94 A_95 cc_96
  go_upto_region 7 with fail
  generalize hW105 : w89.alloc (.cells #[.int .i64 bk, .int .i64 bn, .float .f64 bf, .string bs] 24) = W105 at *
  clear hW105
  clear q0 q1 q2 q3 q4 q5 q6
  have ⟨q0, q1, q2, q3, q4, q5, q6⟩ := V0_97.cells7
  have ⟨p0, p1, p2, p3, p4, p5, p6⟩ := V1_98.cells7
  go_wp2_with fail
  have t106 := ten W105 x y _ _ T0_99 T1_100
  (with_reducible refine (op_any sAnd _ _ [x, y] _ t106.1 t106.2 (by simp)).mono ?_); rintro e w106 ⟨x106, rfl, h106, b106⟩
  have V0_107 := ((V0_97.keep (below_a1 W105 _)).keep b106)
  have V1_108 := ((V1_98.keep (below_a1 W105 _)).keep b106)
  have T0_109 := ((T0_99.keep (below_a1 W105 _)).keep b106)
  have T1_110 := ((T1_100.keep (below_a1 W105 _)).keep b106)
  have P_111 := ((P_101.keep (below_a1 W105 _)).keep b106)
  have A_112 := ((A_102.keep (below_a1 W105 _)).keep b106)
  have B_113 := ((B_103.keep (below_a1 W105 _)).keep b106)
  have C_114 := h106
  have cc_115 := (Below.chain (Below.chain cc_104 (below_a1 W105 _)) b106)
  clear V0_97 b106 V1_98 T0_99 T1_100 P_101 A_102 B_103 h106 cc_104
  go_wp2_with fail
  clear q0 q1 q2 q3 q4 q5 q6
  clear p0 p1 p2 p3 p4 p5 p6
  have t116 := ten1 w106 x106 _ C_114
  (with_reducible refine (op_any sNot _ _ [x106] _ t116.1 t116.2 (by simp)).mono ?_); rintro e w116 ⟨x116, rfl, h116, b116⟩
  have V0_117 := ((V0_107.keep (below_a1 w106 _)).keep b116)
  have V1_118 := ((V1_108.keep (below_a1 w106 _)).keep b116)
  have T0_119 := ((T0_109.keep (below_a1 w106 _)).keep b116)
  have T1_120 := ((T1_110.keep (below_a1 w106 _)).keep b116)
  have P_121 := ((P_111.keep (below_a1 w106 _)).keep b116)
  have A_122 := ((A_112.keep (below_a1 w106 _)).keep b116)
  have B_123 := ((B_113.keep (below_a1 w106 _)).keep b116)
  have C_124 := ((C_114.keep (below_a1 w106 _)).keep b116)
  have D_125 := h116
  have cc_126 := (Below.chain (Below.chain cc_115 (below_a1 w106 _)) b116)
  clear V0_107 b116 V1_108 T0_109 T1_110 P_111 A_112 B_113 C_114 h116 cc_115
  go_wp2_with fail
  have E127 := Lib.hid (xeval_any _ x116 _ L _ D_125 P_121 HLK.out)
  have AN2 := Lib.hid AN.out.symm
  generalize hrC : evalR L (opE sNot [opE sAnd [t, u]]) = rC at *
  obtain ⟨⟨ck, cn, cf, cs⟩, ce⟩ := rC
  dsimp only at E127 OKa
  (with_reducible refine (E127.out).mono ?_); rintro e w127 ⟨rfl, b127⟩
  clear E127
  have V0_128 := ((V0_117.keep b127).keep (below_a1 w127 (.cells #[.int .i64 ck, .int .i64 cn, .float .f64 cf, .string cs] 24)))
  have V1_129 := ((V1_118.keep b127).keep (below_a1 w127 (.cells #[.int .i64 ck, .int .i64 cn, .float .f64 cf, .string cs] 24)))
  have T0_130 := ((T0_119.keep b127).keep (below_a1 w127 (.cells #[.int .i64 ck, .int .i64 cn, .float .f64 cf, .string cs] 24)))
  have T1_131 := ((T1_120.keep b127).keep (below_a1 w127 (.cells #[.int .i64 ck, .int .i64 cn, .float .f64 cf, .string cs] 24)))
  have P_132 := ((P_121.keep b127).keep (below_a1 w127 (.cells #[.int .i64 ck, .int .i64 cn, .float .f64 cf, .string cs] 24)))
  have A_133 := ((A_122.keep b127).keep (below_a1 w127 (.cells #[.int .i64 ck, .int .i64 cn, .float .f64 cf, .string cs] 24)))
  have B_134 := ((B_123.keep b127).keep (below_a1 w127 (.cells #[.int .i64 ck, .int .i64 cn, .float .f64 cf, .string cs] 24)))
  have cc_135 := (Below.chain (Below.chain cc_126 b127) (below_a1 w127 (.cells #[.int .i64 ck, .int .i64 cn, .float .f64 cf, .string cs] 24)))
  clear V0_117 b127 V1_118 T0_119 T1_120 P_121 A_122 B_123 cc_126
  have V0_136 := V0_128
  have V1_137 := V1_129
  have T0_138 := T0_130
  have T1_139 := T1_131
  have P_140 := P_132
  have A_141 := A_133
  have B_142 := B_134
  have C_143 := (lies_new w127 (.int .i64 ck) (.int .i64 cn) (.float .f64 cf) (.string cs) 24)
  have cc_144 := cc_135
  clear V0_128 V1_129 T0_130 T1_131 P_132 A_133 B_134 cc_135
  go_upto_region 8 with fail
  generalize hW145 : w127.alloc (.cells #[.int .i64 ck, .int .i64 cn, .float .f64 cf, .string cs] 24) = W145 at *
  clear hW145
  skip
  go_cut [14, 15] (fun s14 s15 wx => ∃ gg, s14 = .pointer (some ⟨gg, 0, none⟩) ∧ s15 = .int .i64 ce ∧ Lies wx gg (.int .i64 ck) (.int .i64 cn) (.float .f64 cf) (.string cs) ∧ Below W145.heap.size W145 wx)
  case first =>
    have V0h := Lib.hid V0_136
    have V1h := Lib.hid V1_137
    have T0h := Lib.hid T0_138
    have T1h := Lib.hid T1_139
    have Ph := Lib.hid P_140
    clear A_141 B_142 C_143 P_140 T0_138 T1_139 V0_136 V1_137 cc_144
    clear TW AN OKn OKd OKa HVK HD0 HD1 hr0 hr1 HX0 HX1 HP HOK hl0 hl1 hd0 hd1 hrA hrB hrC
    have B_a0 := Lib.hid (show Below W145.heap.size W145 (W145.alloc (.cells (xcs x) 27)).drew from bl_dr (bl_al (Below.refl _ _)))
    have V_a0_a0 := Lib.hid (show Vr (W145.alloc (.cells (xcs x) 27)).drew (W145.heap.size) 27 (xcs x) from Vr.dr (Vr.at' _ _ _ _ (by simp)))
    have B_a0_a1 := Lib.hid (show Below W145.heap.size W145 ((W145.alloc (.cells (xcs x) 27)).alloc (.cells (xcs y) 27)).drew from bl_dr (bl_al (bl_al (Below.refl _ _))))
    have V_a0_a1_a0 := Lib.hid (show Vr ((W145.alloc (.cells (xcs x) 27)).alloc (.cells (xcs y) 27)).drew (W145.heap.size) 27 (xcs x) from Vr.dr (Vr.al (Vr.at' _ _ _ _ (by simp))))
    have V_a0_a1_a1 := Lib.hid (show Vr ((W145.alloc (.cells (xcs x) 27)).alloc (.cells (xcs y) 27)).drew (W145.heap.size + 1) 27 (xcs y) from Vr.dr (Vr.at' _ _ _ _ (by simp)))
    have B_a0_z := Lib.hid (show Below W145.heap.size W145 ((W145.alloc (.cells (xcs x) 27)).alloc (.cells #[.int .i64 0, .int .i64 0, .float .f64 0, .string ⟨#[]⟩] 24)).drew from bl_dr (bl_al (bl_al (Below.refl _ _))))
    have V_a0_z_a0 := Lib.hid (show Vr ((W145.alloc (.cells (xcs x) 27)).alloc (.cells #[.int .i64 0, .int .i64 0, .float .f64 0, .string ⟨#[]⟩] 24)).drew (W145.heap.size) 27 (xcs x) from Vr.dr (Vr.al (Vr.at' _ _ _ _ (by simp))))
    have V_a0_z_z := Lib.hid (show Vr ((W145.alloc (.cells (xcs x) 27)).alloc (.cells #[.int .i64 0, .int .i64 0, .float .f64 0, .string ⟨#[]⟩] 24)).drew (W145.heap.size + 1) 24 #[.int .i64 0, .int .i64 0, .float .f64 0, .string ⟨#[]⟩] from Vr.dr (Vr.at' _ _ _ _ (by simp)))
    have B_a1_a0 := Lib.hid (show Below W145.heap.size W145 ((W145.alloc (.cells (xcs y) 27)).alloc (.cells (xcs x) 27)).drew from bl_dr (bl_al (bl_al (Below.refl _ _))))
    have V_a1_a0_a1 := Lib.hid (show Vr ((W145.alloc (.cells (xcs y) 27)).alloc (.cells (xcs x) 27)).drew (W145.heap.size) 27 (xcs y) from Vr.dr (Vr.al (Vr.at' _ _ _ _ (by simp))))
    have V_a1_a0_a0 := Lib.hid (show Vr ((W145.alloc (.cells (xcs y) 27)).alloc (.cells (xcs x) 27)).drew (W145.heap.size + 1) 27 (xcs x) from Vr.dr (Vr.at' _ _ _ _ (by simp)))
    have B_z_a0 := Lib.hid (show Below W145.heap.size W145 ((W145.alloc (.cells #[.int .i64 0, .int .i64 0, .float .f64 0, .string ⟨#[]⟩] 24)).alloc (.cells (xcs x) 27)).drew from bl_dr (bl_al (bl_al (Below.refl _ _))))
    have V_z_a0_z := Lib.hid (show Vr ((W145.alloc (.cells #[.int .i64 0, .int .i64 0, .float .f64 0, .string ⟨#[]⟩] 24)).alloc (.cells (xcs x) 27)).drew (W145.heap.size) 24 #[.int .i64 0, .int .i64 0, .float .f64 0, .string ⟨#[]⟩] from Vr.dr (Vr.al (Vr.at' _ _ _ _ (by simp))))
    have V_z_a0_a0 := Lib.hid (show Vr ((W145.alloc (.cells #[.int .i64 0, .int .i64 0, .float .f64 0, .string ⟨#[]⟩] 24)).alloc (.cells (xcs x) 27)).drew (W145.heap.size + 1) 27 (xcs x) from Vr.dr (Vr.at' _ _ _ _ (by simp)))
    have B_a0_a1_z := Lib.hid (show Below W145.heap.size W145 (((W145.alloc (.cells (xcs x) 27)).alloc (.cells (xcs y) 27)).alloc (.cells #[.int .i64 0, .int .i64 0, .float .f64 0, .string ⟨#[]⟩] 24)).drew from bl_dr (bl_al (bl_al (bl_al (Below.refl _ _)))))
    have V_a0_a1_z_a0 := Lib.hid (show Vr (((W145.alloc (.cells (xcs x) 27)).alloc (.cells (xcs y) 27)).alloc (.cells #[.int .i64 0, .int .i64 0, .float .f64 0, .string ⟨#[]⟩] 24)).drew (W145.heap.size) 27 (xcs x) from Vr.dr (Vr.al (Vr.al (Vr.at' _ _ _ _ (by simp)))))
    have V_a0_a1_z_a1 := Lib.hid (show Vr (((W145.alloc (.cells (xcs x) 27)).alloc (.cells (xcs y) 27)).alloc (.cells #[.int .i64 0, .int .i64 0, .float .f64 0, .string ⟨#[]⟩] 24)).drew (W145.heap.size + 1) 27 (xcs y) from Vr.dr (Vr.al (Vr.at' _ _ _ _ (by simp))))
    have V_a0_a1_z_z := Lib.hid (show Vr (((W145.alloc (.cells (xcs x) 27)).alloc (.cells (xcs y) 27)).alloc (.cells #[.int .i64 0, .int .i64 0, .float .f64 0, .string ⟨#[]⟩] 24)).drew (W145.heap.size + 1 + 1) 24 #[.int .i64 0, .int .i64 0, .float .f64 0, .string ⟨#[]⟩] from Vr.dr (Vr.at' _ _ _ _ (by simp)))
    have B_a0_z_a1 := Lib.hid (show Below W145.heap.size W145 (((W145.alloc (.cells (xcs x) 27)).alloc (.cells #[.int .i64 0, .int .i64 0, .float .f64 0, .string ⟨#[]⟩] 24)).alloc (.cells (xcs y) 27)).drew from bl_dr (bl_al (bl_al (bl_al (Below.refl _ _)))))
    have V_a0_z_a1_a0 := Lib.hid (show Vr (((W145.alloc (.cells (xcs x) 27)).alloc (.cells #[.int .i64 0, .int .i64 0, .float .f64 0, .string ⟨#[]⟩] 24)).alloc (.cells (xcs y) 27)).drew (W145.heap.size) 27 (xcs x) from Vr.dr (Vr.al (Vr.al (Vr.at' _ _ _ _ (by simp)))))
    have V_a0_z_a1_z := Lib.hid (show Vr (((W145.alloc (.cells (xcs x) 27)).alloc (.cells #[.int .i64 0, .int .i64 0, .float .f64 0, .string ⟨#[]⟩] 24)).alloc (.cells (xcs y) 27)).drew (W145.heap.size + 1) 24 #[.int .i64 0, .int .i64 0, .float .f64 0, .string ⟨#[]⟩] from Vr.dr (Vr.al (Vr.at' _ _ _ _ (by simp))))
    have V_a0_z_a1_a1 := Lib.hid (show Vr (((W145.alloc (.cells (xcs x) 27)).alloc (.cells #[.int .i64 0, .int .i64 0, .float .f64 0, .string ⟨#[]⟩] 24)).alloc (.cells (xcs y) 27)).drew (W145.heap.size + 1 + 1) 27 (xcs y) from Vr.dr (Vr.at' _ _ _ _ (by simp)))
    have B_a1_a0_z := Lib.hid (show Below W145.heap.size W145 (((W145.alloc (.cells (xcs y) 27)).alloc (.cells (xcs x) 27)).alloc (.cells #[.int .i64 0, .int .i64 0, .float .f64 0, .string ⟨#[]⟩] 24)).drew from bl_dr (bl_al (bl_al (bl_al (Below.refl _ _)))))
    have V_a1_a0_z_a1 := Lib.hid (show Vr (((W145.alloc (.cells (xcs y) 27)).alloc (.cells (xcs x) 27)).alloc (.cells #[.int .i64 0, .int .i64 0, .float .f64 0, .string ⟨#[]⟩] 24)).drew (W145.heap.size) 27 (xcs y) from Vr.dr (Vr.al (Vr.al (Vr.at' _ _ _ _ (by simp)))))
    have V_a1_a0_z_a0 := Lib.hid (show Vr (((W145.alloc (.cells (xcs y) 27)).alloc (.cells (xcs x) 27)).alloc (.cells #[.int .i64 0, .int .i64 0, .float .f64 0, .string ⟨#[]⟩] 24)).drew (W145.heap.size + 1) 27 (xcs x) from Vr.dr (Vr.al (Vr.at' _ _ _ _ (by simp))))
    have V_a1_a0_z_z := Lib.hid (show Vr (((W145.alloc (.cells (xcs y) 27)).alloc (.cells (xcs x) 27)).alloc (.cells #[.int .i64 0, .int .i64 0, .float .f64 0, .string ⟨#[]⟩] 24)).drew (W145.heap.size + 1 + 1) 24 #[.int .i64 0, .int .i64 0, .float .f64 0, .string ⟨#[]⟩] from Vr.dr (Vr.at' _ _ _ _ (by simp)))
    have B_a1_z_a0 := Lib.hid (show Below W145.heap.size W145 (((W145.alloc (.cells (xcs y) 27)).alloc (.cells #[.int .i64 0, .int .i64 0, .float .f64 0, .string ⟨#[]⟩] 24)).alloc (.cells (xcs x) 27)).drew from bl_dr (bl_al (bl_al (bl_al (Below.refl _ _)))))
    have V_a1_z_a0_a1 := Lib.hid (show Vr (((W145.alloc (.cells (xcs y) 27)).alloc (.cells #[.int .i64 0, .int .i64 0, .float .f64 0, .string ⟨#[]⟩] 24)).alloc (.cells (xcs x) 27)).drew (W145.heap.size) 27 (xcs y) from Vr.dr (Vr.al (Vr.al (Vr.at' _ _ _ _ (by simp)))))
    have V_a1_z_a0_z := Lib.hid (show Vr (((W145.alloc (.cells (xcs y) 27)).alloc (.cells #[.int .i64 0, .int .i64 0, .float .f64 0, .string ⟨#[]⟩] 24)).alloc (.cells (xcs x) 27)).drew (W145.heap.size + 1) 24 #[.int .i64 0, .int .i64 0, .float .f64 0, .string ⟨#[]⟩] from Vr.dr (Vr.al (Vr.at' _ _ _ _ (by simp))))
    have V_a1_z_a0_a0 := Lib.hid (show Vr (((W145.alloc (.cells (xcs y) 27)).alloc (.cells #[.int .i64 0, .int .i64 0, .float .f64 0, .string ⟨#[]⟩] 24)).alloc (.cells (xcs x) 27)).drew (W145.heap.size + 1 + 1) 27 (xcs x) from Vr.dr (Vr.at' _ _ _ _ (by simp)))
    have B_z_a0_a1 := Lib.hid (show Below W145.heap.size W145 (((W145.alloc (.cells #[.int .i64 0, .int .i64 0, .float .f64 0, .string ⟨#[]⟩] 24)).alloc (.cells (xcs x) 27)).alloc (.cells (xcs y) 27)).drew from bl_dr (bl_al (bl_al (bl_al (Below.refl _ _)))))
    have V_z_a0_a1_z := Lib.hid (show Vr (((W145.alloc (.cells #[.int .i64 0, .int .i64 0, .float .f64 0, .string ⟨#[]⟩] 24)).alloc (.cells (xcs x) 27)).alloc (.cells (xcs y) 27)).drew (W145.heap.size) 24 #[.int .i64 0, .int .i64 0, .float .f64 0, .string ⟨#[]⟩] from Vr.dr (Vr.al (Vr.al (Vr.at' _ _ _ _ (by simp)))))
    have V_z_a0_a1_a0 := Lib.hid (show Vr (((W145.alloc (.cells #[.int .i64 0, .int .i64 0, .float .f64 0, .string ⟨#[]⟩] 24)).alloc (.cells (xcs x) 27)).alloc (.cells (xcs y) 27)).drew (W145.heap.size + 1) 27 (xcs x) from Vr.dr (Vr.al (Vr.at' _ _ _ _ (by simp))))
    have V_z_a0_a1_a1 := Lib.hid (show Vr (((W145.alloc (.cells #[.int .i64 0, .int .i64 0, .float .f64 0, .string ⟨#[]⟩] 24)).alloc (.cells (xcs x) 27)).alloc (.cells (xcs y) 27)).drew (W145.heap.size + 1 + 1) 27 (xcs y) from Vr.dr (Vr.at' _ _ _ _ (by simp)))
    have B_z_a1_a0 := Lib.hid (show Below W145.heap.size W145 (((W145.alloc (.cells #[.int .i64 0, .int .i64 0, .float .f64 0, .string ⟨#[]⟩] 24)).alloc (.cells (xcs y) 27)).alloc (.cells (xcs x) 27)).drew from bl_dr (bl_al (bl_al (bl_al (Below.refl _ _)))))
    have V_z_a1_a0_z := Lib.hid (show Vr (((W145.alloc (.cells #[.int .i64 0, .int .i64 0, .float .f64 0, .string ⟨#[]⟩] 24)).alloc (.cells (xcs y) 27)).alloc (.cells (xcs x) 27)).drew (W145.heap.size) 24 #[.int .i64 0, .int .i64 0, .float .f64 0, .string ⟨#[]⟩] from Vr.dr (Vr.al (Vr.al (Vr.at' _ _ _ _ (by simp)))))
    have V_z_a1_a0_a1 := Lib.hid (show Vr (((W145.alloc (.cells #[.int .i64 0, .int .i64 0, .float .f64 0, .string ⟨#[]⟩] 24)).alloc (.cells (xcs y) 27)).alloc (.cells (xcs x) 27)).drew (W145.heap.size + 1) 27 (xcs y) from Vr.dr (Vr.al (Vr.at' _ _ _ _ (by simp))))
    have V_z_a1_a0_a0 := Lib.hid (show Vr (((W145.alloc (.cells #[.int .i64 0, .int .i64 0, .float .f64 0, .string ⟨#[]⟩] 24)).alloc (.cells (xcs y) 27)).alloc (.cells (xcs x) 27)).drew (W145.heap.size + 1 + 1) 27 (xcs x) from Vr.dr (Vr.at' _ _ _ _ (by simp)))
    go_region_held3 (fun w' => (w'.cell? ⟨w.heap.size, 0, none⟩ = some (.int .i64 x.kind) ∧ w'.cell? ⟨w.heap.size, 1, none⟩ = some (.string x.name) ∧ w'.cell? ⟨w.heap.size, 2, none⟩ = some (.int .i64 x.v.k) ∧ w'.cell? ⟨w.heap.size, 3, none⟩ = some (.int .i64 x.v.n) ∧ w'.cell? ⟨w.heap.size, 4, none⟩ = some (.float .f64 x.v.f) ∧ w'.cell? ⟨w.heap.size, 5, none⟩ = some (.string x.v.s) ∧ w'.cell? ⟨w.heap.size, 6, none⟩ = some (.slice x.ao x.len x.cap)) ∧ w'.cell? ⟨w.heap.size + 1, 0, none⟩ = some (.int .i64 y.kind) ∧ w'.cell? ⟨w.heap.size + 1, 1, none⟩ = some (.string y.name) ∧ w'.cell? ⟨w.heap.size + 1, 2, none⟩ = some (.int .i64 y.v.k) ∧ w'.cell? ⟨w.heap.size + 1, 3, none⟩ = some (.int .i64 y.v.n) ∧ w'.cell? ⟨w.heap.size + 1, 4, none⟩ = some (.float .f64 y.v.f) ∧ w'.cell? ⟨w.heap.size + 1, 5, none⟩ = some (.string y.v.s) ∧ w'.cell? ⟨w.heap.size + 1, 6, none⟩ = some (.slice y.ao y.len y.cap))
      ((refine k14 V0h.out V1h.out ?_; (with_reducible first | exact bl_dr (Below.refl _ _) | exact bl_dr (bl_al (Below.refl _ _)) | exact bl_dr (bl_al (bl_al (Below.refl _ _))) | exact bl_dr (bl_al (bl_al (bl_al (Below.refl _ _)))) | exact dG | exact bl_al dG | exact below_set4 dG (by have := dF.size; have := dD.size; have := dB.size; omega) _ _ _ _ | exact dF | exact bl_al dF | exact bl_al (bl_al dF) | exact dD | exact bl_al dD | exact bl_al (bl_al dD) | exact dB | exact bl_al dB | exact bl_al (bl_al dB))))
      (first
        | (go_simp; go_at_call 17; first
            | ((with_reducible refine (op1 sNot t x _ V_a0_a0.out (T0h.out.keep B_a0.out)).mono ?_); rintro e wa ⟨xa, rfl, ha, ba⟩; have dB := Below.chain B_a0.out ba)
            | ((with_reducible refine (op1 sNot t x _ V_a0_a1_a0.out (T0h.out.keep B_a0_a1.out)).mono ?_); rintro e wa ⟨xa, rfl, ha, ba⟩; have dB := Below.chain B_a0_a1.out ba; have vc := V_a0_a1_a1.out.keep ba)
            | ((with_reducible refine (op1 sNot t x _ V_a0_z_a0.out (T0h.out.keep B_a0_z.out)).mono ?_); rintro e wa ⟨xa, rfl, ha, ba⟩; have dB := Below.chain B_a0_z.out ba; have vz := V_a0_z_z.out.keep ba)
            | ((with_reducible refine (op1 sNot t x _ V_a1_a0_a0.out (T0h.out.keep B_a1_a0.out)).mono ?_); rintro e wa ⟨xa, rfl, ha, ba⟩; have dB := Below.chain B_a1_a0.out ba; have vc := V_a1_a0_a1.out.keep ba)
            | ((with_reducible refine (op1 sNot t x _ V_z_a0_a0.out (T0h.out.keep B_z_a0.out)).mono ?_); rintro e wa ⟨xa, rfl, ha, ba⟩; have dB := Below.chain B_z_a0.out ba; have vz := V_z_a0_z.out.keep ba)
            | ((with_reducible refine (op1 sNot t x _ V_a0_a1_z_a0.out (T0h.out.keep B_a0_a1_z.out)).mono ?_); rintro e wa ⟨xa, rfl, ha, ba⟩; have dB := Below.chain B_a0_a1_z.out ba; have vc := V_a0_a1_z_a1.out.keep ba; have vz := V_a0_a1_z_z.out.keep ba)
            | ((with_reducible refine (op1 sNot t x _ V_a0_z_a1_a0.out (T0h.out.keep B_a0_z_a1.out)).mono ?_); rintro e wa ⟨xa, rfl, ha, ba⟩; have dB := Below.chain B_a0_z_a1.out ba; have vc := V_a0_z_a1_a1.out.keep ba; have vz := V_a0_z_a1_z.out.keep ba)
            | ((with_reducible refine (op1 sNot t x _ V_a1_a0_z_a0.out (T0h.out.keep B_a1_a0_z.out)).mono ?_); rintro e wa ⟨xa, rfl, ha, ba⟩; have dB := Below.chain B_a1_a0_z.out ba; have vc := V_a1_a0_z_a1.out.keep ba; have vz := V_a1_a0_z_z.out.keep ba)
            | ((with_reducible refine (op1 sNot t x _ V_a1_z_a0_a0.out (T0h.out.keep B_a1_z_a0.out)).mono ?_); rintro e wa ⟨xa, rfl, ha, ba⟩; have dB := Below.chain B_a1_z_a0.out ba; have vc := V_a1_z_a0_a1.out.keep ba; have vz := V_a1_z_a0_z.out.keep ba)
            | ((with_reducible refine (op1 sNot t x _ V_z_a0_a1_a0.out (T0h.out.keep B_z_a0_a1.out)).mono ?_); rintro e wa ⟨xa, rfl, ha, ba⟩; have dB := Below.chain B_z_a0_a1.out ba; have vc := V_z_a0_a1_a1.out.keep ba; have vz := V_z_a0_a1_z.out.keep ba)
            | ((with_reducible refine (op1 sNot t x _ V_z_a1_a0_a0.out (T0h.out.keep B_z_a1_a0.out)).mono ?_); rintro e wa ⟨xa, rfl, ha, ba⟩; have dB := Below.chain B_z_a1_a0.out ba; have vc := V_z_a1_a0_a1.out.keep ba; have vz := V_z_a1_a0_z.out.keep ba)
            | ((with_reducible refine (op1 sNot u y _ vc (T1h.out.keep dB)).mono ?_); rintro e wb ⟨xb, rfl, hb, bb⟩; have dD := Below.chain dB bb; have ha2 := ha.keep bb; try (have vz := vz.keep bb))
            | ((with_reducible refine (op1 sNot u y _ (vc.keep (below_a1 wa (.cells #[.int .i64 0, .int .i64 0, .float .f64 0, .string ⟨#[]⟩] 24))) (T1h.out.keep (bl_al (o := (.cells #[.int .i64 0, .int .i64 0, .float .f64 0, .string ⟨#[]⟩] 24)) dB))).mono ?_); rintro e wb ⟨xb, rfl, hb, bb⟩; have dD := Below.chain (bl_al (o := (.cells #[.int .i64 0, .int .i64 0, .float .f64 0, .string ⟨#[]⟩] 24)) dB) bb; have ha2 := (ha.keep (below_a1 wa (.cells #[.int .i64 0, .int .i64 0, .float .f64 0, .string ⟨#[]⟩] 24))).keep bb; have vz := (Vr.new wa 24 #[.int .i64 0, .int .i64 0, .float .f64 0, .string ⟨#[]⟩]).keep bb)
            | ((with_reducible refine (op1 sNot u y _ (Vr.new wa 27 (xcs y)) (T1h.out.keep (bl_al (o := (.cells (xcs y) 27)) dB))).mono ?_); rintro e wb ⟨xb, rfl, hb, bb⟩; have dD := Below.chain (bl_al (o := (.cells (xcs y) 27)) dB) bb; have ha2 := (ha.keep (below_a1 wa (.cells (xcs y) 27))).keep bb; try (have vz := (vz.keep (below_a1 wa (.cells (xcs y) 27))).keep bb))
            | ((with_reducible refine (op1 sNot u y _ (Vr.al (o := (.cells #[.int .i64 0, .int .i64 0, .float .f64 0, .string ⟨#[]⟩] 24)) (Vr.new wa 27 (xcs y))) (T1h.out.keep (bl_al (o := (.cells #[.int .i64 0, .int .i64 0, .float .f64 0, .string ⟨#[]⟩] 24)) (bl_al (o := (.cells (xcs y) 27)) dB)))).mono ?_); rintro e wb ⟨xb, rfl, hb, bb⟩; have dD := Below.chain (bl_al (o := (.cells #[.int .i64 0, .int .i64 0, .float .f64 0, .string ⟨#[]⟩] 24)) (bl_al (o := (.cells (xcs y) 27)) dB)) bb; have ha2 := (ha.keep (below_a2 wa (.cells (xcs y) 27) (.cells #[.int .i64 0, .int .i64 0, .float .f64 0, .string ⟨#[]⟩] 24))).keep bb; have vz := (Vr.at' (wa.alloc (.cells (xcs y) 27)) 24 #[.int .i64 0, .int .i64 0, .float .f64 0, .string ⟨#[]⟩] (wa.heap.size + 1) (by simp)).keep bb)
            | ((with_reducible refine (op1 sNot u y _ (Vr.at' (wa.alloc (.cells #[.int .i64 0, .int .i64 0, .float .f64 0, .string ⟨#[]⟩] 24)) 27 (xcs y) (wa.heap.size + 1) (by simp)) (T1h.out.keep (bl_al (o := (.cells (xcs y) 27)) (bl_al (o := (.cells #[.int .i64 0, .int .i64 0, .float .f64 0, .string ⟨#[]⟩] 24)) dB)))).mono ?_); rintro e wb ⟨xb, rfl, hb, bb⟩; have dD := Below.chain (bl_al (o := (.cells (xcs y) 27)) (bl_al (o := (.cells #[.int .i64 0, .int .i64 0, .float .f64 0, .string ⟨#[]⟩] 24)) dB)) bb; have ha2 := (ha.keep (below_a2 wa (.cells #[.int .i64 0, .int .i64 0, .float .f64 0, .string ⟨#[]⟩] 24) (.cells (xcs y) 27))).keep bb; have vz := (Vr.al (o := (.cells (xcs y) 27)) (Vr.new wa 24 #[.int .i64 0, .int .i64 0, .float .f64 0, .string ⟨#[]⟩])).keep bb)
            | ((with_reducible refine (op2 sOr (opE sNot [t]) (opE sNot [u]) xa xb _ (Vr.new wb 27 (xcs2 xa xb)) (ha2.keep (below_a1 wb (.cells (xcs2 xa xb) 27))) (hb.keep (below_a1 wb (.cells (xcs2 xa xb) 27)))).mono ?_); rintro e wc ⟨xc, rfl, hc, bc⟩; have dF := Below.chain (bl_al (o := (.cells (xcs2 xa xb) 27)) dD) bc; try (have vz := (vz.keep (below_a1 wb (.cells (xcs2 xa xb) 27))).keep bc))
            | ((with_reducible refine (op2 sOr (opE sNot [t]) (opE sNot [u]) xa xb _ (Vr.al (o := (.cells #[.int .i64 0, .int .i64 0, .float .f64 0, .string ⟨#[]⟩] 24)) (Vr.new wb 27 (xcs2 xa xb))) (ha2.keep (below_a2 wb (.cells (xcs2 xa xb) 27) (.cells #[.int .i64 0, .int .i64 0, .float .f64 0, .string ⟨#[]⟩] 24))) (hb.keep (below_a2 wb (.cells (xcs2 xa xb) 27) (.cells #[.int .i64 0, .int .i64 0, .float .f64 0, .string ⟨#[]⟩] 24)))).mono ?_); rintro e wc ⟨xc, rfl, hc, bc⟩; have dF := Below.chain (bl_al (o := (.cells #[.int .i64 0, .int .i64 0, .float .f64 0, .string ⟨#[]⟩] 24)) (bl_al (o := (.cells (xcs2 xa xb) 27)) dD)) bc; have vz := (Vr.at' (wb.alloc (.cells (xcs2 xa xb) 27)) 24 #[.int .i64 0, .int .i64 0, .float .f64 0, .string ⟨#[]⟩] (wb.heap.size + 1) (by simp)).keep bc)
            | ((with_reducible refine (op2 sOr (opE sNot [t]) (opE sNot [u]) xa xb _ (Vr.at' (wb.alloc (.cells #[.int .i64 0, .int .i64 0, .float .f64 0, .string ⟨#[]⟩] 24)) 27 (xcs2 xa xb) (wb.heap.size + 1) (by simp)) (ha2.keep (below_a2 wb (.cells #[.int .i64 0, .int .i64 0, .float .f64 0, .string ⟨#[]⟩] 24) (.cells (xcs2 xa xb) 27))) (hb.keep (below_a2 wb (.cells #[.int .i64 0, .int .i64 0, .float .f64 0, .string ⟨#[]⟩] 24) (.cells (xcs2 xa xb) 27)))).mono ?_); rintro e wc ⟨xc, rfl, hc, bc⟩; have dF := Below.chain (bl_al (o := (.cells (xcs2 xa xb) 27)) (bl_al (o := (.cells #[.int .i64 0, .int .i64 0, .float .f64 0, .string ⟨#[]⟩] 24)) dD)) bc; have vz := (Vr.al (o := (.cells (xcs2 xa xb) 27)) (Vr.new wb 24 #[.int .i64 0, .int .i64 0, .float .f64 0, .string ⟨#[]⟩])).keep bc)
          )
        | (go_simp; go_at_call 12; first
            | (have EV := xeval_any _ xc _ L wc hc (Ph.out.keep dF) HLK.out; rw [AN2.out] at EV; (with_reducible refine EV.mono ?_); rintro e wd ⟨rfl, bd⟩; have dG := Below.chain dF bd; try (have vz := vz.keep bd; have ⟨zc0, zc1, zc2, zc3⟩ := vz.cells4; have zf0 := vz.thaw 0; have zf1 := vz.thaw 1; have zf2 := vz.thaw 2; have zf3 := vz.thaw 3))
            | (have EV := xeval_any _ xc _ L (wc.alloc (.cells #[.int .i64 0, .int .i64 0, .float .f64 0, .string ⟨#[]⟩] 24)) (hc.keep (below_a1 wc (.cells #[.int .i64 0, .int .i64 0, .float .f64 0, .string ⟨#[]⟩] 24))) (Ph.out.keep (bl_al (o := (.cells #[.int .i64 0, .int .i64 0, .float .f64 0, .string ⟨#[]⟩] 24)) dF)) HLK.out; rw [AN2.out] at EV; (with_reducible refine EV.mono ?_); rintro e wd ⟨rfl, bd⟩; have dG := Below.chain (bl_al (o := (.cells #[.int .i64 0, .int .i64 0, .float .f64 0, .string ⟨#[]⟩] 24)) dF) bd; have vz := (Vr.new wc 24 #[.int .i64 0, .int .i64 0, .float .f64 0, .string ⟨#[]⟩]).keep bd; have ⟨zc0, zc1, zc2, zc3⟩ := vz.cells4; have zf0 := vz.thaw 0; have zf1 := vz.thaw 1; have zf2 := vz.thaw 2; have zf3 := vz.thaw 3)
          ))
    all_goals go_wp2_with fail
    all_goals go_meet
    all_goals (refine ⟨_, rfl, rfl, ?_, ?_⟩)
    all_goals with_reducible first | exact bl_al dG | exact lies_new _ _ _ _ _ _ | exact Lies.set vz.lies _ _ _ _ | exact below_set4 dG (by have := dF.size; have := dD.size; have := dB.size; omega) _ _ _ _
  case rest =>
  rename World => w9
  obtain ⟨gg, rfl, rfl, LD, b9⟩ := hcut
  have LA := A_141.keep b9
  have LB := B_142.keep b9
  have LC := C_143.keep b9
  have cF := Lib.hid (Below.chain cc_144 b9)
  have SM := Lib.hid (same_refl ⟨ck, cn, cf, cs⟩ OKa.out)
  have ⟨a0, a1, a2, a3⟩ := LA
  have ⟨m0, m1, m2, m3⟩ := LB
  have ⟨c0, c1, c2, c3⟩ := LC
  have ⟨d0, d1, d2, d3⟩ := LD
  have TWo := TW.out
  try dsimp only at TWo
  have HLA := Lib.hid LA
  have HLB := Lib.hid LB
  clear LA LB LC LD b9 TW AN AN2 OKa OKn HVK HD0 HD1 hr0 hr1 HX0 HX1 HP HOK hl0 hl1 hd0 hd1 hrA hrB hrC HLK A_141 B_142 C_143 P_140 T0_138 T1_139 V0_136 V1_137 cc_144
  have bcc : (ce != ce) = false := by simp
  rcases TWo with ⟨hne, hor⟩ | ⟨rfl, rfl, va, hvf, hvs, hB, hA⟩
  · have bne : (ae != 0) = true := by simpa using hne
    rcases hor with rfl | rfl
    · clear hne
      cases hce : ce == 0
      case false =>
        go_wp2_with fail
        go_ret
        exact ⟨rfl, cF.out⟩
      case true =>
        go_wp2_with fail
        (with_reducible refine (SM.out _).mono ?_); rintro e wz ⟨rfl, bz⟩
        go_wp2_with fail
        go_ret
        exact ⟨rfl, (Below.chain cF.out bz)⟩
    · clear hne bne
      cases hb4 : ((4 : Int) == be)
      case false =>
        cases hce : ce == 0
        case false =>
          go_wp2_with fail
          go_ret
          exact ⟨rfl, cF.out⟩
        case true =>
          go_wp2_with fail
          (with_reducible refine (SM.out _).mono ?_); rintro e wz ⟨rfl, bz⟩
          go_wp2_with fail
          go_ret
          exact ⟨rfl, (Below.chain cF.out bz)⟩
      case true =>
        cases hce : ce == 0
        case false =>
          go_wp2_with fail
          go_ret
          exact ⟨rfl, cF.out⟩
        case true =>
          go_wp2_with fail
          (with_reducible refine (SM.out _).mono ?_); rintro e wz ⟨rfl, bz⟩
          go_wp2_with fail
          go_ret
          exact ⟨rfl, (Below.chain cF.out bz)⟩
  · obtain ⟨vk, vn, vf, vs⟩ := va
    simp only [Vl.mk.injEq] at hA hB
    try dsimp only at hvf hvs
    obtain ⟨rfl, rfl, rfl, rfl⟩ := hA
    obtain ⟨rfl, rfl, rfl, rfl⟩ := hB
    subst hvf
    obtain rfl : bs = ⟨#[]⟩ := str_of hvs
    have SM2 := Lib.hid (same_refl ⟨bk, bn, 0, ⟨#[]⟩⟩ OKd.out)
    clear OKd hvs
    cases hce : ce == 0
    case false =>
      go_wp2_with fail
      (with_reducible refine (SM2.out _).mono ?_); rintro e wy ⟨rfl, by_⟩
      go_wp2_with fail
      go_ret
      exact ⟨rfl, (Below.chain cF.out by_)⟩
    case true =>
      go_wp2_with fail
      (with_reducible refine (SM.out _).mono ?_); rintro e wz ⟨rfl, bz⟩
      have ⟨a0, a1, a2, a3⟩ := HLA.out.below bz
      have ⟨m0, m1, m2, m3⟩ := HLB.out.below bz
      go_wp2_with fail
      (with_reducible refine (SM2.out _).mono ?_); rintro e wy ⟨rfl, by_⟩
      go_wp2_with fail
      go_ret
      exact ⟨rfl, (Below.chain (Below.chain cF.out bz) by_)⟩
end Go.Proofs.Ytfhnjilflffdfaa.ExprNots
