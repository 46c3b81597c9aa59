/- The walk of the law ExprHolds. -/
import Derived.Test.YtfhnjilflffdfaaEZ
import Derived.Deep.DeepCutAuto
namespace Go.Proofs.Ytfhnjilflffdfaa.ExprHolds
open Go Go.RowKit
set_option linter.unusedVariables false
set_option maxHeartbeats 8000000 in
theorem walk (t : Ex) (x : Xc) (v : Value) (l : List Pr) (w : World) (h : Tx w t x) (hp : RwP w v l) (hok : ∀ q ∈ l, q.2.Ok) :
    Calls Try.prog 5 #[xv x, v] w fun e w' => e = .returned (.bool true) ∧ Below w.heap.size w w' := by
  have hsf := run_store_float
  have HX0 := Lib.hid h
  have HP := Lib.hid hp
  have HOK := Lib.hid hok
  have HLK := Lib.hid (fix_ok (l.take 100) (fun q hq => hok q (List.mem_of_mem_take hq)))
  clear h hp hok
  cases hlg : largeB t
  case true =>
    go_enter Try.func5, Try.ntmps5
    go_wp2_with fail
    refine (shown_any _).mono ?_; rintro e w1 ⟨rfl, b1⟩
    have V0_2 := ((Vr.new w 27 (xcs x)).keep b1)
    have T0_3 := ((HX0.out.keep (Below.chain (Below.refl w.heap.size w) (below_a1 w (.cells (xcs x) 27)))).keep b1)
    have P_4 := ((HP.out.keep (Below.chain (Below.refl w.heap.size w) (below_a1 w (.cells (xcs x) 27)))).keep b1)
    have cc_5 := (Below.chain (Below.chain (Below.refl w.heap.size w) (below_a1 w (.cells (xcs x) 27))) b1)
    clear b1
    have ⟨q0, q1, q2, q3, q4, q5, q6⟩ := V0_2.cells7
    have K0 := Lib.hid (large_any t x w1 T0_3)
    rw [hlg] at K0
    go_wp2_with fail
    (with_reducible refine (K0.out).mono ?_); rintro e w6 ⟨rfl, b6⟩
    have V0_7 := (V0_2.keep b6)
    have T0_8 := (T0_3.keep b6)
    have P_9 := (P_4.keep b6)
    have cc_10 := (Below.chain cc_5 b6)
    clear V0_2 b6 T0_3 P_4 cc_5
    clear q0 q1 q2 q3 q4 q5 q6
    clear K0
    go_wp2_with fail
    go_ret
    exact ⟨rfl, cc_10⟩
  cases hdp : decide ((49 : Int) < ((min (deep t) 51 : Nat) : Int))
  case true =>
    go_enter Try.func5, Try.ntmps5
    go_wp2_with fail
    refine (shown_any _).mono ?_; rintro e w1 ⟨rfl, b1⟩
    have V0_2 := ((Vr.new w 27 (xcs x)).keep b1)
    have T0_3 := ((HX0.out.keep (Below.chain (Below.refl w.heap.size w) (below_a1 w (.cells (xcs x) 27)))).keep b1)
    have P_4 := ((HP.out.keep (Below.chain (Below.refl w.heap.size w) (below_a1 w (.cells (xcs x) 27)))).keep b1)
    have cc_5 := (Below.chain (Below.chain (Below.refl w.heap.size w) (below_a1 w (.cells (xcs x) 27))) b1)
    clear b1
    have ⟨q0, q1, q2, q3, q4, q5, q6⟩ := V0_2.cells7
    have K0 := Lib.hid (large_any t x w1 T0_3)
    rw [hlg] at K0
    go_wp2_with fail
    (with_reducible refine (K0.out).mono ?_); rintro e w6 ⟨rfl, b6⟩
    have V0_7 := (V0_2.keep b6)
    have T0_8 := (T0_3.keep b6)
    have P_9 := (P_4.keep b6)
    have cc_10 := (Below.chain cc_5 b6)
    clear V0_2 b6 T0_3 P_4 cc_5
    clear q0 q1 q2 q3 q4 q5 q6
    clear K0
    have ⟨q0, q1, q2, q3, q4, q5, q6⟩ := V0_7.cells7
    have K1 := Lib.hid (xdepth_any t x w6 T0_8)
    generalize zz1 : ((min (deep t) 51 : Nat) : Int) = z1 at *
    go_wp2_with fail
    (with_reducible refine (K1.out).mono ?_); rintro e w11 ⟨rfl, b11⟩
    have V0_12 := (V0_7.keep b11)
    have T0_13 := (T0_8.keep b11)
    have P_14 := (P_9.keep b11)
    have cc_15 := (Below.chain cc_10 b11)
    clear V0_7 b11 T0_8 P_9 cc_10
    clear q0 q1 q2 q3 q4 q5 q6
    clear K1
    go_wp2_with fail
    go_ret
    exact ⟨rfl, cc_15⟩
  cases hrt : rightE t
  case false =>
    go_enter Try.func5, Try.ntmps5
    go_wp2_with fail
    refine (shown_any _).mono ?_; rintro e w1 ⟨rfl, b1⟩
    have V0_2 := ((Vr.new w 27 (xcs x)).keep b1)
    have T0_3 := ((HX0.out.keep (Below.chain (Below.refl w.heap.size w) (below_a1 w (.cells (xcs x) 27)))).keep b1)
    have P_4 := ((HP.out.keep (Below.chain (Below.refl w.heap.size w) (below_a1 w (.cells (xcs x) 27)))).keep b1)
    have cc_5 := (Below.chain (Below.chain (Below.refl w.heap.size w) (below_a1 w (.cells (xcs x) 27))) b1)
    clear b1
    have ⟨q0, q1, q2, q3, q4, q5, q6⟩ := V0_2.cells7
    have K0 := Lib.hid (large_any t x w1 T0_3)
    rw [hlg] at K0
    go_wp2_with fail
    (with_reducible refine (K0.out).mono ?_); rintro e w6 ⟨rfl, b6⟩
    have V0_7 := (V0_2.keep b6)
    have T0_8 := (T0_3.keep b6)
    have P_9 := (P_4.keep b6)
    have cc_10 := (Below.chain cc_5 b6)
    clear V0_2 b6 T0_3 P_4 cc_5
    clear q0 q1 q2 q3 q4 q5 q6
    clear K0
    have ⟨q0, q1, q2, q3, q4, q5, q6⟩ := V0_7.cells7
    have K1 := Lib.hid (xdepth_any t x w6 T0_8)
    generalize zz1 : ((min (deep t) 51 : Nat) : Int) = z1 at *
    go_wp2_with fail
    (with_reducible refine (K1.out).mono ?_); rintro e w11 ⟨rfl, b11⟩
    have V0_12 := (V0_7.keep b11)
    have T0_13 := (T0_8.keep b11)
    have P_14 := (P_9.keep b11)
    have cc_15 := (Below.chain cc_10 b11)
    clear V0_7 b11 T0_8 P_9 cc_10
    clear q0 q1 q2 q3 q4 q5 q6
    clear K1
    have ⟨q0, q1, q2, q3, q4, q5, q6⟩ := V0_12.cells7
    have K2 := Lib.hid (xright_any t x w11 T0_13)
    rw [hrt] at K2
    go_wp2_with fail
    (with_reducible refine (K2.out).mono ?_); rintro e w16 ⟨rfl, b16⟩
    have V0_17 := (V0_12.keep b16)
    have T0_18 := (T0_13.keep b16)
    have P_19 := (P_14.keep b16)
    have cc_20 := (Below.chain cc_15 b16)
    clear V0_12 b16 T0_13 P_14 cc_15
    clear q0 q1 q2 q3 q4 q5 q6
    clear K2
    go_wp2_with fail
    go_ret
    exact ⟨rfl, cc_20⟩
  have HD := Lib.hid (show deep t ≤ 49 by have := of_decide_eq_false hdp; omega)
  have H1 := Lib.hid (fun L h => holds_one L t hrt HD.out h)
  go_enter Try.func5, Try.ntmps5
  go_wp2_with fail
  refine (shown_any _).mono ?_; rintro e w1 ⟨rfl, b1⟩
  have V0_2 := ((Vr.new w 27 (xcs x)).keep b1)
  have T0_3 := ((HX0.out.keep (Below.chain (Below.refl w.heap.size w) (below_a1 w (.cells (xcs x) 27)))).keep b1)
  have P_4 := ((HP.out.keep (Below.chain (Below.refl w.heap.size w) (below_a1 w (.cells (xcs x) 27)))).keep b1)
  have cc_5 := (Below.chain (Below.chain (Below.refl w.heap.size w) (below_a1 w (.cells (xcs x) 27))) b1)
  clear b1
  have ⟨q0, q1, q2, q3, q4, q5, q6⟩ := V0_2.cells7
  have K0 := Lib.hid (large_any t x w1 T0_3)
  rw [hlg] at K0
  go_wp2_with fail
  (with_reducible refine (K0.out).mono ?_); rintro e w6 ⟨rfl, b6⟩
  have V0_7 := (V0_2.keep b6)
  have T0_8 := (T0_3.keep b6)
  have P_9 := (P_4.keep b6)
  have cc_10 := (Below.chain cc_5 b6)
  clear V0_2 b6 T0_3 P_4 cc_5
  clear q0 q1 q2 q3 q4 q5 q6
  clear K0
  have ⟨q0, q1, q2, q3, q4, q5, q6⟩ := V0_7.cells7
  have K1 := Lib.hid (xdepth_any t x w6 T0_8)
  generalize zz1 : ((min (deep t) 51 : Nat) : Int) = z1 at *
  go_wp2_with fail
  (with_reducible refine (K1.out).mono ?_); rintro e w11 ⟨rfl, b11⟩
  have V0_12 := (V0_7.keep b11)
  have T0_13 := (T0_8.keep b11)
  have P_14 := (P_9.keep b11)
  have cc_15 := (Below.chain cc_10 b11)
  clear V0_7 b11 T0_8 P_9 cc_10
  clear q0 q1 q2 q3 q4 q5 q6
  clear K1
  have ⟨q0, q1, q2, q3, q4, q5, q6⟩ := V0_12.cells7
  have K2 := Lib.hid (xright_any t x w11 T0_13)
  rw [hrt] at K2
  go_wp2_with fail
  (with_reducible refine (K2.out).mono ?_); rintro e w16 ⟨rfl, b16⟩
  have V0_17 := (V0_12.keep b16)
  have T0_18 := (T0_13.keep b16)
  have P_19 := (P_14.keep b16)
  have cc_20 := (Below.chain cc_15 b16)
  clear V0_12 b16 T0_13 P_14 cc_15
  clear q0 q1 q2 q3 q4 q5 q6
  clear K2
  go_wp2_with fail
  (with_reducible refine (few_any _ l _ P_19 HOK.out).mono ?_); rintro e w21 ⟨v21, rfl, o21, b21⟩
  have V0_22 := (V0_17.keep b21)
  have T0_23 := (T0_18.keep b21)
  have P_24 := o21.rw
  have cc_25 := (Below.chain cc_20 b21)
  clear V0_17 b21 T0_18 cc_20
  clear o21
  generalize (l.take 100).map fixP = L at *
  have ONE := Lib.hid (H1.out L)
  have NOT := Lib.hid (holds_false L t)
  have ⟨q0, q1, q2, q3, q4, q5, q6⟩ := V0_22.cells7
  go_wp2_with fail
  have E26 := Lib.hid (xholds_any t x _ L _ T0_23 P_24 HLK.out)
  cases h0 : (holdsR L t).2 == 0
  case false =>
    have hne : (holdsR L t).2 ≠ 0 := by simpa using h0
    have bne : ((holdsR L t).2 != 0) = true := by simpa using h0
    have hfa := NOT.out hne
    rw [hfa] at E26
    generalize (holdsR L t).2 = z at *
    clear hne h0 hfa NOT ONE
    (with_reducible refine (E26.out).mono ?_); rintro e w27 ⟨rfl, b27⟩
    have V0_28 := (V0_22.keep b27)
    have T0_29 := (T0_23.keep b27)
    have P_30 := (P_24.keep b27)
    have cc_31 := (Below.chain cc_25 b27)
    clear V0_22 b27 T0_23 P_24 cc_25
    clear E26
    go_wp2_with fail
    go_ret
    exact ⟨rfl, cc_31⟩
  case true =>
    have hz : (holdsR L t).2 = 0 := by simpa using h0
    obtain ⟨X, hX, e1, e2, e3⟩ := ONE.out hz
    rw [e1] at E26
    clear h0 hz ONE NOT e1
    (with_reducible refine (E26.out).mono ?_); rintro e w27 ⟨rfl, b27⟩
    have V0_28 := (V0_22.keep b27)
    have T0_29 := (T0_23.keep b27)
    have P_30 := (P_24.keep b27)
    have cc_31 := (Below.chain cc_25 b27)
    clear V0_22 b27 T0_23 P_24 cc_25
    clear E26
    clear q0 q1 q2 q3 q4 q5 q6
    have ⟨q0, q1, q2, q3, q4, q5, q6⟩ := V0_28.cells7
    go_wp2_with fail
    have t32 := ten1 w27 x _ T0_29
    (with_reducible refine (op_any sNot _ _ [x] _ t32.1 t32.2 (by simp)).mono ?_); rintro e w32 ⟨x32, rfl, h32, b32⟩
    have V0_33 := ((V0_28.keep (below_a1 w27 _)).keep b32)
    have T0_34 := ((T0_29.keep (below_a1 w27 _)).keep b32)
    have P_35 := ((P_30.keep (below_a1 w27 _)).keep b32)
    have N_36 := h32
    have cc_37 := (Below.chain (Below.chain cc_31 (below_a1 w27 _)) b32)
    clear V0_28 b32 T0_29 P_30 h32 cc_31
    go_wp2_with fail
    have E38 := Lib.hid (xholds_any _ x32 _ L _ N_36 P_35 HLK.out)
    rw [e2] at E38
    (with_reducible refine (E38.out).mono ?_); rintro e w39 ⟨rfl, b39⟩
    have V0_40 := (V0_33.keep b39)
    have T0_41 := (T0_34.keep b39)
    have P_42 := (P_35.keep b39)
    have cc_43 := (Below.chain cc_37 b39)
    clear V0_33 b39 T0_34 P_35 cc_37
    clear E38
    clear q0 q1 q2 q3 q4 q5 q6
    have ⟨q0, q1, q2, q3, q4, q5, q6⟩ := V0_40.cells7
    go_wp2_with fail
    have t44 := ten1 w39 x _ T0_41
    (with_reducible refine (op_any sNull _ _ [x] _ t44.1 t44.2 (by simp)).mono ?_); rintro e w44 ⟨x44, rfl, h44, b44⟩
    have V0_45 := ((V0_40.keep (below_a1 w39 _)).keep b44)
    have T0_46 := ((T0_41.keep (below_a1 w39 _)).keep b44)
    have P_47 := ((P_42.keep (below_a1 w39 _)).keep b44)
    have N_48 := h44
    have cc_49 := (Below.chain (Below.chain cc_43 (below_a1 w39 _)) b44)
    clear V0_40 b44 T0_41 P_42 h44 cc_43
    go_wp2_with fail
    have E50 := Lib.hid (xholds_any _ x44 _ L _ N_48 P_47 HLK.out)
    rw [e3] at E50
    (with_reducible refine (E50.out).mono ?_); rintro e w51 ⟨rfl, b51⟩
    have V0_52 := (V0_45.keep b51)
    have T0_53 := (T0_46.keep b51)
    have P_54 := (P_47.keep b51)
    have cc_55 := (Below.chain cc_49 b51)
    clear V0_45 b51 T0_46 P_47 cc_49
    clear E50
    clear q0 q1 q2 q3 q4 q5 q6
    have HC := Lib.hid cc_55
    clear P_54 T0_53 V0_52 cc_55
    rcases hX with rfl | rfl | rfl
    · go_wp2_with fail
      go_loopg [12, 14, 65] 3 (fun g s12 s14 s65 wr => ∃ i : Nat, g + i = 3 ∧ s65 = .int .i64 i ∧ s12 = .int .i64 (if 2 ≤ i then 1 else 0) ∧ wr = w51.alloc (.cells #[.bool false, .bool true, .bool false] 4))
      case atStart => exact ⟨0, rfl, rfl, rfl, rfl⟩
      case round =>
        obtain ⟨i, hg, rfl, rfl, rfl⟩ := hrel
        have hi : i = 0 ∨ i = 1 ∨ i = 2 ∨ i = 3 := by omega
        rcases hi with rfl | rfl | rfl | rfl
        · go_wp2_with fail
          go_roundg 2
          case rel => exact ⟨1, rfl, by first | rfl | go_num, by first | rfl | go_num, rfl⟩
          case measure => omega
        · go_wp2_with fail
          go_roundg 1
          case rel => exact ⟨2, rfl, by first | rfl | go_num, by first | rfl | go_num, rfl⟩
          case measure => omega
        · go_wp2_with fail
          go_roundg 0
          case rel => exact ⟨3, rfl, by first | rfl | go_num, by first | rfl | go_num, rfl⟩
          case measure => omega
        · go_wp2_with fail
          go_ret
          exact ⟨rfl, Below.chain HC.out (below_a1 _ _)⟩
    · go_wp2_with fail
      go_loopg [12, 14, 65] 3 (fun g s12 s14 s65 wr => ∃ i : Nat, g + i = 3 ∧ s65 = .int .i64 i ∧ s12 = .int .i64 (if 1 ≤ i then 1 else 0) ∧ wr = w51.alloc (.cells #[.bool true, .bool false, .bool false] 4))
      case atStart => exact ⟨0, rfl, rfl, rfl, rfl⟩
      case round =>
        obtain ⟨i, hg, rfl, rfl, rfl⟩ := hrel
        have hi : i = 0 ∨ i = 1 ∨ i = 2 ∨ i = 3 := by omega
        rcases hi with rfl | rfl | rfl | rfl
        · go_wp2_with fail
          go_roundg 2
          case rel => exact ⟨1, rfl, by first | rfl | go_num, by first | rfl | go_num, rfl⟩
          case measure => omega
        · go_wp2_with fail
          go_roundg 1
          case rel => exact ⟨2, rfl, by first | rfl | go_num, by first | rfl | go_num, rfl⟩
          case measure => omega
        · go_wp2_with fail
          go_roundg 0
          case rel => exact ⟨3, rfl, by first | rfl | go_num, by first | rfl | go_num, rfl⟩
          case measure => omega
        · go_wp2_with fail
          go_ret
          exact ⟨rfl, Below.chain HC.out (below_a1 _ _)⟩
    · go_wp2_with fail
      go_loopg [12, 14, 65] 3 (fun g s12 s14 s65 wr => ∃ i : Nat, g + i = 3 ∧ s65 = .int .i64 i ∧ s12 = .int .i64 (if 3 ≤ i then 1 else 0) ∧ wr = w51.alloc (.cells #[.bool false, .bool false, .bool true] 4))
      case atStart => exact ⟨0, rfl, rfl, rfl, rfl⟩
      case round =>
        obtain ⟨i, hg, rfl, rfl, rfl⟩ := hrel
        have hi : i = 0 ∨ i = 1 ∨ i = 2 ∨ i = 3 := by omega
        rcases hi with rfl | rfl | rfl | rfl
        · go_wp2_with fail
          go_roundg 2
          case rel => exact ⟨1, rfl, by first | rfl | go_num, by first | rfl | go_num, rfl⟩
          case measure => omega
        · go_wp2_with fail
          go_roundg 1
          case rel => exact ⟨2, rfl, by first | rfl | go_num, by first | rfl | go_num, rfl⟩
          case measure => omega
        · go_wp2_with fail
          go_roundg 0
          case rel => exact ⟨3, rfl, by first | rfl | go_num, by first | rfl | go_num, rfl⟩
          case measure => omega
        · go_wp2_with fail
          go_ret
          exact ⟨rfl, Below.chain HC.out (below_a1 _ _)⟩
end Go.Proofs.Ytfhnjilflffdfaa.ExprHolds
