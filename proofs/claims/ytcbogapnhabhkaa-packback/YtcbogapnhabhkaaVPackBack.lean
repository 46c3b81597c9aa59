/- The walk of the law PackBack. -/
import Derived.Test.YtcbogapnhabhkaaPR
namespace Go.Proofs.Ytcbogapnhabhkaa.PackBack
open Go Go.RowKit
set_option linter.unusedVariables false
set_option maxHeartbeats 4000000 in
set_option maxRecDepth 100000 in
theorem walk_core (n f m m2 A : Nat) (s : ByteArray) (k nn a : Int) (ao : Option Addr) (len cap : Nat) (l0 l : List UInt8) (w : World) (hn : n < 18446744073709551616) (hf : f < 18446744073709551616) (hn1 : -9223372036854775808 ≤ nn) (hn2 : nn ≤ 9223372036854775807)
    (hm : min (s.size : Int) 100 = (m : Int)) (hms : m ≤ s.size) (hB0 : Bs w.heap.size w (.slice ao len cap) l0) (hm2 : min (len : Int) 50 = (m2 : Int)) (hl : l = l0.take m2) (hA : bits BinOp.and IntKind.i64 a 65535 = (A : Int)) :
    Calls Try.prog 5 #[.int .u64 n, .string s, .int .i64 k, .int .i64 nn, .int .u64 (f : Int), .slice ao len cap, .int .i64 a] w fun e w' => e = .returned (.bool true) ∧ Below w.heap.size w w' := by
  have hsf := run_store_float
  obtain ⟨hcl, rfl⟩ := hB0.cap
  have hml : m2 ≤ l0.length := by omega
  have hB := hB0.headc m2 hml
  rw [← hl] at hB
  have hlm : l.length = m2 := by rw [hl]; simp; omega
  have hlL : l.length ≤ 50 := by omega
  have imc : (m2 : Int) ≤ (cap : Int) := by omega
  have im1 : (m : Int) ≤ (s.size : Int) := by omega
  have hS100 : (s.extract 0 m).size ≤ 100 := by simp; omega
  have hSl : (s.extract 0 m).data.toList.length = (s.extract 0 m).size := by simp
  have heta := bytes_eta (s.extract 0 m)
  obtain ⟨E, L, hE, C1⟩ := putval_any (.slice none 0 0) [] k nn f (s.extract 0 m) hn1 hn2 hf (by omega) (by simp)
  have VA := Lib.hid (fun w1 => value_any k nn f (s.extract 0 m) w1)
  have SM := Lib.hid (fun w1 => rsame_any k nn k nn f f hf hf (s.extract 0 m) (s.extract 0 m) w1)
  have hid : idB k nn (Flt.canon f) (s.extract 0 m) k nn (Flt.canon f) (s.extract 0 m) = true := by unfold idB; simp
  rw [hid] at SM
  have PT := Lib.hid (fun w1 => puttext_any (.slice none 0 0) [] (s.extract 0 m) (by omega) (by simp) w1 (Bs.nil _ _))
  simp only [List.nil_append] at PT
  have HE := Lib.hid hE
  have D1 := Lib.hid C1
  have HRV := Lib.hid (fun hr : rightB k nn f (s.extract 0 m) = true => rv_of hr hn1 hn2 hf (show (s.extract 0 m).size ≤ 400000 by omega))
  have hq : ((s.extract 0 m).toList != (s.extract 0 m).toList) = false := by simp

  clear hE C1 hl hB0 hid heta
  generalize hS : s.extract 0 m = S at *
  have h9 := numB_le n hn
  have h0 : 0 < (numB n).length := by simp [numB]
  have P1 := Lib.hid (put_nil n hn)
  have G1 := Lib.hid (fun v w1 hb => get_any v (numB n ++ l) w1 hb (by rw [List.length_append]; omega))
  rw [get_back n hn l] at G1
  obtain ⟨K1, hK1⟩ : ∃ K, K = A % (numB n).length := ⟨_, rfl⟩
  have hK1l : K1 < (numB n).length := by rw [hK1]; exact Nat.mod_lt _ h0
  have hK1I : (A : Int) % ((numB n).length : Int) = (K1 : Int) := by rw [hK1]; omega
  have X1 := Lib.hid (fun v w1 hb => get_any v ((numB n).take K1) w1 hb (by simp; omega))
  rw [get_cut n hn K1 hK1l] at X1
  have ht9 : (textB S.data.toList).length ≤ 120 := by
    have := numB_le S.data.toList.length (by omega)
    unfold textB; rw [List.length_append]; omega
  have ht0 : 0 < (textB S.data.toList).length := by simp [textB, numB]
  have G2 := Lib.hid (fun v w1 hb => gtext_any v (textB S.data.toList ++ l) w1 hb (by rw [List.length_append]; omega))
  rw [text_back _ l (by omega), bytes_eta S] at G2
  obtain ⟨K2, hK2⟩ : ∃ K, K = A % (textB S.data.toList).length := ⟨_, rfl⟩
  have hK2l : K2 < (textB S.data.toList).length := by rw [hK2]; exact Nat.mod_lt _ ht0
  have hK2I : (A : Int) % ((textB S.data.toList).length : Int) = (K2 : Int) := by rw [hK2]; omega
  have X2 := Lib.hid (fun v w1 hb => gtext_any v ((textB S.data.toList).take K2) w1 hb (by simp; omega))
  rw [text_cut _ (by omega) K2 hK2l] at X2
  generalize numB n = N at *
  generalize textB S.data.toList = T at *
  clear hK1 hK2
  have ij1 : ((N.length : Int) == 0) = false := by simp only [beq_eq_false_iff_ne, ne_eq]; omega
  go_enter Try.func5, Try.ntmps5
  go_wp2_with fail
  refine (shown_any _).mono ?_; rintro e w1 ⟨rfl, hb1⟩
  go_wp2_with fail
  refine (P1.out _).mono ?_; rintro e w2 ⟨v2, rfl, hO2, hb2⟩
  have c2 := Below.chain hb1 hb2
  obtain ⟨a2, cp2, rfl⟩ := hO2.len
  have hcp2 := hO2.bs.cap.1
  clear hb1 hb2

  have nL1 := nil_own w2
  have bN1 := hO2.bs.below (below_a1 w2 (.cells #[] 5))
  have bM1 := (hB.below (Below.chain c2 (below_a1 w2 (.cells #[] 5))))
  have zA1 : w2.heap.size ≤ (w2.alloc (.cells #[] 5)).heap.size := by simp
  have cA1 := below_a1 w2 (.cells #[] 5)
  have s11 : ([] : List UInt8).length + N.length ≤ 1000000 := by simp only [List.length_nil]; omega
  have s21 : ([] ++ N).length + l.length ≤ 1000000 := by simp only [List.nil_append]; omega
  go_wp2_with (at_builtin; first
    | (refine wpList_append_bs rfl _ _ rfl rfl rfl nL1 bN1 s11 zA1 ?_; intro vA1 wA1 oA1 gA1; have cB1 := cA1.grown gA1 zA1 nL1.row; have zB1 := cB1.size; have bM21 := hB.below (Below.chain c2 cB1))
    | (refine wpList_append_bs rfl _ _ rfl rfl rfl oA1 bM21 s21 zB1 ?_; intro vB1 wB1 oB1 gB1))
  have cC1 := cB1.grown gB1 zB1 oA1.row
  rw [List.nil_append] at oB1
  refine (G1.out _ _ oB1.bs).mono ?_; rintro e w2x ⟨rfl, hbx1⟩
  have d1 := Below.chain cC1 hbx1
  have e1 := Below.chain c2 d1
  have q1 := hO2.bs.below d1
  clear nL1 bN1 bM1 zA1 cA1 gA1 oA1 cB1 zB1 bM21 gB1 cC1 oB1 hbx1 s11 s21
  have r1 := (q1.headc K1 (by omega)).size
  have iz : ¬ ((N.length : Int) = 0) := by omega
  have iK : (K1 : Int) ≤ (cp2 : Int) := by omega
  clear G1 P1
  go_wp2_with fail
  refine (X1.out _ _ r1).mono ?_; rintro e w3 ⟨rfl, hb3⟩
  have c3 := Below.chain e1 hb3
  clear e1 q1 r1 hb3 iz iK X1
  go_wp2_with fail
  refine (PT.out _).mono ?_; rintro e w4 ⟨v4, rfl, hO4, hb4⟩
  have c4 := Below.chain c3 hb4
  obtain ⟨a4, cp4, rfl⟩ := hO4.len
  have hcp4 := hO4.bs.cap.1
  clear c3 hb4 PT hO2 hcp2
  have nL2 := nil_own w4
  have bN2 := hO4.bs.below (below_a1 w4 (.cells #[] 5))
  have bM2 := (hB.below (Below.chain c4 (below_a1 w4 (.cells #[] 5))))
  have zA2 : w4.heap.size ≤ (w4.alloc (.cells #[] 5)).heap.size := by simp
  have cA2 := below_a1 w4 (.cells #[] 5)
  have s12 : ([] : List UInt8).length + T.length ≤ 1000000 := by simp only [List.length_nil]; omega
  have s22 : ([] ++ T).length + l.length ≤ 1000000 := by simp only [List.nil_append]; omega
  go_wp2_with (at_builtin; first
    | (refine wpList_append_bs rfl _ _ rfl rfl rfl nL2 bN2 s12 zA2 ?_; intro vA2 wA2 oA2 gA2; have cB2 := cA2.grown gA2 zA2 nL2.row; have zB2 := cB2.size; have bM22 := hB.below (Below.chain c4 cB2))
    | (refine wpList_append_bs rfl _ _ rfl rfl rfl oA2 bM22 s22 zB2 ?_; intro vB2 wB2 oB2 gB2))
  have cC2 := cB2.grown gB2 zB2 oA2.row
  rw [List.nil_append] at oB2
  refine (G2.out _ _ oB2.bs).mono ?_; rintro e w4x ⟨rfl, hbx2⟩
  have d2 := Below.chain cC2 hbx2
  have e2 := Below.chain c4 d2
  have q2 := hO4.bs.below d2
  clear nL2 bN2 bM2 zA2 cA2 gA2 oA2 cB2 zB2 bM22 gB2 cC2 oB2 hbx2 s12 s22
  have r2 := (q2.headc K2 (by omega)).size
  have iz : ¬ ((T.length : Int) = 0) := by omega
  have iK : (K2 : Int) ≤ (cp4 : Int) := by omega
  clear G2
  go_wp2_with fail
  refine (X2.out _ _ r2).mono ?_; rintro e w5 ⟨rfl, hb5⟩
  have c5 := Below.chain e2 hb5
  clear e2 q2 r2 hb5 iz iK X2 c4 hO4 hcp4
  go_wp2_with fail
  refine (VA.out _).mono ?_; rintro e w6 ⟨rfl, hb6⟩
  have l6 := lies_new w6 (.int .i64 k) (.int .i64 nn) (.float .f64 f) (.string S) 29
  have c6 := Below.chain (Below.chain c5 hb6) (below_a1 w6 (.cells #[.int .i64 k, .int .i64 nn, .float .f64 f, .string S] 29))
  clear c5 hb6 VA
  have ⟨x0, x1, x2, x3⟩ := l6
  go_wp2_with fail
  refine (D1.out _ (Bs.nil _ _)).mono ?_; rintro e w7 ⟨v7, rfl, hO7, hb7⟩
  have l7 := l6.below hb7
  have c7 := Below.chain c6 hb7
  clear x0 x1 x2 x3 l6 c6 hb7 D1
  rcases HE.out with ⟨hr, rfl, rfl⟩ | ⟨hr, rfl, rfl⟩
  · have RX := HRV.out hr
    rw [List.nil_append] at hO7
    have hrl : (rowV k nn f S.data.toList).length ≤ 400020 := rowV_len k nn f S.data.toList hn1 hn2 (by omega)
    have hr0 : 0 < (rowV k nn f S.data.toList).length := by
      unfold rowV; (repeat' split) <;> simp
    have G3 := Lib.hid (fun v w1 hb => gval_any v (rowV k nn f S.data.toList ++ l) w1 hb (by rw [List.length_append]; omega))
    have vb := val_back ⟨k, nn, f, S.data.toList⟩ RX l
    simp only [V4.row] at vb
    rw [bytes_eta S] at vb
    rw [vb] at G3
    obtain ⟨K3, hK3⟩ : ∃ K, K = A % (rowV k nn f S.data.toList).length := ⟨_, rfl⟩
    have hK3l : K3 < (rowV k nn f S.data.toList).length := by rw [hK3]; exact Nat.mod_lt _ hr0
    have hK3I : (A : Int) % ((rowV k nn f S.data.toList).length : Int) = (K3 : Int) := by rw [hK3]; omega
    have X3 := Lib.hid (fun v w1 hb => gval_any v ((rowV k nn f S.data.toList).take K3) w1 hb (by simp; omega))
    have vc := val_cut ⟨k, nn, f, S.data.toList⟩ RX K3 (by simpa [V4.row] using hK3l)
    simp only [V4.row] at vc
    rw [vc] at X3
    clear vb vc hK3 HE HRV hr RX
    generalize rowV k nn f S.data.toList = R at *
    obtain ⟨a7, cp7, rfl⟩ := hO7.len
    have hcp7 := hO7.bs.cap.1
    have nL3 := nil_own w7
    have bN3 := hO7.bs.below (below_a1 w7 (.cells #[] 5))
    have bM3 := (hB.below (Below.chain c7 (below_a1 w7 (.cells #[] 5))))
    have zA3 : w7.heap.size ≤ (w7.alloc (.cells #[] 5)).heap.size := by simp
    have cA3 := below_a1 w7 (.cells #[] 5)
    have s13 : ([] : List UInt8).length + R.length ≤ 1000000 := by simp only [List.length_nil]; omega
    have s23 : ([] ++ R).length + l.length ≤ 1000000 := by simp only [List.nil_append]; omega
    go_wp2_with (at_builtin; first
      | (refine wpList_append_bs rfl _ _ rfl rfl rfl nL3 bN3 s13 zA3 ?_; intro vA3 wA3 oA3 gA3; have cB3 := cA3.grown gA3 zA3 nL3.row; have zB3 := cB3.size; have bM23 := hB.below (Below.chain c7 cB3))
      | (refine wpList_append_bs rfl _ _ rfl rfl rfl oA3 bM23 s23 zB3 ?_; intro vB3 wB3 oB3 gB3))
    have cC3 := cB3.grown gB3 zB3 oA3.row
    rw [List.nil_append] at oB3
    refine (G3.out _ _ oB3.bs).mono ?_; rintro e w7x ⟨rfl, hbx3⟩
    have d3 := Below.chain cC3 hbx3
    have e3 := Below.chain c7 d3
    have q3 := hO7.bs.below d3
    clear nL3 bN3 bM3 zA3 cA3 gA3 oA3 cB3 zB3 bM23 gB3 cC3 oB3 hbx3 s13 s23
    have l8 := (l7.below d3).alloc (.cells #[.int .i64 k, .int .i64 nn, .float .f64 f, .string S] 29)
    have m8 := lies_new w7x (.int .i64 k) (.int .i64 nn) (.float .f64 f) (.string S) 29
    have ca := below_a1 w7x (.cells #[.int .i64 k, .int .i64 nn, .float .f64 f, .string S] 29)
    have e8 := Below.chain e3 ca
    have r3 := ((q3.headc K3 (by omega)).below (ca.mono (by have := d3.size; omega))).size
    have iz : ¬ ((R.length : Int) = 0) := by omega
    have iK : (K3 : Int) ≤ (cp7 : Int) := by omega
    clear G3 e3 d3 q3 l7 c7 hO7 hcp7 ca
    go_wp2_with fail
    refine (X3.out _ _ r3).mono ?_; rintro e w9 ⟨rfl, hb9⟩
    have l9 := l8.below hb9
    have m9 := m8.below hb9
    have c9 := Below.chain e8 hb9
    clear e8 l8 m8 r3 hb9 iz iK X3
    have ⟨x0, x1, x2, x3⟩ := l9
    have ⟨y0, y1, y2, y3⟩ := m9
    go_wp2_with fail
    refine (SM.out _).mono ?_; rintro e w10 ⟨rfl, hb10⟩
    go_wp2_with fail
    go_ret
    exact ⟨rfl, Below.chain c9 hb10⟩
  · have hv0 := hO7.bs
    obtain ⟨a7, cp7, rfl⟩ := hO7.len
    simp only [List.length_nil] at *
    go_wp2_with fail
    go_ret
    exact ⟨rfl, c7⟩
theorem walk (n : Nat) (s : ByteArray) (k nn : Int) (f : Nat) (v : Value) (l : List UInt8) (a : Int) (w : World) (hn : n < 18446744073709551616) (hk1 : -9223372036854775808 ≤ k) (hk2 : k ≤ 9223372036854775807) (hn1 : -9223372036854775808 ≤ nn) (hn2 : nn ≤ 9223372036854775807) (hf : f < 18446744073709551616) (hB : Bs w.heap.size w v l) (ha1 : -9223372036854775808 ≤ a) (ha2 : a ≤ 9223372036854775807) :
    Calls Try.prog 5 #[.int .u64 n, .string s, .int .i64 k, .int .i64 nn, .int .u64 (f : Int), v, .int .i64 a] w fun e w' => e = .returned (.bool true) ∧ Below w.heap.size w w' := by
  obtain ⟨ao, cap, rfl⟩ := hB.shape
  obtain ⟨A, hA, _⟩ := and_mask a
  exact walk_core n f (min s.size 100) (min l.length 50) A s k nn a ao _ cap l _ w hn hf hn1 hn2 (by omega) (by omega) hB (by omega) rfl hA
end Go.Proofs.Ytcbogapnhabhkaa.PackBack
