/- The walk of the law PackWrites. -/
import Derived.Test.YtcbogapnhabhkaaPT
namespace Go.Proofs.Ytcbogapnhabhkaa.PackWrites
open Go Go.RowKit
set_option linter.unusedVariables false
set_option maxHeartbeats 4000000 in
set_option maxRecDepth 100000 in
theorem walk_core (n f m m2 : Nat) (s : ByteArray) (k nn : Int) (ao : Option Addr) (len cap : Nat) (l0 l : List UInt8) (w : World) (hn : n < 18446744073709551616) (hf : f < 18446744073709551616) (hn1 : -9223372036854775808 ≤ nn) (hn2 : nn ≤ 9223372036854775807)
    (hm : min (s.size : Int) 300 = (m : Int)) (hms : m ≤ s.size) (hB0 : Bs w.heap.size w (.slice ao len cap) l0) (hm2 : min (len : Int) 100 = (m2 : Int)) (hl : l = l0.take m2) :
    Calls Try.prog 3 #[.slice ao len cap, .int .u64 n, .string s, .int .i64 k, .int .i64 nn, .int .u64 (f : Int)] w fun e w' => e = .returned (.bool true) ∧ Below w.heap.size w w' := by
  have hsf := run_store_float
  obtain ⟨hcl, rfl⟩ := hB0.cap
  have hml : m2 ≤ l0.length := by omega
  have hB := hB0.headc m2 hml
  rw [← hl] at hB
  have hlm : l.length = m2 := by rw [hl]; simp; omega
  have hlL : l.length ≤ 100 := by omega
  have imc : (m2 : Int) ≤ (cap : Int) := by omega
  have im1 : (m : Int) ≤ (s.size : Int) := by omega
  have hS300 : (s.extract 0 m).size ≤ 300 := by simp; omega
  have hSl : (s.extract 0 m).data.toList.length = (s.extract 0 m).size := by simp
  clear hl hB0
  generalize hS : s.extract 0 m = S at *
  have P1 := Lib.hid (fun v w1 hb => put_any v l n hn (by omega) w1 hb)
  have P2 := Lib.hid (fun v w1 hb => puttext_any v l S (by omega) (by omega) w1 hb)
  have P3 := Lib.hid (fun v => putval_any v l k nn f S hn1 hn2 hf (by omega) (by omega))
  have VA := Lib.hid (fun w1 => value_any k nn f S w1)
  have RR := Lib.hid (rright_any k nn f hf S)
  have R1 := Lib.hid (rput_any n hn)
  have R2 := Lib.hid (rputtext_any S (by omega))
  have R3 := Lib.hid (fun hr => rpv_right k nn f S hr hn1 hn2 hf (by omega))
  have h9 := numB_le n hn
  have ht9 : (textB S.data.toList).length ≤ 320 := by
    have := numB_le S.data.toList.length (by omega)
    unfold textB; rw [List.length_append]; omega
  have hrl := rowV_len k nn f S.data.toList hn1 hn2 (by omega)
  have a1 := ByteArray.mk_append_mk l (numB n)
  have a2 := ByteArray.mk_append_mk l (textB S.data.toList)
  have a3 := ByteArray.mk_append_mk l (rowV k nn f S.data.toList)
  generalize hr : rightB k nn f S = r at *
  generalize numB n = N at *
  generalize textB S.data.toList = T at *
  generalize rowV k nn f S.data.toList = R at *
  have z0 : (⟨l.toArray⟩ : ByteArray).size = l.length := by simp [ByteArray.size]
  have z1 : (⟨N.toArray⟩ : ByteArray).size = N.length := by simp [ByteArray.size]
  have z2 : (⟨T.toArray⟩ : ByteArray).size = T.length := by simp [ByteArray.size]
  have z3 : (⟨R.toArray⟩ : ByteArray).size = R.length := by simp [ByteArray.size]
  have A1 := Lib.hid a1
  have A2 := Lib.hid a2
  have A3 := Lib.hid a3
  clear a1 a2 a3
  go_enter Try.func3, Try.ntmps3
  go_wp2_with fail
  refine (shown_any _).mono ?_; rintro e w1 ⟨rfl, hb1⟩
  have nL1 := nil_own w1
  have cA1 := below_a1 w1 (.cells #[] 5)
  have zA1 := cA1.size
  have bN1 := hB.below (Below.chain hb1 cA1)
  have s1 : ([] : List UInt8).length + l.length ≤ 1000000 := by simp only [List.length_nil]; omega
  go_upto_region 3 with (at_builtin; refine wpList_append_bs rfl _ _ rfl rfl rfl nL1 bN1 s1 zA1 ?_; intro v2 w2 hO2 hg2)
  have d2 := cA1.grown hg2 zA1 nL1.row
  have c2 := Below.chain hb1 d2
  rw [List.nil_append] at hO2
  have g2 := run_string_bs hO2.bs
  obtain ⟨a2, cp2, rfl⟩ := hO2.len
  clear nL1 cA1 zA1 bN1 hg2 hb1 d2 hB hlm
  have nL3 := nil_own w2
  have cA3 := below_a1 w2 (.cells #[] 5)
  have zA3 := cA3.size
  have bN3 := hO2.bs.below cA3
  go_wp2_with (at_builtin; refine wpList_append_bs rfl _ _ rfl rfl rfl nL3 bN3 s1 zA3 ?_; intro vA3 wA3 oA3 gA3)
  have d3 := cA3.grown gA3 zA3 nL3.row
  rw [List.nil_append] at oA3
  clear nL3 cA3 zA3 bN3 gA3
  refine (P1.out _ _ oA3.bs).mono ?_; rintro e w3 ⟨v3, rfl, hO3, hb3⟩
  have e3 := Below.chain d3 hb3
  have c3 := Below.chain c2 e3
  have q3 := (hO2.bs.below e3).size
  clear oA3 d3 hb3 e3 P1 hO2 c2
  have nL4 := nil_own w3
  have cA4 := below_a1 w3 (.cells #[] 5)
  have zA4 := cA4.size
  have bN4 := q3.below cA4
  go_wp2_with (at_builtin; refine wpList_append_bs rfl _ _ rfl rfl rfl nL4 bN4 s1 zA4 ?_; intro vA4 wA4 oA4 gA4)
  have d4 := cA4.grown gA4 zA4 nL4.row
  rw [List.nil_append] at oA4
  clear nL4 cA4 zA4 bN4 gA4
  refine (P2.out _ _ oA4.bs).mono ?_; rintro e w4 ⟨v4, rfl, hO4, hb4⟩
  have e4 := Below.chain d4 hb4
  have c4 := Below.chain c3 e4
  have q4 := (q3.below e4).size
  have x4 := (hO3.bs.below e4).size
  clear oA4 d4 hb4 e4 P2 q3 hO3 c3
  go_wp2_with fail
  refine (VA.out _).mono ?_; rintro e w5 ⟨rfl, hb5⟩
  have ca := below_a1 w5 (.cells #[.int .i64 k, .int .i64 nn, .float .f64 f, .string S] 29)
  have l6 := lies_new w5 (.int .i64 k) (.int .i64 nn) (.float .f64 f) (.string S) 29
  have e6 := Below.chain hb5 ca
  have c6 := Below.chain c4 e6
  have q6 := (q4.below e6).size
  have x6 := (x4.below e6).size
  have y6 := (hO4.bs.below e6).size
  clear VA hb5 ca e6 q4 x4 hO4 c4
  go_upto_region 8 with fail
  generalize hW : w5.alloc (.cells #[.int .i64 k, .int .i64 nn, .float .f64 f, .string S] 29) = w6 at *
  go_cut [18, 19] (fun s18 s19 wx => ∃ E L, (r = true ∧ E = (0 : Int) ∧ L = l ++ R ∨ r = false ∧ E = 1 ∧ L = l) ∧ s19 = .int .i64 E ∧ Own wx w6.heap.size s18 L ∧ Below w6.heap.size w6 wx)
  case first =>
    have cA := below_a1 w6 (.cells #[] 5)
    have zA := cA.size
    have nL : Own (w6.alloc (.cells #[] 5)).drew w6.heap.size (.slice (some ⟨w6.heap.size, 0, none⟩) 0 0) [] := (nil_own w6).below (Below.refl _ _).drew
    have bN := q6.below cA.drew
    have lA := l6.alloc (.cells #[] 5)
    have ⟨x0, x1, x2, x3⟩ := l6
    have ⟨y0, y1, y2, y3⟩ := lA
    have NL := Lib.hid nL
    have BN := Lib.hid bN
    have L6 := Lib.hid l6
    have CA := Lib.hid cA
    clear nL bN l6 lA cA RR R1 R2 R3 A1 A2 A3 q6 x6 y6
    go_region_law (first
      | (refine step_append_bs rfl (.tmp 52) (.tmp 53) rfl (by simp [Act.eval]) (by simp [Act.eval]) NL.out BN.out s1 (show w6.heap.size ≤ (w6.alloc (.cells #[] 5)).drew.heap.size from zA) ?_; intro vA wA oA gA; have dA := CA.out.drew.grown gA zA NL.out.row; have ⟨u0, u1, u2, u3⟩ := L6.out.below dA; rw [List.nil_append] at oA; have zz := dA.size)
      | (go_simp; go_at_call 14; refine ((P3.out vA).choose_spec.choose_spec.2 _ oA.bs).mono ?_; rintro e wB ⟨vB, rfl, oB, hbB⟩))
    all_goals (go_wp2_with fail; go_meet; exact ⟨_, _, (P3.out vA).choose_spec.choose_spec.1, rfl, oB.base zz, dA.trans (hbB.mono zz)⟩)
  case rest =>
  rename World => w7
  obtain ⟨E, L, hE, rfl, hO7, hb7⟩ := hcut
  have l7 := l6.below hb7
  have c7 := Below.chain c6 hb7
  have q7 := (q6.below hb7).size
  have x7 := (x6.below hb7).size
  have y7 := (y6.below hb7).size
  have ⟨x0, x1, x2, x3⟩ := l7
  have HE := Lib.hid hE
  clear hE l6 c6 q6 x6 y6 hb7 P3
  go_wp2_with fail
  refine (RR.out _).mono ?_; rintro e w8 ⟨rfl, hb8⟩
  have l8 := l7.below hb8
  have c8 := Below.chain c7 hb8
  have q8 := (q7.below hb8).size
  have x8 := (x7.below hb8).size
  have y8 := (y7.below hb8).size
  have z8 := (hO7.bs.below hb8).size
  clear x0 x1 x2 x3 l7 c7 q7 x7 y7 hO7 hb8 RR
  go_upto_region 10 with fail
  go_cut [82] (fun s82 wx => s82 = .bool false ∧ Below w8.heap.size w8 wx)
  case first =>
    have g1 : ∀ x : Later w8, (convert 22 9 v3).run Try.prog x.w = .ok (.string ⟨(l ++ N).toArray⟩) x.w := fun x => run_string_bs (x8.below x.kept)
    have g2 : ∀ x : Later w8, (convert 22 9 v4).run Try.prog x.w = .ok (.string ⟨(l ++ T).toArray⟩) x.w := fun x => run_string_bs (y8.below x.kept)
    have g3 : ∀ x : Later w8, (convert 22 9 (.slice a2 l.length cp2)).run Try.prog x.w = .ok (.string ⟨l.toArray⟩) x.w := fun x => run_string_bs (q8.below x.kept)
    have a1 := A1.out
    have a2' := A2.out
    have D1 := R1.out
    have D2 := R2.out
    clear l8 q8 x8 y8 z8 R1 R2 R3 A1 A2 A3
    refine wp_region_later (by kernel_rfl) (by kernel_rfl) ?_
    repeat (go_big_quiet_step (first | with_reducible exact later_call (D1 _) | with_reducible exact later_call (D2 _)))
    refine wpQuiet_nil ?_
    rintro w' ⟨x, rfl⟩
    go_wp2_with fail
    go_meet
    exact ⟨rfl, x.kept⟩
  case rest =>
  rename World => w9
  obtain ⟨rfl, hb9⟩ := hcut
  have l9 := l8.below hb9
  have c9 := Below.chain c8 hb9
  have z9 := (z8.below hb9).size
  clear l8 c8 q8 x8 y8 z8 hb9 R1 R2 A1 A2
  rcases HE.out with ⟨rfl, rfl, rfl⟩ | ⟨rfl, rfl, rfl⟩
  · have D3 := R3.out rfl
    have g1 : ∀ x : Later w9, (convert 22 9 u18).run Try.prog x.w = .ok (.string ⟨(l ++ R).toArray⟩) x.w := fun x => run_string_bs (z9.below x.kept)
    have l10 : ∀ x : Later w9, Lies x.w w5.heap.size (.int .i64 k) (.int .i64 nn) (.float .f64 f) (.string S) := fun x => l9.below x.kept
    have g2 := fun x : Later w9 => (l10 x).1
    have g3 := fun x : Later w9 => (l10 x).2.1
    have g4 := fun x : Later w9 => (l10 x).2.2.1
    have g5 := fun x : Later w9 => (l10 x).2.2.2
    have a3 := A3.out
    clear l9 l10 z9 R3 A3 HE
    go_wp2_with fail
    refine wp_region_later (by kernel_rfl) (by kernel_rfl) ?_
    repeat (go_big_quiet_step (first | with_reducible exact later_call (D3 _)))
    refine wpQuiet_nil ?_
    rintro w' ⟨x, rfl⟩
    go_wp2_with fail
    go_ret
    exact ⟨rfl, Below.chain c9 x.kept⟩
  · have g1 := run_string_bs z9
    go_wp2_with fail
    go_ret
    exact ⟨rfl, c9⟩
theorem walk (v : Value) (l : List UInt8) (n : Nat) (s : ByteArray) (k nn : Int) (f : Nat) (w : World) (hB : Bs w.heap.size w v l) (hn : n < 18446744073709551616) (hk1 : -9223372036854775808 ≤ k) (hk2 : k ≤ 9223372036854775807) (hn1 : -9223372036854775808 ≤ nn) (hn2 : nn ≤ 9223372036854775807) (hf : f < 18446744073709551616) :
    Calls Try.prog 3 #[v, .int .u64 n, .string s, .int .i64 k, .int .i64 nn, .int .u64 (f : Int)] w fun e w' => e = .returned (.bool true) ∧ Below w.heap.size w w' := by
  obtain ⟨ao, cap, rfl⟩ := hB.shape
  exact walk_core n f (min s.size 300) (min l.length 100) s k nn ao _ cap l _ w hn hf hn1 hn2 (by omega) (by omega) hB (by omega) rfl
end Go.Proofs.Ytcbogapnhabhkaa.PackWrites
