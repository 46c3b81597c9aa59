/- The walk of the law PackOne. -/
import Derived.Test.YtcbogapnhabhkaaPQ
namespace Go.Proofs.Ytcbogapnhabhkaa.PackOne
open Go Go.RowKit
set_option linter.unusedVariables false
set_option maxHeartbeats 2000000 in
set_option maxRecDepth 100000 in
theorem walk_core (ao : Option Addr) (len cap m : Nat) (l0 l : List UInt8) (w : World) (hB0 : Bs w.heap.size w (.slice ao len cap) l0) (hm : min (len : Int) 300 = (m : Int)) (hl : l = l0.take m) :
    Calls Try.prog 6 #[.slice ao len cap] w fun e w' => e = .returned (.bool true) ∧ Below w.heap.size w w' := by
  have hsf := run_store_float
  obtain ⟨hcl, rfl⟩ := hB0.cap
  have hml : m ≤ l0.length := by omega
  have hB := hB0.headc m hml
  rw [← hl] at hB
  have hlm : l.length = m := by rw [hl]; simp; omega
  have hlL : l.length ≤ 300 := by omega
  have imc : (m : Int) ≤ (cap : Int) := by omega
  obtain ⟨n, K1, ok1, e1, hn, hK1, t1⟩ := get_parts l
  obtain ⟨s, K2, ok2, e2, hs2, hK2, t2⟩ := text_parts l
  obtain ⟨k3, n3, f3, s3, K3, ok3, e3, hs3, hK3, t3, u3, hf3, hn1, hn2⟩ := val_parts l
  have G1 := fun w1 hb => get_any (.slice ao m cap) l w1 hb (by omega)
  have G2 := fun w1 hb => gtext_any (.slice ao m cap) l w1 hb (by omega)
  have G3 := fun w1 hb => gval_any (.slice ao m cap) l w1 hb (by omega)
  rw [e1] at G1
  rw [e2] at G2
  rw [e3] at G3
  have H1 := Lib.hid G1
  have H2 := Lib.hid G2
  have H3 := Lib.hid G3
  have T1 := Lib.hid t1
  have T2 := Lib.hid t2
  have T3 := Lib.hid t3
  have U3 := Lib.hid u3
  clear G1 G2 G3 t1 t2 t3 u3 e1 e2 e3 hB0 hl
  go_enter Try.func6, Try.ntmps6
  go_wp2_with fail
  refine (shown_any _).mono ?_; rintro e w1 ⟨rfl, hb1⟩
  go_wp2_with fail
  refine (H1.out _ (hB.below hb1).size).mono ?_; rintro e w2 ⟨rfl, hb2⟩
  have c2 := Below.chain hb1 hb2
  go_upto_region 4 with fail
  go_cut [37] (fun s37 wx => s37 = .bool false ∧ Below w2.heap.size w2 wx)
  case first =>
    cases ok1 with
    | false =>
      go_region
      all_goals (go_wp2_with fail; go_meet; exact ⟨rfl, (Below.refl _ _).drew⟩)
    | true =>
      have hd := T1.out rfl
      have hq : (numB n == l.take K1) = true := by rw [hd]; simp
      have P1 := Lib.hid (put_nil n hn)
      have iK : (K1 : Int) ≤ (cap : Int) := by omega
      have g1 := run_string_bs ((hB.headc K1 hK1).below (c2.drew))
      have hBK := (hB.headc K1 hK1).below c2.drew
      have hw2 : w.heap.size ≤ w2.heap.size := c2.size
      have HBK := Lib.hid hBK
      clear hBK H1 H2 H3 T1 T2 T3 U3 hd
      go_region_with (refine (P1.out _).mono ?_; rintro e wa ⟨va, rfl, hOa, hba⟩; have ga := run_string_bs hOa.bs; have gb := run_string_bs (HBK.out.below (hba.mono hw2)))
      all_goals (go_wp2_with fail; go_meet; exact ⟨rfl, (Below.refl _ _).drew.trans hba⟩)
  case rest =>
  rename World => w3
  obtain ⟨rfl, hb3⟩ := hcut
  have c3 := Below.chain c2 hb3
  clear hb1 hb2 hb3 c2 H1 T1
  go_wp2_with fail
  refine (H2.out _ (hB.below c3).size).mono ?_; rintro e w4 ⟨rfl, hb4⟩
  have c4 := Below.chain c3 hb4
  clear c3 hb4
  go_upto_region 7 with fail
  go_cut [54] (fun s54 wx => s54 = .bool false ∧ Below w4.heap.size w4 wx)
  case first =>
    cases ok2 with
    | false =>
      go_region
      all_goals (go_wp2_with fail; go_meet; exact ⟨rfl, (Below.refl _ _).drew⟩)
    | true =>
      have hd := T2.out rfl
      have hq : (textB s == l.take K2) = true := by rw [hd]; simp
      have P1 := Lib.hid (fun w1 => puttext_any (.slice none 0 0) [] ⟨s.toArray⟩ (by show s.toArray.size ≤ 400000; simp; omega) (by simp) w1 (Bs.nil _ _))
      have iK : (K2 : Int) ≤ (cap : Int) := by omega
      have hBK := (hB.headc K2 hK2).below c4.drew
      have g1 := run_string_bs hBK
      have hw2 : w.heap.size ≤ w4.heap.size := c4.size
      have HBK := Lib.hid hBK
      clear hBK H2 H3 T2 T3 U3 hd
      go_region_with (refine (P1.out _).mono ?_; rintro e wa ⟨va, rfl, hOa, hba⟩; rw [List.nil_append] at hOa; have ga := run_string_bs hOa.bs; have gb := run_string_bs (HBK.out.below (hba.mono hw2)))
      all_goals (go_wp2_with fail; go_meet; exact ⟨rfl, (Below.refl _ _).drew.trans hba⟩)
  case rest =>
  rename World => w5
  obtain ⟨rfl, hb5⟩ := hcut
  have c5 := Below.chain c4 hb5
  clear hb5 c4 H2 T2
  go_wp2_with fail
  refine (H3.out _ (hB.below c5).size).mono ?_; rintro e w6 ⟨rfl, hb6⟩
  have c6 := Below.chain c5 hb6
  have l6 := lies_new w6 (.int .i64 k3) (.int .i64 n3) (.float .f64 f3) (.string ⟨s3.toArray⟩) 29
  have c7 := Below.chain c6 (below_a1 w6 (.cells #[.int .i64 k3, .int .i64 n3, .float .f64 f3, .string ⟨s3.toArray⟩] 29))
  clear c5 hb6 c6 H3
  have ⟨x0, x1, x2, x3⟩ := l6
  cases ok3 with
  | false =>
    obtain ⟨rfl, rfl⟩ := U3.out rfl
    go_wp2_with fail
    go_ret
    exact ⟨rfl, c7⟩
  | true =>
    obtain ⟨RX, hd⟩ := T3.out rfl
    have P3 := Lib.hid (fun w1 => putval_ok (.slice none 0 0) [] k3 n3 f3 ⟨s3.toArray⟩ RX.right hn1 hn2 hf3 (by show s3.toArray.size ≤ 400000; simp; omega) (by simp) w1 (Bs.nil _ _))
    simp only [List.nil_append] at P3
    rw [← hd] at P3
    clear RX hd T3 U3
    go_wp2_with fail
    refine (P3.out _).mono ?_; rintro e w8 ⟨v8, rfl, hO8, hb8⟩
    have c8 := (Below.chain c7 hb8).drew
    have g1 := run_string_bs ((hB.headc K3 hK3).below c8)
    have g2 : (convert 22 9 v8).run Try.prog w8.drew = .ok (.string ⟨(l.take K3).toArray⟩) w8.drew := run_string_bs (hO8.bs.below (Below.refl _ _).drew)
    have iK : (K3 : Int) ≤ (cap : Int) := by omega
    clear x0 x1 x2 x3 l6 c7 hb8 hO8 P3 hsf
    go_wp2_with fail
    refine wp_region_tail 14 (by kernel_rfl) (by kernel_rfl) ?_
    simp only [List.take_succ_cons, List.take_zero, List.drop_succ_cons, List.drop_zero]
    repeat still_step
    refine wpStill_nil ?_
    go_wp2_with fail
    go_ret
    exact ⟨rfl, c8⟩
theorem walk (v : Value) (l : List UInt8) (w : World) (hB : Bs w.heap.size w v l) :
    Calls Try.prog 6 #[v] w fun e w' => e = .returned (.bool true) ∧ Below w.heap.size w w' := by
  obtain ⟨ao, cap, rfl⟩ := hB.shape
  exact walk_core ao _ cap (min l.length 300) l _ w hB (by omega) rfl
end Go.Proofs.Ytcbogapnhabhkaa.PackOne
