/- The walk of the law PackReads. -/
import Derived.Test.YtcbogapnhabhkaaPX
namespace Go.Proofs.Ytcbogapnhabhkaa.PackReads
open Go Go.RowKit
set_option linter.unusedVariables false
set_option maxHeartbeats 4000000 in
set_option maxRecDepth 100000 in
theorem walk_core (ao : Option Addr) (len cap m : Nat) (l0 l : List UInt8) (w : World) (hB0 : Bs w.heap.size w (.slice ao len cap) l0) (hm : min (len : Int) 300 = (m : Int)) (hl : l = l0.take m) :
    Calls Try.prog 4 #[.slice ao len cap] w fun e w' => e = .returned (.bool true) ∧ Below w.heap.size w w' := by
  have hsf := run_store_float
  obtain ⟨hcl, rfl⟩ := hB0.cap
  have hml : m ≤ l0.length := by omega
  have hB := hB0.headc m hml
  rw [← hl] at hB
  have hlL : l.length ≤ 300 := by rw [hl]; simp; omega
  have imc : (m : Int) ≤ (cap : Int) := by omega
  have hsz : (⟨l.toArray⟩ : ByteArray).size = l.length := by simp [ByteArray.size]
  have hdl : (⟨l.toArray⟩ : ByteArray).data.toList = l := rfl
  have r1 := rget_any ⟨l.toArray⟩ (by omega)
  have r2 := rtextR_any ⟨l.toArray⟩ (by omega)
  have r3 := rvalue_any ⟨l.toArray⟩ (by omega)
  rw [hsz, hdl] at r1 r2 r3
  have p1 := fun v w1 hb => get_any v l w1 hb (by omega)
  have p2 := fun v w1 hb => gtext_any v l w1 hb (by omega)
  have p3 := fun v w1 hb => gval_any v l w1 hb (by omega)
  obtain ⟨n, K1, ok1, e1, -⟩ := get_parts l
  obtain ⟨s, K2, ok2, e2, -⟩ := text_parts l
  obtain ⟨k3, n3, f3, s3, K3, ok3, e3, -, -, -, -, hf3, -⟩ := val_parts l
  rw [e1] at r1 p1
  rw [e2] at r2 p2
  rw [e3] at r3 p3
  have SM := Lib.hid (fun w1 => rsame_any k3 n3 k3 n3 f3 f3 hf3 hf3 ⟨s3.toArray⟩ ⟨s3.toArray⟩ w1)
  have hid : idB k3 n3 (Flt.canon f3) ⟨s3.toArray⟩ k3 n3 (Flt.canon f3) ⟨s3.toArray⟩ = true := by unfold idB; simp
  rw [hid] at SM
  have R1 := Lib.hid r1
  have R2 := Lib.hid r2
  have R3 := Lib.hid r3
  have P1 := Lib.hid p1
  have P2 := Lib.hid p2
  have P3 := Lib.hid p3
  clear r1 r2 r3 p1 p2 p3 e1 e2 e3 hB0 hl hid hdl
  generalize hX : (⟨s3.toArray⟩ : ByteArray) = S3 at *
  generalize hY : (⟨s.toArray⟩ : ByteArray) = S at *
  go_enter Try.func4, Try.ntmps4
  go_wp2_with fail
  refine (shown_any _).mono ?_; rintro e w1 ⟨rfl, hb1⟩
  have nL1 := nil_own w1
  have cA1 := below_a1 w1 (.cells #[] 5)
  have zA1 := cA1.size
  have bN1 := hB.below (Below.chain hb1 cA1)
  have s1 : ([] : List UInt8).length + l.length ≤ 1000000 := by simp only [List.length_nil]; omega
  go_upto_region 4 with (at_builtin; refine wpList_append_bs rfl _ _ rfl rfl rfl nL1 bN1 s1 zA1 ?_; intro v2 w2 hO2 hg2)
  have d2 := cA1.grown hg2 zA1 nL1.row
  have c2 := Below.chain hb1 d2
  rw [List.nil_append] at hO2
  have q2 := hO2.bs
  have g2 := run_string_bs (hB.below c2)
  clear nL1 cA1 zA1 bN1 hg2 d2 hb1 hO2
  generalize hZ : (⟨l.toArray⟩ : ByteArray) = L at *
  go_wp2_with fail
  refine (P1.out _ _ q2).mono ?_; rintro e w3 ⟨rfl, hb3⟩
  have c3 := Below.chain c2 hb3
  have q3 := (q2.below hb3).size
  clear g2 c2 q2 hb3 P1
  go_wp2_with fail
  refine (R1.out _).mono ?_; rintro e w4 ⟨rfl, hb4⟩
  have c4 := Below.chain c3 hb4
  have q4 := (q3.below hb4).size
  clear c3 q3 hb4 R1
  go_wp2_with fail
  refine (P2.out _ _ q4).mono ?_; rintro e w5 ⟨rfl, hb5⟩
  have c5 := Below.chain c4 hb5
  have q5 := (q4.below hb5).size
  clear c4 q4 hb5 P2
  go_wp2_with fail
  refine (R2.out _).mono ?_; rintro e w6 ⟨rfl, hb6⟩
  have c6 := Below.chain c5 hb6
  have q6 := (q5.below hb6).size
  clear c5 q5 hb6 R2
  go_wp2_with fail
  refine (P3.out _ _ q6).mono ?_; rintro e w7 ⟨rfl, hb7⟩
  have l7 := lies_new w7 (.int .i64 k3) (.int .i64 n3) (.float .f64 f3) (.string S3) 29
  have ca := below_a1 w7 (.cells #[.int .i64 k3, .int .i64 n3, .float .f64 f3, .string S3] 29)
  have c7 := Below.chain (Below.chain c6 hb7) ca
  have q7 := ((q6.below hb7).size.below ca).size
  clear c6 q6 hb7 P3 ca
  go_wp2_with fail
  refine (R3.out _).mono ?_; rintro e w8 ⟨rfl, hb8⟩
  have ca := below_a1 w8 (.cells #[.int .i64 k3, .int .i64 n3, .float .f64 f3, .string S3] 29)
  have l8 := (l7.below hb8).alloc (.cells #[.int .i64 k3, .int .i64 n3, .float .f64 f3, .string S3] 29)
  have m8 := lies_new w8 (.int .i64 k3) (.int .i64 n3) (.float .f64 f3) (.string S3) 29
  have c8 := Below.chain (Below.chain c7 hb8) ca
  have q8 := ((q7.below hb8).size.below ca).size
  clear c7 q7 hb8 l7 ca R3
  have ⟨x0, x1, x2, x3⟩ := l8
  have ⟨y0, y1, y2, y3⟩ := m8
  go_wp2_with fail
  refine (SM.out _).mono ?_; rintro e w9 ⟨rfl, hb9⟩
  have g9 := run_string_bs (q8.below hb9)
  rw [hZ] at g9
  have c9 := Below.chain c8 hb9
  clear x0 x1 x2 x3 y0 y1 y2 y3 l8 m8 c8 q8 hb9 SM
  go_wp2_with fail
  go_ret
  exact ⟨rfl, c9⟩
theorem walk (v : Value) (l : List UInt8) (w : World) (hB : Bs w.heap.size w v l) :
    Calls Try.prog 4 #[v] w fun e w' => e = .returned (.bool true) ∧ Below w.heap.size w w' := by
  obtain ⟨ao, cap, rfl⟩ := hB.shape
  exact walk_core ao _ cap (min l.length 300) l _ w hB (by omega) rfl
end Go.Proofs.Ytcbogapnhabhkaa.PackReads
