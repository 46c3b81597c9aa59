/- The walk of the law PackUnlike. -/
import Derived.Test.YtcbogapnhabhkaaPP
namespace Go.Proofs.Ytcbogapnhabhkaa.PackUnlike
open Go Go.RowKit
set_option linter.unusedVariables false
set_option maxHeartbeats 2000000 in
set_option maxRecDepth 100000 in
theorem walk_core (k n k' n' : Int) (f f' m m' : Nat) (s s' : ByteArray) (hn1 : -9223372036854775808 ≤ n) (hn2 : n ≤ 9223372036854775807) (hf : f < 18446744073709551616) (hn1' : -9223372036854775808 ≤ n') (hn2' : n' ≤ 9223372036854775807) (hf' : f' < 18446744073709551616)
    (hm : min (s.size : Int) 100 = (m : Int)) (hl : m ≤ s.size) (hm' : min (s'.size : Int) 100 = (m' : Int)) (hl' : m' ≤ s'.size) (w : World) :
    Calls Try.prog 9 #[.int .i64 k, .int .i64 n, .int .u64 (f : Int), .string s, .int .i64 k', .int .i64 n', .int .u64 (f' : Int), .string s'] w fun e w' => e = .returned (.bool true) ∧ Below w.heap.size w w' := by
  have hsf := run_store_float
  have hs : (s.extract 0 m).size ≤ 400000 := by simp; omega
  have hs' : (s'.extract 0 m').size ≤ 400000 := by simp; omega
  obtain ⟨E, L, hE, C1⟩ := putval_any (.slice none 0 0) [] k n f (s.extract 0 m) hn1 hn2 hf hs (by simp)
  obtain ⟨E', L', hE', C2⟩ := putval_any (.slice none 0 0) [] k' n' f' (s'.extract 0 m') hn1' hn2' hf' hs' (by simp)
  have D1 := Lib.hid C1
  have D2 := Lib.hid C2
  have HE := Lib.hid hE
  have HE' := Lib.hid hE'
  have HS := Lib.hid (rsame_any k n k' n' f f' hf hf' (s.extract 0 m) (s'.extract 0 m'))
  clear C1 C2 hE hE'
  go_enter Try.func9, Try.ntmps9
  go_wp2_with fail
  refine (shown_any _).mono ?_; rintro e w1 ⟨rfl, hb1⟩
  go_wp2_with fail
  refine (value_any k n f (s.extract 0 m) _).mono ?_; rintro e w2 ⟨rfl, hb2⟩
  have l2 := lies_new w2 (.int .i64 k) (.int .i64 n) (.float .f64 f) (.string (s.extract 0 m)) 29
  have c2 := Below.chain (Below.chain hb1 hb2) (below_a1 w2 (.cells #[.int .i64 k, .int .i64 n, .float .f64 f, .string (s.extract 0 m)] 29))
  go_wp2_with fail
  refine (value_any k' n' f' (s'.extract 0 m') _).mono ?_; rintro e w3 ⟨rfl, hb3⟩
  have l3 := (l2.below hb3).alloc (.cells #[.int .i64 k', .int .i64 n', .float .f64 f', .string (s'.extract 0 m')] 29)
  have r3 := lies_new w3 (.int .i64 k') (.int .i64 n') (.float .f64 f') (.string (s'.extract 0 m')) 29
  have c3 := Below.chain (Below.chain c2 hb3) (below_a1 w3 (.cells #[.int .i64 k', .int .i64 n', .float .f64 f', .string (s'.extract 0 m')] 29))
  have ⟨x0, x1, x2, x3⟩ := l3
  have ⟨y0, y1, y2, y3⟩ := r3
  clear l2 c2 hb1 hb2 hb3 hm hm'
  go_wp2_with fail
  refine (D1.out _ (Bs.nil _ _)).mono ?_; rintro e w4 ⟨v4, rfl, hO4, hb4⟩
  have l4 := l3.below hb4
  have r4 := r3.below hb4
  have c4 := Below.chain c3 hb4
  clear x0 x1 x2 x3 y0 y1 y2 y3 l3 r3 c3
  have ⟨x0, x1, x2, x3⟩ := l4
  have ⟨y0, y1, y2, y3⟩ := r4
  go_wp2_with fail
  refine (D2.out _ (Bs.nil _ _)).mono ?_; rintro e w5 ⟨v5, rfl, hO5, hb5⟩
  have l5 := l4.below hb5
  have r5 := r4.below hb5
  have c5 := Below.chain c4 hb5
  have hB4 := (hO4.bs.below hb5).size
  have hB5 := hO5.bs
  clear x0 x1 x2 x3 y0 y1 y2 y3 l4 r4 c4 hb4 hb5 hO4 hO5 D1 D2
  have ⟨x0, x1, x2, x3⟩ := l5
  have ⟨y0, y1, y2, y3⟩ := r5
  rcases HE'.out with ⟨hr', rfl, rfl⟩ | ⟨hr', rfl, rfl⟩
  · rcases HE.out with ⟨hr, rfl, rfl⟩ | ⟨hr, rfl, rfl⟩
    · have RX := rv_of hr hn1 hn2 hf hs
      have RY := rv_of hr' hn1' hn2' hf' hs'
      have hsame := same_parts hr hr'
      have hrow := row_same RX RY
      simp only [V4.row] at hrow
      rw [List.nil_append] at hB4 hB5
      generalize rowV k n f (s.extract 0 m).data.toList = A at *
      generalize rowV k' n' f' (s'.extract 0 m').data.toList = B at *
      obtain ⟨a4, cp4, rfl⟩ := hB4.shape
      obtain ⟨a5, cp5, rfl⟩ := hB5.shape
      generalize hT : idB k n (Flt.canon f) (s.extract 0 m) k' n' (Flt.canon f') (s'.extract 0 m') = T at *
      have q1 : (T == (A == B)) = true := by rw [beq_iff_eq, Bool.eq_iff_iff, hsame, beq_iff_eq]; exact hrow.1.symm
      obtain ⟨M, hM⟩ : ∃ M, M = min A.length B.length := ⟨_, rfl⟩
      rw [← hM] at hrow
      have hMI : min (A.length : Int) (B.length : Int) = (M : Int) := by omega
      have hMA : M ≤ A.length := by omega
      have hMB : M ≤ B.length := by omega
      have hcA := hB4.cap.1
      have hcB := hB5.cap.1
      have q2 : (T == (A.take M == B.take M)) = true := by rw [beq_iff_eq, Bool.eq_iff_iff, hsame, beq_iff_eq]; exact hrow.2.symm
      clear hrow hsame RX RY hT hr hr' HE HE' hM
      go_wp2_with fail
      refine (HS.out _).mono ?_; rintro e w6 ⟨rfl, hb6⟩
      have c6 := (Below.chain c5 hb6).drew
      have g1 := run_string_bs (hB4.below hb6.drew)
      have g2 := run_string_bs (hB5.below hb6.drew)
      have g3 := run_string_bs ((hB4.headc M hMA).below hb6.drew)
      have g4 := run_string_bs ((hB5.headc M hMB).below hb6.drew)
      have i1 : (M : Int) ≤ (cp4 : Int) := by omega
      have i2 : (M : Int) ≤ (cp5 : Int) := by omega
      clear x0 x1 x2 x3 y0 y1 y2 y3 l5 r5 c5 hB4 hB5 hb6 HS hsf hs hs' hl hl' hf hf' hn1 hn2 hn1' hn2'
      go_wp2_with fail
      refine wp_region_tail 23 (by kernel_rfl) (by kernel_rfl) ?_
      simp only [List.take_succ_cons, List.take_zero, List.drop_succ_cons, List.drop_zero]
      repeat still_step
      refine wpStill_nil ?_
      go_wp2_with fail
      go_ret
      exact ⟨rfl, c6⟩
    · go_wp2_with fail
      go_ret
      exact ⟨rfl, c5⟩
  · go_wp2_with fail
    all_goals go_ret
    all_goals exact ⟨rfl, c5⟩
theorem walk (k n : Int) (f : Nat) (s : ByteArray) (k' n' : Int) (f' : Nat) (s' : ByteArray) (hk1 : -9223372036854775808 ≤ k) (hk2 : k ≤ 9223372036854775807) (hn1 : -9223372036854775808 ≤ n) (hn2 : n ≤ 9223372036854775807) (hf : f < 18446744073709551616)
    (hk1' : -9223372036854775808 ≤ k') (hk2' : k' ≤ 9223372036854775807) (hn1' : -9223372036854775808 ≤ n') (hn2' : n' ≤ 9223372036854775807) (hf' : f' < 18446744073709551616) (w : World) :
    Calls Try.prog 9 #[.int .i64 k, .int .i64 n, .int .u64 (f : Int), .string s, .int .i64 k', .int .i64 n', .int .u64 (f' : Int), .string s'] w fun e w' => e = .returned (.bool true) ∧ Below w.heap.size w w' :=
  walk_core k n k' n' f f' (min s.size 100) (min s'.size 100) s s' hn1 hn2 hf hn1' hn2' hf' (by omega) (by omega) (by omega) (by omega) w
end Go.Proofs.Ytcbogapnhabhkaa.PackUnlike
