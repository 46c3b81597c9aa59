/- The walk of the law LogicTells. -/
import Derived.Test.YtblehbcehfmnkaaLM
import Derived.Laws.StructEq
namespace Go.Proofs.Ytblehbcehfmnkaa.LogicTells
open Go Go.RowKit
set_option linter.unusedVariables false
theorem eq_zero (d : Nat) (w : World) : (Op.equalIn (d + 1) 22 (.float .f64 0) (.float .f64 0)).run Try.prog w = .ok true w := by
  simp [Op.equalIn, run_underlying Try.underlying22]
  decide
theorem below_a2 (w : World) (o p : Obj) : Below w.heap.size w ((w.alloc o).alloc p) := (below_a1 w o).alloc (by simp) p
theorem known_true {n : Int} (h : knB n = true) : vK n = 1 ∧ vN n = n ∧ isI n = 0 := by
  have : n = 0 ∨ n = 1 := by simpa [knB] using h
  rcases this with rfl | rfl <;> exact ⟨by decide, by decide, by decide⟩
theorem known_false {n : Int} (h : knB n = false) : vK n = 0 ∧ vN n = 0 ∧ isI n = 1 := by
  have : ¬ n = 0 ∧ ¬ n = 1 := by simpa [knB] using h
  unfold vK vN isI
  rw [if_neg (by omega), if_neg (by omega), if_neg (by omega)]
  exact ⟨rfl, rfl, rfl⟩
set_option maxHeartbeats 8000000 in
theorem walk (k m : Int) (f : Nat) (s : ByteArray) (v : Value) (l : List Int) (n : Int) (w : World) (h : Ts w.heap.size w v l) (h1 : -9223372036854775808 ≤ n) (h2 : n ≤ 9223372036854775807) :
    Calls Try.prog 3 #[av k m f s, v, .int .i64 n] w fun e w' => e = .returned (.bool true) ∧ Below w.heap.size w w' := by
  have hsf := run_store_float
  have hef := eq_zero
  have O := Lib.hid (of_any k m f s)
  have R := Lib.hid (rof_any k m f s)
  rw [ofR] at O R
  generalize ofI k m = oi at *
  generalize ofE k m = oe at *
  have eo : (oi == oi) = true := by simp
  have ee : (oe == oe) = true := by simp
  have V := Lib.hid (value_any n)
  have K := Lib.hid (known_any n)
  have I := Lib.hid (is_any n)
  have N := Lib.hid (not_any n)
  have M := Lib.hid (rnot_any n)
  generalize notI n = nn at *
  have en : (nn == nn) = true := by simp
  have HH := Lib.hid h
  clear h h1 h2
  have nb : (n == n) = true := by simp
  cases hk : knB n
  · rw [(known_false hk).1, (known_false hk).2.1] at V
    rw [hk] at K
    rw [(known_false hk).2.2] at I
    clear hk
    go_enter Try.func3, Try.ntmps3
    go_wp2_with fail
    refine (shown_any _).mono ?_; rintro e w1 ⟨rfl, hb1⟩
    have L1 := (lies_new w (.int .i64 k) (.int .i64 m) (.float .f64 f) (.string s) 24).below hb1
    have c1 := Below.chain (below_a1 w _) hb1
    clear hb1
    have ⟨p0, p1, p2, p3⟩ := L1
    go_wp2_with fail
    (with_reducible refine (O.out _).mono ?_); rintro e w2 ⟨rfl, hb2⟩
    have L2 := L1.below hb2
    have c2 := Below.chain c1 hb2
    clear p0 p1 p2 p3 L1 hb2 c1
    have ⟨p0, p1, p2, p3⟩ := L2
    go_wp2_with fail
    (with_reducible refine (R.out _).mono ?_); rintro e w3 ⟨rfl, hb3⟩
    have c3 := Below.chain c2 hb3
    clear p0 p1 p2 p3 L2 hb3 c2
    have TR := Lib.hid (truths_any l v w3 (HH.out.later c3))
    go_wp2_with fail
    (with_reducible refine TR.out.mono ?_); rintro e w4 ⟨v1, v2, rfl, hO, hT2, hb4⟩
    have c4 := Below.chain c3 hb4
    have hT1 := hO.ts
    clear hO TR hb4 c3
    generalize l.take 100 = T at *
    go_wp2_with fail
    (with_reducible refine (V.out _).mono ?_); rintro e w5 ⟨rfl, hb5⟩
    have c5 := Below.chain c4 hb5
    have hT1 := hT1.later hb5
    have hT2 := hT2.later hb5
    clear hb5 c4
    go_wp2_with fail
    (with_reducible refine (K.out _).mono ?_); rintro e wz ⟨rfl, rfl⟩
    go_wp2_with fail
    (with_reducible refine (K.out _).mono ?_); rintro e wz ⟨rfl, rfl⟩
    have A0 := Lib.hid (fun o p => and_any T v1 _ _ (hT1.later (below_a2 w5 o p)))
    have A1 := Lib.hid (fun o p => or_any T v1 _ _ (hT1.later (below_a2 w5 o p)))
    have R0 := Lib.hid (fun o p => rall_any 0 (.inl rfl) T v2 _ _ (hT2.later (below_a2 w5 o p)))
    have R1 := Lib.hid (fun o p => rall_any 1 (.inr rfl) T v2 _ _ (hT2.later (below_a2 w5 o p)))
    clear hT1 hT2
    generalize joinI 0 T = j0 at *
    generalize joinI 1 T = j1 at *
    have e0 : (j0 == j0) = true := by simp
    have e1 : (j1 == j1) = true := by simp
    go_wp2_with fail
    (with_reducible refine (A0.out _ _).mono ?_); rintro e wz ⟨rfl, rfl⟩
    go_wp2_with fail
    (with_reducible refine (R0.out _ _).mono ?_); rintro e wz ⟨rfl, rfl⟩
    go_wp2_with fail
    (with_reducible refine (A1.out _ _).mono ?_); rintro e wz ⟨rfl, rfl⟩
    go_wp2_with fail
    (with_reducible refine (R1.out _ _).mono ?_); rintro e wz ⟨rfl, rfl⟩
    go_wp2_with fail
    (with_reducible refine (N.out _).mono ?_); rintro e wz ⟨rfl, rfl⟩
    go_wp2_with fail
    (with_reducible refine (M.out _).mono ?_); rintro e wz ⟨rfl, rfl⟩
    go_wp2_with fail
    (with_reducible refine (I.out _).mono ?_); rintro e wz ⟨rfl, rfl⟩
    go_wp2_with fail
    go_ret
    exact ⟨rfl, Below.chain c5 (below_a2 _ _ _)⟩
  · rw [(known_true hk).1, (known_true hk).2.1] at V
    rw [hk] at K
    rw [(known_true hk).2.2] at I
    clear hk
    go_enter Try.func3, Try.ntmps3
    go_wp2_with fail
    refine (shown_any _).mono ?_; rintro e w1 ⟨rfl, hb1⟩
    have L1 := (lies_new w (.int .i64 k) (.int .i64 m) (.float .f64 f) (.string s) 24).below hb1
    have c1 := Below.chain (below_a1 w _) hb1
    clear hb1
    have ⟨p0, p1, p2, p3⟩ := L1
    go_wp2_with fail
    (with_reducible refine (O.out _).mono ?_); rintro e w2 ⟨rfl, hb2⟩
    have L2 := L1.below hb2
    have c2 := Below.chain c1 hb2
    clear p0 p1 p2 p3 L1 hb2 c1
    have ⟨p0, p1, p2, p3⟩ := L2
    go_wp2_with fail
    (with_reducible refine (R.out _).mono ?_); rintro e w3 ⟨rfl, hb3⟩
    have c3 := Below.chain c2 hb3
    clear p0 p1 p2 p3 L2 hb3 c2
    have TR := Lib.hid (truths_any l v w3 (HH.out.later c3))
    go_wp2_with fail
    (with_reducible refine TR.out.mono ?_); rintro e w4 ⟨v1, v2, rfl, hO, hT2, hb4⟩
    have c4 := Below.chain c3 hb4
    have hT1 := hO.ts
    clear hO TR hb4 c3
    generalize l.take 100 = T at *
    go_wp2_with fail
    (with_reducible refine (V.out _).mono ?_); rintro e w5 ⟨rfl, hb5⟩
    have c5 := Below.chain c4 hb5
    have hT1 := hT1.later hb5
    have hT2 := hT2.later hb5
    clear hb5 c4
    go_wp2_with fail
    (with_reducible refine (K.out _).mono ?_); rintro e wz ⟨rfl, rfl⟩
    go_wp2_with fail
    (with_reducible refine (K.out _).mono ?_); rintro e wz ⟨rfl, rfl⟩
    have A0 := Lib.hid (fun o p => and_any T v1 _ _ (hT1.later (below_a2 w5 o p)))
    have A1 := Lib.hid (fun o p => or_any T v1 _ _ (hT1.later (below_a2 w5 o p)))
    have R0 := Lib.hid (fun o p => rall_any 0 (.inl rfl) T v2 _ _ (hT2.later (below_a2 w5 o p)))
    have R1 := Lib.hid (fun o p => rall_any 1 (.inr rfl) T v2 _ _ (hT2.later (below_a2 w5 o p)))
    clear hT1 hT2
    generalize joinI 0 T = j0 at *
    generalize joinI 1 T = j1 at *
    have e0 : (j0 == j0) = true := by simp
    have e1 : (j1 == j1) = true := by simp
    go_wp2_with fail
    (with_reducible refine (A0.out _ _).mono ?_); rintro e wz ⟨rfl, rfl⟩
    go_wp2_with fail
    (with_reducible refine (R0.out _ _).mono ?_); rintro e wz ⟨rfl, rfl⟩
    go_wp2_with fail
    (with_reducible refine (A1.out _ _).mono ?_); rintro e wz ⟨rfl, rfl⟩
    go_wp2_with fail
    (with_reducible refine (R1.out _ _).mono ?_); rintro e wz ⟨rfl, rfl⟩
    go_wp2_with fail
    (with_reducible refine (N.out _).mono ?_); rintro e wz ⟨rfl, rfl⟩
    go_wp2_with fail
    (with_reducible refine (M.out _).mono ?_); rintro e wz ⟨rfl, rfl⟩
    go_wp2_with fail
    (with_reducible refine (I.out _).mono ?_); rintro e wz ⟨rfl, rfl⟩
    go_wp2_with fail
    go_ret
    exact ⟨rfl, Below.chain c5 (below_a2 _ _ _)⟩
end Go.Proofs.Ytblehbcehfmnkaa.LogicTells
