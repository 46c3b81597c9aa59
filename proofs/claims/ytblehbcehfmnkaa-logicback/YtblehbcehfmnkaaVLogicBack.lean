/- The walk of the law LogicBack. -/
import Derived.Test.YtblehbcehfmnkaaLM
namespace Go.Proofs.Ytblehbcehfmnkaa.LogicBack
open Go Go.RowKit
set_option linter.unusedVariables false
theorem of_val {t : Int} (h : T3 t) : ofI (vK t) (vN t) = t ∧ ofE (vK t) (vN t) = 0 := by
  rcases h with rfl | rfl | rfl <;> exact ⟨by decide, by decide⟩
theorem of_cases (k n : Int) : (T3 (ofI k n) ∧ ofE k n = 0) ∨ (ofI k n = 2 ∧ ofE k n = 4) := by
  unfold ofI ofE T3
  split
  · simp
  · split
    · simp
    · split <;> simp
set_option maxHeartbeats 4000000 in
theorem walk (a k m : Int) (f : Nat) (s : ByteArray) (h1 : -9223372036854775808 ≤ a) (h2 : a ≤ 9223372036854775807) (w : World) :
    Calls Try.prog 6 #[.int .i64 a, av k m f s] w fun e w' => e = .returned (.bool true) ∧ Below w.heap.size w w' := by
  obtain ⟨A, hA, hA2⟩ := and255 a
  obtain ⟨t, ht⟩ : ∃ t, Int.tmod (A : Int) 3 = t := ⟨_, rfl⟩
  have h3 : T3 t := ht ▸ mod3 A
  have V := Lib.hid (value_any t)
  have O := Lib.hid (of_any (vK t) (vN t) 0 ⟨#[]⟩)
  rw [ofR, (of_val h3).1, (of_val h3).2] at O
  have P := Lib.hid (of_any k m f s)
  rw [ofR] at P
  have hc := of_cases k m
  generalize ofI k m = x at *
  generalize ofE k m = y at *
  have bt : (t == t) = true := by simp
  clear h3 h1 h2
  rcases hc with ⟨hx, rfl⟩ | ⟨rfl, rfl⟩
  · have V2 := Lib.hid (value_any x)
    have O2 := Lib.hid (of_any (vK x) (vN x) 0 ⟨#[]⟩)
    rw [ofR, (of_val hx).1, (of_val hx).2] at O2
    have bx : (x == x) = true := by simp
    clear hx
    go_enter Try.func6, Try.ntmps6
    go_wp2_with fail
    refine (shown_any _).mono ?_; rintro e w1 ⟨rfl, hb1⟩
    go_wp2_with fail
    (with_reducible refine (V.out _).mono ?_); rintro e w2 ⟨rfl, hb2⟩
    go_wp2_with fail
    (with_reducible refine (O.out _).mono ?_); rintro e w3 ⟨rfl, hb3⟩
    obtain ⟨c0, c1, c2, c3⟩ := ((((lies_new w _ _ _ _ _).below hb1).below hb2).below hb3)
    go_wp2_with fail
    (with_reducible refine (P.out _).mono ?_); rintro e w4 ⟨rfl, hb4⟩
    go_wp2_with fail
    (with_reducible refine (V2.out _).mono ?_); rintro e w5 ⟨rfl, hb5⟩
    go_wp2_with fail
    (with_reducible refine (O2.out _).mono ?_); rintro e w6 ⟨rfl, hb6⟩
    go_wp2_with fail
    go_ret
    exact ⟨rfl, Below.chain (Below.chain (Below.chain (Below.chain (Below.chain (Below.chain (below_a1 _ _) hb1) hb2) hb3) hb4) hb5) hb6⟩
  · go_enter Try.func6, Try.ntmps6
    go_wp2_with fail
    refine (shown_any _).mono ?_; rintro e w1 ⟨rfl, hb1⟩
    go_wp2_with fail
    (with_reducible refine (V.out _).mono ?_); rintro e w2 ⟨rfl, hb2⟩
    go_wp2_with fail
    (with_reducible refine (O.out _).mono ?_); rintro e w3 ⟨rfl, hb3⟩
    obtain ⟨c0, c1, c2, c3⟩ := ((((lies_new w _ _ _ _ _).below hb1).below hb2).below hb3)
    go_wp2_with fail
    (with_reducible refine (P.out _).mono ?_); rintro e w4 ⟨rfl, hb4⟩
    go_wp2_with fail
    go_ret
    exact ⟨rfl, Below.chain (Below.chain (Below.chain (Below.chain (below_a1 _ _) hb1) hb2) hb3) hb4⟩
end Go.Proofs.Ytblehbcehfmnkaa.LogicBack
