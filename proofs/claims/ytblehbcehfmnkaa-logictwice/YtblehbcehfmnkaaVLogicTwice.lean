/- The walk of the law LogicTwice. -/
import Derived.Test.YtblehbcehfmnkaaLM
namespace Go.Proofs.Ytblehbcehfmnkaa.LogicTwice
open Go Go.RowKit
set_option linter.unusedVariables false
theorem cut50 (l : List Int) (M : Nat) (hM : M ≤ 50) : (l.take M).take 100 = l.take M := List.take_of_length_le (by simp; omega)
set_option maxHeartbeats 4000000 in
theorem walk_core (l : List Int) (ao : Option Addr) (cap : Nat) (a : Int) (w : World) (h : Ts w.heap.size w (.slice ao l.length cap) l) :
    Calls Try.prog 8 #[.slice ao l.length cap, .int .i64 a] w fun e w' => e = .returned (.bool true) ∧ Below w.heap.size w w' := by
  obtain ⟨A, hA, hA2⟩ := and255 a
  obtain ⟨t, ht⟩ : ∃ t, Int.tmod (A : Int) 3 = t := ⟨_, rfl⟩
  have h3 : T3 t := ht ▸ mod3 A
  have N0 := Lib.hid (fun w => (and_any [t] _ _ _ (one_ts w t)))
  have N1 := Lib.hid (fun w => (or_any [t] _ _ _ (one_ts w t)))
  rw [join_one (.inl rfl) h3] at N0
  rw [join_one (.inr rfl) h3] at N1
  clear h3
  obtain ⟨ao', cap', he, h2, h3, h4, -⟩ := id h
  cases he
  simp only [maxLen] at h3
  have bt : (t == t) = true := by simp
  have HH := Lib.hid (h.head)
  have C5 := Lib.hid (cut50 l)
  have HTl := Lib.hid (show l.take l.length = l from List.take_length)
  clear h
  generalize l.length = L at *
  by_cases h50 : (50 : Int) < (L : Int)
  · skip
    have HT := Lib.hid (HH.out 50 (by omega))
    have hC := C5.out 50 (by omega)
    have hl50 : (l.take 50).length ≤ 50 := by simp; omega
    generalize l.take 50 = T at HT hC hl50
    have E0 := join_twice 0 T
    have E1 := join_twice 1 T
    have HE0 := Lib.hid E0
    have HE1 := Lib.hid E1
    have HL := Lib.hid hl50
    clear E0 E1 hl50
    go_enter Try.func8, Try.ntmps8
    go_wp2_with fail
    refine (shown_any _).mono ?_; rintro e w1 ⟨rfl, hb1⟩
    have TR := Lib.hid (truths_any T _ w1 (HT.out.later hb1))
    rw [hC] at TR
    clear hC
    go_wp2_with fail
    (with_reducible refine TR.out.mono ?_); rintro e w2 ⟨v1, v2, rfl, hO, -, hb2⟩
    have hT := hO.ts
    clear hO TR
    go_wp2_with (at_builtin; first
      | (refine wpList_append_ts rfl _ _ rfl rfl rfl (Own.lit w2 w2.heap.size [] (Nat.le_refl _) (by simp) _ rfl) (hT.later (below_a1 _ _)) (by have := HL.out; simp; omega) (by simp) ?_
         intro v3 w3 hO3 hg3
         have b3 := (below_a1 w2 _).trans (below_of_grown hg3 (by simp) (fun k hk => (by cases hk; exact Nat.le_refl _)))
         rw [List.nil_append] at hO3
         clear hg3)
      | (refine wpList_append_ts rfl _ _ rfl rfl rfl hO3 (hT.later b3) (by have := HL.out; simp; omega) (by have := b3.size; omega) ?_
         intro v4 w4 hO4 hg4))
    have b4 := b3.trans (below_of_grown hg4 b3.size hO3.row)
    have hTT := hO4.ts
    have hT4 := hT.later b4
    clear hg4 hO3 hO4 hT
    have X0 := Lib.hid (and_any _ _ _ _ hTT)
    have X1 := Lib.hid (or_any _ _ _ _ hTT)
    rw [HE0.out] at X0
    rw [HE1.out] at X1
    have Y0 := Lib.hid (and_any _ _ _ _ hT4)
    have Y1 := Lib.hid (or_any _ _ _ _ hT4)
    clear hTT hT4
    generalize joinI 0 T = j0 at *
    generalize joinI 1 T = j1 at *
    have bj0 : (j0 == j0) = true := by simp
    have bj1 : (j1 == j1) = true := by simp
    go_wp2_with fail
    (with_reducible refine X0.out.mono ?_); rintro e wz ⟨rfl, rfl⟩
    go_wp2_with fail
    (with_reducible refine Y0.out.mono ?_); rintro e wz ⟨rfl, rfl⟩
    go_wp2_with fail
    (with_reducible refine X1.out.mono ?_); rintro e wz ⟨rfl, rfl⟩
    go_wp2_with fail
    (with_reducible refine Y1.out.mono ?_); rintro e wz ⟨rfl, rfl⟩
    go_wp2_with fail
    (with_reducible refine (N0.out _).mono ?_); rintro e wz ⟨rfl, rfl⟩
    generalize hW : w4.alloc (.cells #[.int .i64 t] 27) = w5
    have hb5 : Below w4.heap.size w4 w5 := hW ▸ below_a1 _ _
    clear hW
    go_wp2_with fail
    (with_reducible refine (N1.out _).mono ?_); rintro e wz ⟨rfl, rfl⟩
    go_wp2_with fail
    go_ret
    exact ⟨rfl, Below.chain (Below.chain (Below.chain (Below.chain hb1 hb2) b4) hb5) (below_a1 _ _)⟩
  · skip
    have HT := Lib.hid (HH.out L (by omega))
    have hC := C5.out L (by omega)
    have hl50 : (l.take L).length ≤ 50 := by simp; omega
    generalize l.take L = T at HT hC hl50
    have E0 := join_twice 0 T
    have E1 := join_twice 1 T
    have HE0 := Lib.hid E0
    have HE1 := Lib.hid E1
    have HL := Lib.hid hl50
    clear E0 E1 hl50
    go_enter Try.func8, Try.ntmps8
    go_wp2_with fail
    refine (shown_any _).mono ?_; rintro e w1 ⟨rfl, hb1⟩
    have TR := Lib.hid (truths_any T _ w1 (HT.out.later hb1))
    rw [hC] at TR
    clear hC
    go_wp2_with fail
    (with_reducible refine TR.out.mono ?_); rintro e w2 ⟨v1, v2, rfl, hO, -, hb2⟩
    have hT := hO.ts
    clear hO TR
    go_wp2_with (at_builtin; first
      | (refine wpList_append_ts rfl _ _ rfl rfl rfl (Own.lit w2 w2.heap.size [] (Nat.le_refl _) (by simp) _ rfl) (hT.later (below_a1 _ _)) (by have := HL.out; simp; omega) (by simp) ?_
         intro v3 w3 hO3 hg3
         have b3 := (below_a1 w2 _).trans (below_of_grown hg3 (by simp) (fun k hk => (by cases hk; exact Nat.le_refl _)))
         rw [List.nil_append] at hO3
         clear hg3)
      | (refine wpList_append_ts rfl _ _ rfl rfl rfl hO3 (hT.later b3) (by have := HL.out; simp; omega) (by have := b3.size; omega) ?_
         intro v4 w4 hO4 hg4))
    have b4 := b3.trans (below_of_grown hg4 b3.size hO3.row)
    have hTT := hO4.ts
    have hT4 := hT.later b4
    clear hg4 hO3 hO4 hT
    have X0 := Lib.hid (and_any _ _ _ _ hTT)
    have X1 := Lib.hid (or_any _ _ _ _ hTT)
    rw [HE0.out] at X0
    rw [HE1.out] at X1
    have Y0 := Lib.hid (and_any _ _ _ _ hT4)
    have Y1 := Lib.hid (or_any _ _ _ _ hT4)
    clear hTT hT4
    generalize joinI 0 T = j0 at *
    generalize joinI 1 T = j1 at *
    have bj0 : (j0 == j0) = true := by simp
    have bj1 : (j1 == j1) = true := by simp
    go_wp2_with fail
    (with_reducible refine X0.out.mono ?_); rintro e wz ⟨rfl, rfl⟩
    go_wp2_with fail
    (with_reducible refine Y0.out.mono ?_); rintro e wz ⟨rfl, rfl⟩
    go_wp2_with fail
    (with_reducible refine X1.out.mono ?_); rintro e wz ⟨rfl, rfl⟩
    go_wp2_with fail
    (with_reducible refine Y1.out.mono ?_); rintro e wz ⟨rfl, rfl⟩
    go_wp2_with fail
    (with_reducible refine (N0.out _).mono ?_); rintro e wz ⟨rfl, rfl⟩
    generalize hW : w4.alloc (.cells #[.int .i64 t] 27) = w5
    have hb5 : Below w4.heap.size w4 w5 := hW ▸ below_a1 _ _
    clear hW
    go_wp2_with fail
    (with_reducible refine (N1.out _).mono ?_); rintro e wz ⟨rfl, rfl⟩
    go_wp2_with fail
    go_ret
    exact ⟨rfl, Below.chain (Below.chain (Below.chain (Below.chain hb1 hb2) b4) hb5) (below_a1 _ _)⟩
theorem walk (v : Value) (l : List Int) (a : Int) (w : World) (h : Ts w.heap.size w v l) (h1 : -9223372036854775808 ≤ a) (h2 : a ≤ 9223372036854775807) :
    Calls Try.prog 8 #[v, .int .i64 a] w fun e w' => e = .returned (.bool true) ∧ Below w.heap.size w w' := by
  obtain ⟨ao, cap, rfl⟩ := h.shape
  exact walk_core l ao cap a w h
end Go.Proofs.Ytblehbcehfmnkaa.LogicTwice
