import Derived.Test.YtcbogapnhabhkaaPJ
namespace Go.Proofs.Ytcbogapnhabhkaa
open Go Go.RowKit
set_option linter.unusedVariables false
/-- a right value's bytes -/
def rowV (k n : Int) (f : Nat) (s : List UInt8) : List UInt8 :=
  if k = 1 then 1 :: numB n.toNat else if k = 2 then (if n < 0 then 18 :: numB (-1 - n).toNat else 2 :: numB n.toNat)
  else if k = 3 then 3 :: dig 8 (Flt.kbits f) else if k = 4 then 4 :: textB s else [0]
theorem row_right (k n : Int) (f : Nat) (s : ByteArray) (hr : rightB k n f s = true) (hn1 : -9223372036854775808 ≤ n) (hn2 : n ≤ 9223372036854775807) (hf : f < 18446744073709551616) (hs : s.size ≤ 400000) (w : World) :
    Calls Try.prog 31 #[.agg #[.int .i64 k, .int .i64 n, .float .f64 f, .string s]] w fun e w' => ∃ v, e = .returned v ∧ Own w' w.heap.size v (rowV k n f s.data.toList) ∧ Below w.heap.size w w' := by
  by_cases h1 : k = 1
  · subst h1
    have hn : n = 0 ∨ n = 1 := by simp [rightB] at hr; exact hr.1
    obtain ⟨m, rfl⟩ : ∃ m : Nat, n = (m : Int) := ⟨n.toNat, by omega⟩
    have e : rowV 1 (m : Int) f s.data.toList = 1 :: numB m := by simp [rowV]
    rw [e]; exact row_pos 1 m f s 1 rfl (.inl rfl) (by omega) w
  by_cases h2 : k = 2
  · subst h2
    by_cases hneg : n < 0
    · have e : rowV 2 n f s.data.toList = 18 :: numB (-1 - n).toNat := by simp [rowV, hneg]
      rw [e]; exact row_neg n f (-1 - n).toNat s hneg (by omega) (by omega) w
    · obtain ⟨m, rfl⟩ : ∃ m : Nat, n = (m : Int) := ⟨n.toNat, by omega⟩
      have e : rowV 2 (m : Int) f s.data.toList = 2 :: numB m := by simp [rowV]
      rw [e]; exact row_pos 2 m f s 2 rfl (.inr ⟨rfl, rfl⟩) (by omega) w
  by_cases h3 : k = 3
  · subst h3
    have e : rowV 3 n f s.data.toList = 3 :: dig 8 (Flt.kbits f) := by simp [rowV]
    rw [e]; exact row3 n f hf s w
  by_cases h4 : k = 4
  · subst h4
    have e : rowV 4 n f s.data.toList = 4 :: textB s.data.toList := by simp [rowV]
    rw [e]; exact row4 n f s hs w
  · have h0 : k = 0 := by
      by_cases h0 : k = 0
      · exact h0
      · simp [rightB, h0, h1, h2, h3, h4] at hr
    subst h0
    have e : rowV 0 n f s.data.toList = [0] := by simp [rowV]
    rw [e]; exact row0 n f s w
theorem rowV_len (k n : Int) (f : Nat) (s : List UInt8) (hn1 : -9223372036854775808 ≤ n) (hn2 : n ≤ 9223372036854775807) (hs : s.length ≤ 400000) : (rowV k n f s).length ≤ 400020 := by
  have a := numB_le n.toNat (by omega)
  have b := numB_le (-1 - n).toNat (by omega)
  have c := numB_le s.length (by omega)
  unfold rowV textB
  repeat' split
  all_goals simp [dig_len]
  all_goals omega
theorem putval_ok (b : Value) (l : List UInt8) (k n : Int) (f : Nat) (s : ByteArray) (hr : rightB k n f s = true) (hn1 : -9223372036854775808 ≤ n) (hn2 : n ≤ 9223372036854775807) (hf : f < 18446744073709551616) (hs : s.size ≤ 400000) (hl : l.length ≤ 500000) (w : World) (hb : Bs w.heap.size w b l) :
    Calls Try.prog 14 #[b, .agg #[.int .i64 k, .int .i64 n, .float .f64 f, .string s]] w fun e w' => ∃ v, e = .returned (.tuple #[v, .int .i64 0]) ∧ Own w' w.heap.size v (l ++ rowV k n f s.data.toList) ∧ Below w.heap.size w w' := by
  have hsf := run_store_float
  have hR := Lib.hid (right_any k n f hf s)
  have hW := Lib.hid (row_right k n f s hr hn1 hn2 hf hs)
  have hlen := rowV_len k n f s.data.toList hn1 hn2 (by simpa using hs)
  have hl0 := lies_new w (.int .i64 k) (.int .i64 n) (.float .f64 f) (.string s) 29
  rw [hr] at hR
  clear hr hn1 hn2
  generalize rowV k n f s.data.toList = m at *
  obtain ⟨ao, cap, rfl⟩ := hb.shape
  have L0 := Lib.hid hl0
  clear hl0
  go_enter Try.func14, Try.ntmps14
  go_wp2_with fail
  refine (hR.out _).mono ?_; rintro e w1 ⟨rfl, hb1⟩
  have ⟨a0, a1, a2, a3⟩ := L0.out.below hb1
  have c1 := Below.chain (below_a1 _ _) hb1
  go_wp2_with fail
  refine (hW.out _).mono ?_; rintro e w2 ⟨v2, rfl, hO2, hb2⟩
  have c2 := Below.chain c1 hb2
  have HC := Lib.hid (concat2 w2 _ _ _ _ (hb.below c2).size hO2.bs (by omega))
  have hz := c2.size
  obtain ⟨a1, cp1, rfl⟩ := hO2.len
  go_wp2_with fail
  refine HC.out.mono ?_; rintro e w3 ⟨v3, rfl, hO3, hb3⟩
  go_wp2_with fail
  go_ret2
  exact ⟨_, rfl, hO3.base hz, Below.chain c2 hb3⟩
theorem putval_bad (b : Value) (l : List UInt8) (k n : Int) (f : Nat) (s : ByteArray) (hr : rightB k n f s = false) (hf : f < 18446744073709551616) (hl : l.length ≤ 500000) (w : World) (hb : Bs w.heap.size w b l) :
    Calls Try.prog 14 #[b, .agg #[.int .i64 k, .int .i64 n, .float .f64 f, .string s]] w fun e w' => ∃ v, e = .returned (.tuple #[v, .int .i64 1]) ∧ Own w' w.heap.size v l ∧ Below w.heap.size w w' := by
  have hsf := run_store_float
  have hR := Lib.hid (right_any k n f hf s)
  rw [hr] at hR
  clear hr
  go_enter Try.func14, Try.ntmps14
  go_wp2_with fail
  refine (hR.out _).mono ?_; rintro e w1 ⟨rfl, hb1⟩
  have c1 := Below.chain (below_a1 _ _) hb1
  have hz := c1.size
  have HC := Lib.hid (clone_any b l hl w1 (hb.below c1).size)
  go_wp2_with fail
  refine HC.out.mono ?_; rintro e w3 ⟨v3, rfl, hO3, hb3⟩
  go_wp2_with fail
  go_ret2
  exact ⟨_, rfl, hO3.base hz, Below.chain c1 hb3⟩
end Go.Proofs.Ytcbogapnhabhkaa
