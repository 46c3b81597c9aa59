import Derived.Test.YtcbogapnhabhkaaPC
import Derived.Deep.RegionHeld3
namespace Go.Proofs.Ytcbogapnhabhkaa
open Go Go.RowKit
set_option linter.unusedVariables false
theorem bs1 {w : World} {b : Nat} {x : Int} (c : UInt8) (hx : x = (c.toNat : Int)) (h : w.cell? ⟨b, 0, none⟩ = some (.int .u8 x)) : Bs w.heap.size w (.slice (some ⟨b, 0, none⟩) 1 1) [c] := by
  refine ⟨_, 1, rfl, Nat.le_refl _, by simp only [maxLen]; omega, fun h => (by cases h), fun j u hj => ⟨_, rfl, block_lt_of_cell h, ?_⟩⟩
  cases j with
  | zero => simp at hj; subst hj; rw [Addr.add_zero', h, hx]
  | succ j => simp at hj
theorem Own.lit1 (w : World) (X : Obj) (c : UInt8) (x : Int) (hx : x = (c.toNat : Int)) : Own ((w.alloc X).alloc (.cells #[.int .u8 x] 5)) w.heap.size (.slice (some ⟨w.heap.size + 1, 0, none⟩) 1 1) [c] := by
  have h := Own.lit (w.alloc X) w.heap.size [c] (by simp) (by simp) #[.int .u8 x] (by rw [hx]; rfl)
  have e : (w.alloc X).heap.size = w.heap.size + 1 := by simp
  rw [e] at h
  exact h
theorem row_pos (k : Int) (n f : Nat) (s : ByteArray) (c : UInt8) (hk : k = (c.toNat : Int)) (h1 : (k == 1) = true ∨ ((k == 1) = false ∧ (k == 2) = true)) (hn : n < 9223372036854775808) (w : World) :
    Calls Try.prog 31 #[.agg #[.int .i64 k, .int .i64 n, .float .f64 f, .string s]] w fun e w' => ∃ v, e = .returned v ∧ Own w' w.heap.size v (c :: numB n) ∧ Below w.heap.size w w' := by
  have hsf := run_store_float
  have hk8 : k % 256 = k := by have := c.toNat_lt; omega
  have hn8 : ¬ ((n : Int) < 0) := by omega
  have hB : Below w.heap.size w ((w.alloc (.cells #[.int .i64 k, .int .i64 n, .float .f64 f, .string s] 29)).alloc (.cells #[.int .u8 k] 5)) := below_a2 _ _ _
  have hP := Lib.hid (put_any (.slice (some ⟨w.heap.size + 1, 0, none⟩) 1 1) [c] n (by omega) (by simp) _ (bs1 (w := (w.alloc (.cells #[.int .i64 k, .int .i64 n, .float .f64 f, .string s] 29)).alloc (.cells #[.int .u8 k] 5)) c hk (by simp [go_sem])))
  clear hk
  rcases h1 with h1 | ⟨h1, h2⟩
  all_goals
    go_enter Try.func31, Try.ntmps31
    go_wp2_with fail
    refine hP.out.mono ?_; rintro e w1 ⟨v1, rfl, hO1, hb1⟩
    go_wp2_with fail
    go_ret
    exact ⟨_, rfl, hO1.base (by simp <;> omega), Below.chain hB hb1⟩
theorem kp2 {W0 W : World} {a b : Addr} {x y : Value} (h : W0.cell? a = some x ∧ W0.cell? b = some y) (hb : Below W0.heap.size W0 W) : W.cell? a = some x ∧ W.cell? b = some y :=
  ⟨(hb.cell (block_lt_of_cell h.1)).trans h.1, (hb.cell (block_lt_of_cell h.2)).trans h.2⟩
theorem put18 (m : Nat) (hm : m < 18446744073709551616) (W0 : World) (b : Nat) (x : Value) (hx : x = .int .u8 18) (hb : b = W0.heap.size) : Calls Try.prog 11 #[.slice (some ⟨b, 0, none⟩) 1 1, .int .u64 m] (W0.alloc (.cells #[x] 5)) fun e w' => ∃ v, e = .returned v ∧ Own w' W0.heap.size v (18 :: numB m) ∧ Below W0.heap.size W0 w' := by
  subst hb
  subst hx
  refine (put_any _ [18] m hm (by simp) _ (bs1 (x := 18) 18 rfl (by simp [go_sem]))).mono ?_
  rintro e w' ⟨v, rfl, hO, hb⟩
  exact ⟨_, rfl, hO.base (by simp), Below.chain (below_a1 _ _) hb⟩
theorem put18d (m : Nat) (hm : m < 18446744073709551616) (W0 : World) (b : Nat) (x y : Int) (hx : x = 18) (hb : b = W0.heap.size) (hy : y = (m : Int)) : Calls Try.prog 11 #[.slice (some ⟨b, 0, none⟩) 1 1, .int .u64 y] (W0.alloc (.cells #[.int .u8 x] 5)).drew fun e w' => ∃ v, e = .returned v ∧ Own w' W0.heap.size v (18 :: numB m) ∧ Below W0.heap.size W0 w' := by
  subst hy
  have := put18 m hm W0.drew b (.int .u8 x) (by rw [hx]) hb
  refine Calls.mono this ?_
  rintro e w' ⟨v, rfl, hO, hb⟩
  exact ⟨_, rfl, hO, (Below.refl _ _).drew.trans hb⟩
set_option maxHeartbeats 4000000 in
set_option maxRecDepth 100000 in
theorem row_neg (n : Int) (f m : Nat) (s : ByteArray) (hn : n < 0) (hm : m < 9223372036854775808) (hq : -1 - n = (m : Int)) (w : World) :
    Calls Try.prog 31 #[.agg #[.int .i64 2, .int .i64 n, .float .f64 f, .string s]] w fun e w' => ∃ v, e = .returned v ∧ Own w' w.heap.size v (18 :: numB m) ∧ Below w.heap.size w w' := by
  have hsf := run_store_float
  have hP := Lib.hid (put18d m (by omega))
  have hB : Below w.heap.size w ((w.alloc (.cells #[.int .i64 2, .int .i64 n, .float .f64 f, .string s] 29)).alloc (.cells #[.int .u8 2] 5)) := below_a2 _ _ _
  have hS : ((w.alloc (.cells #[.int .i64 2, .int .i64 n, .float .f64 f, .string s] 29)).alloc (.cells #[.int .u8 2] 5)).cell? ⟨w.heap.size + 1, 0, none⟩ = some (.int .u8 2) ∧ ((w.alloc (.cells #[.int .i64 2, .int .i64 n, .float .f64 f, .string s] 29)).alloc (.cells #[.int .u8 2] 5)).cell? ⟨w.heap.size, 1, none⟩ = some (.int .i64 n) := by
    refine ⟨?_, ?_⟩ <;> go_simp
  have hsz : ((w.alloc (.cells #[.int .i64 2, .int .i64 n, .float .f64 f, .string s] 29)).alloc (.cells #[.int .u8 2] 5)).heap.size = w.heap.size + 1 + 1 := by simp
  go_enter Try.func31, Try.ntmps31
  go_wp2_with fail
  generalize (w.alloc (.cells #[.int .i64 2, .int .i64 n, .float .f64 f, .string s] 29)).alloc (.cells #[.int .u8 2] 5) = W0 at *
  have HS := Lib.hid hS
  have HB := Lib.hid hB
  have hy : IntKind.u64.wrap (bits BinOp.xor IntKind.i64 (if IntKind.i64.signed = true then -1 else 9223372036854775807) n) = (m : Int) := by
    rw [if_pos (by decide), not_i64 n (by omega) (by omega), IntKind.wrap_u64]; omega
  have HY := Lib.hid hy
  clear hS hB hsf hy
  go_region_held3 (fun W => W.cell? ⟨w.heap.size + 1, 0, none⟩ = some (.int .u8 2) ∧ W.cell? ⟨w.heap.size, 1, none⟩ = some (.int .i64 n)) (first | exact kp2 HS.out (Below.refl _ _).drew | exact kp2 HS.out (below_a1 _ _).drew | exact kp2 HS.out (below_a1 _ _) | exact kp2 HS.out hb1)
    ((refine (hP.out W0 _ _ _ (by decide) hsz.symm HY.out).mono ?_; rintro e w1 ⟨v1, rfl, hO1, hb1⟩))
  all_goals
    go_wp2_with fail
    go_ret
    exact ⟨_, rfl, hO1.base (by rw [hsz]; omega), HB.out.trans (hb1.mono (by rw [hsz]; omega))⟩
theorem row3 (n : Int) (f : Nat) (hf : f < 18446744073709551616) (s : ByteArray) (w : World) :
    Calls Try.prog 31 #[.agg #[.int .i64 3, .int .i64 n, .float .f64 f, .string s]] w fun e w' => ∃ v, e = .returned v ∧ Own w' w.heap.size v (3 :: dig 8 (Flt.kbits f)) ∧ Below w.heap.size w w' := by
  have hsf := run_store_float
  have hK := Lib.hid (key_any f hf)
  have hkb : Flt.kbits f < 18446744073709551616 := by unfold Flt.kbits; (repeat' split) <;> omega
  have hD := Lib.hid (digits_any (Flt.kbits f) 8 hkb (Nat.le_refl _))
  have hL0 := Own.lit1 w (.cells #[.int .i64 3, .int .i64 n, .float .f64 f, .string s] 29) 3 3 rfl
  have hB : Below w.heap.size w ((w.alloc (.cells #[.int .i64 3, .int .i64 n, .float .f64 f, .string s] 29)).alloc (.cells #[.int .u8 3] 5)) := below_a2 _ _ _
  have hld : (dig 8 (Flt.kbits f)).length = 8 := dig_len _ _
  generalize Flt.kbits f = K at *
  generalize dig 8 K = D at *
  go_enter Try.func31, Try.ntmps31
  go_wp2_with fail
  refine (hK.out _).mono ?_; rintro e w' ⟨rfl, rfl⟩
  go_wp2_with fail
  refine (hD.out _).mono ?_; rintro e w2 ⟨v2, rfl, hO2, hb2⟩
  have hL := hL0.below hb2
  have hz := hb2.size
  have hz' : w.heap.size ≤ w2.heap.size := by simp at hz; omega
  have hBB := Below.chain hB hb2
  clear hL0 hb2 hB hK hD
  go_wp2_with (at_builtin; refine wpList_append_bs rfl _ _ rfl rfl rfl hL hO2.bs (by simp; omega) hz' ?_; intro v3 w3 hO3 hg3)
  go_ret
  exact ⟨_, rfl, hO3, hBB.grown hg3 hz' hL.row⟩
theorem row4 (n : Int) (f : Nat) (s : ByteArray) (hs : s.size ≤ 400000) (w : World) :
    Calls Try.prog 31 #[.agg #[.int .i64 4, .int .i64 n, .float .f64 f, .string s]] w fun e w' => ∃ v, e = .returned v ∧ Own w' w.heap.size v (4 :: textB s.data.toList) ∧ Below w.heap.size w w' := by
  have hsf := run_store_float
  have hB : Below w.heap.size w ((w.alloc (.cells #[.int .i64 4, .int .i64 n, .float .f64 f, .string s] 29)).alloc (.cells #[.int .u8 4] 5)) := below_a2 _ _ _
  have hP := Lib.hid (puttext_any (.slice (some ⟨w.heap.size + 1, 0, none⟩) 1 1) [4] s hs (by simp) _ (bs1 (w := (w.alloc (.cells #[.int .i64 4, .int .i64 n, .float .f64 f, .string s] 29)).alloc (.cells #[.int .u8 4] 5)) 4 rfl (by simp [go_sem])))
  go_enter Try.func31, Try.ntmps31
  go_wp2_with fail
  refine hP.out.mono ?_; rintro e w1 ⟨v1, rfl, hO1, hb1⟩
  go_wp2_with fail
  go_ret
  exact ⟨_, rfl, hO1.base (by simp <;> omega), Below.chain hB hb1⟩
theorem row0 (n : Int) (f : Nat) (s : ByteArray) (w : World) :
    Calls Try.prog 31 #[.agg #[.int .i64 0, .int .i64 n, .float .f64 f, .string s]] w fun e w' => ∃ v, e = .returned v ∧ Own w' w.heap.size v [0] ∧ Below w.heap.size w w' := by
  have hsf := run_store_float
  have hL0 := Own.lit1 w (.cells #[.int .i64 0, .int .i64 n, .float .f64 f, .string s] 29) 0 0 rfl
  have HL := Lib.hid hL0
  clear hL0
  go_enter Try.func31, Try.ntmps31
  go_wp2_with fail
  go_ret
  exact ⟨_, rfl, HL.out, below_a2 _ _ _⟩
end Go.Proofs.Ytcbogapnhabhkaa
