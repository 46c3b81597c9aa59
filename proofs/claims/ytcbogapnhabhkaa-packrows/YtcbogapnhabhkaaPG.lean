import Derived.Test.YtcbogapnhabhkaaPF
namespace Go.Proofs.Ytcbogapnhabhkaa
open Go Go.RowKit
set_option linter.unusedVariables false
theorem Lies.set {w : World} {b : Nat} {u0 u1 u2 u3 : Value} (h : Lies w b u0 u1 u2 u3) (v0 v1 v2 v3 : Value) :
    Lies ((((w.setCell ⟨b, 0, none⟩ v0).setCell ⟨b, 1, none⟩ v1).setCell ⟨b, 2, none⟩ v2).setCell ⟨b, 3, none⟩ v3) b v0 v1 v2 v3 := by
  obtain ⟨h0, h1, h2, h3⟩ := h
  refine ⟨?_, ?_, ?_, ?_⟩ <;> go_simp
/-- none of its four cells is shut -/
def Free (w : World) (b : Nat) : Prop := w.frozen? ⟨b, 0, none⟩ = false ∧ w.frozen? ⟨b, 1, none⟩ = false ∧ w.frozen? ⟨b, 2, none⟩ = false ∧ w.frozen? ⟨b, 3, none⟩ = false
theorem free_new (w : World) (a b c d : Value) (t : TypeId) : Free (w.alloc (.cells #[a, b, c, d] t)) w.heap.size := by
  refine ⟨?_, ?_, ?_, ?_⟩ <;> go_simp
theorem Lies.grow {w w' : World} {b p : Nat} {v0 v1 v2 v3 : Value} (h : Lies w b v0 v1 v2 v3) (hg : w.grownBy w' (some p)) (hn : b ≠ p) : Lies w' b v0 v1 v2 v3 :=
  ⟨hg.cell h.1 (by simpa using hn), hg.cell h.2.1 (by simpa using hn), hg.cell h.2.2.1 (by simpa using hn), hg.cell h.2.2.2 (by simpa using hn)⟩
theorem Free.grow {w w' : World} {b p : Nat} (h : Free w b) (hb : b < w.heap.size) (hg : w.grownBy w' (some p)) (hn : b ≠ p) : Free w' b := by
  have e := hg.block b hb (by simpa using hn)
  exact ⟨(World.frozen?_of_block (a := ⟨b, 0, none⟩) e).trans h.1, (World.frozen?_of_block (a := ⟨b, 1, none⟩) e).trans h.2.1, (World.frozen?_of_block (a := ⟨b, 2, none⟩) e).trans h.2.2.1, (World.frozen?_of_block (a := ⟨b, 3, none⟩) e).trans h.2.2.2⟩
theorem grown_set4 {w0 w : World} {r : Option Nat} {q : Nat} (h : w0.grownBy w r) (hq : w0.heap.size ≤ q) (v0 v1 v2 v3 : Value) :
    w0.grownBy ((((w.setCell ⟨q, 0, none⟩ v0).setCell ⟨q, 1, none⟩ v1).setCell ⟨q, 2, none⟩ v2).setCell ⟨q, 3, none⟩ v3) r := by
  refine ⟨h.os, h.tape, h.output, ?_, fun k hk hr => ?_⟩
  · have := h.size; simpa [World.setCell] using this
  · rw [← h.block k hk hr]
    simp only [World.setCell, Array.getElem?_modify]
    rw [if_neg (by omega), if_neg (by omega), if_neg (by omega), if_neg (by omega)]
theorem Rd.set4 {w : World} {p q : Nat} {l : List UInt8} (h : Rd p w l) (hq : p < q) (v0 v1 v2 v3 : Value) :
    Rd p ((((w.setCell ⟨q, 0, none⟩ v0).setCell ⟨q, 1, none⟩ v1).setCell ⟨q, 2, none⟩ v2).setCell ⟨q, 3, none⟩ v3) l := by
  obtain ⟨v, h1, h2, h3⟩ := h
  have hb : Below (p + 1) w ((((w.setCell ⟨q, 0, none⟩ v0).setCell ⟨q, 1, none⟩ v1).setCell ⟨q, 2, none⟩ v2).setCell ⟨q, 3, none⟩ v3) := ((((Below.refl _ w).setCell hq _).setCell hq _).setCell hq _).setCell hq _
  exact ⟨v, (hb.cell (by simp)).trans h1, (hb.frozen (by simp)).trans h2, h3.below (hb.mono (by omega))⟩
theorem Rd.lt {w : World} {p : Nat} {l : List UInt8} (h : Rd p w l) : p < w.heap.size := let ⟨_, h1, _⟩ := h; block_lt_of_cell h1

theorem rval0 (p : Nat) (t : List UInt8)  (w : World) (hR : Rd p w (0 :: t)) (hl : t.length < 1000000)  :
    Calls Try.prog 42 #[.pointer (some ⟨p, 0, none⟩)] w fun e w' => e = .returned (.agg #[.int .i64 0, .int .i64 0, .float .f64 0, .string ⟨#[]⟩]) ∧ Rd p w' t ∧ w.grownBy w' (some p) := by
  have hsf := run_store_float
  have hp := hR.lt
  have hR0 : Rd p (w.alloc (.cells #[.int .i64 0, .int .i64 0, .float .f64 0, .string ⟨#[]⟩] 29)) (0 :: t) := hR.grown (below_a1 _ _)
  have g0 : w.grownBy (w.alloc (.cells #[.int .i64 0, .int .i64 0, .float .f64 0, .string ⟨#[]⟩] 29)) (some p) := World.grownBy_alloc _ _ _
  have h1 : Hid (Calls Try.prog 55 #[.pointer (some ⟨p, 0, none⟩)] (w.alloc (.cells #[.int .i64 0, .int .i64 0, .float .f64 0, .string ⟨#[]⟩] 29)) fun e w' => e = .returned (.int .u8 (0 : Int)) ∧ Rd p w' t ∧ (w.alloc (.cells #[.int .i64 0, .int .i64 0, .float .f64 0, .string ⟨#[]⟩] 29)).grownBy w' (some p)) := Lib.hid (one_ok p 0 t _ hR0 hl)
  have hL0 := Lib.hid (lies_new w (.int .i64 0) (.int .i64 0) (.float .f64 0) (.string ⟨#[]⟩) 29)
  have hF0 := Lib.hid (free_new w (.int .i64 0) (.int .i64 0) (.float .f64 0) (.string ⟨#[]⟩) 29)
  clear hR hR0
  go_enter Try.func42, Try.ntmps42
  go_wp2_with fail
  refine h1.out.mono ?_; rintro e w1 ⟨rfl, hR1, hg1⟩
  have k1 := grown_trans g0 hg1
  have hL1 := hL0.out.grow hg1 (by omega)
  have hF1 := hF0.out.grow (block_lt_of_cell hL0.out.1) hg1 (by omega)
  have ⟨a0, a1, a2, a3⟩ := hL1
  have ⟨b0, b1, b2, b3⟩ := hF1
  go_wp2_with fail
  exact ret_v rfl rfl rfl (Lies.set hL1 _ _ _ _) ⟨rfl, hR1.set4 hp _ _ _ _, grown_set4 k1 (Nat.le_refl _) _ _ _ _⟩
theorem rval1 (p : Nat) (t : List UInt8) (n : Nat) (r : List UInt8) (w : World) (hR : Rd p w (1 :: t)) (hl : t.length < 1000000) (hn : numR t = some (n, r)) (h1n : n ≤ 1) :
    Calls Try.prog 42 #[.pointer (some ⟨p, 0, none⟩)] w fun e w' => e = .returned (.agg #[.int .i64 1, .int .i64 n, .float .f64 0, .string ⟨#[]⟩]) ∧ Rd p w' r ∧ w.grownBy w' (some p) := by
  have hsf := run_store_float
  have hp := hR.lt
  have hR0 : Rd p (w.alloc (.cells #[.int .i64 0, .int .i64 0, .float .f64 0, .string ⟨#[]⟩] 29)) (1 :: t) := hR.grown (below_a1 _ _)
  have g0 : w.grownBy (w.alloc (.cells #[.int .i64 0, .int .i64 0, .float .f64 0, .string ⟨#[]⟩] 29)) (some p) := World.grownBy_alloc _ _ _
  have h1 : Hid (Calls Try.prog 55 #[.pointer (some ⟨p, 0, none⟩)] (w.alloc (.cells #[.int .i64 0, .int .i64 0, .float .f64 0, .string ⟨#[]⟩] 29)) fun e w' => e = .returned (.int .u8 (1 : Int)) ∧ Rd p w' t ∧ (w.alloc (.cells #[.int .i64 0, .int .i64 0, .float .f64 0, .string ⟨#[]⟩] 29)).grownBy w' (some p)) := Lib.hid (one_ok p 1 t _ hR0 hl)
  have hL0 := Lib.hid (lies_new w (.int .i64 0) (.int .i64 0) (.float .f64 0) (.string ⟨#[]⟩) 29)
  have hF0 := Lib.hid (free_new w (.int .i64 0) (.int .i64 0) (.float .f64 0) (.string ⟨#[]⟩) 29)
  have h2 := Lib.hid (fun w1 hR1 => whole_ok p t r n w1 hR1 hn (by omega) (by omega))
  clear hn
  have i1 : (n : Int) ≤ 1 := by omega
  clear hR hR0
  go_enter Try.func42, Try.ntmps42
  go_wp2_with fail
  refine h1.out.mono ?_; rintro e w1 ⟨rfl, hR1, hg1⟩
  have k1 := grown_trans g0 hg1
  go_wp2_with fail
  refine (h2.out _ hR1).mono ?_; rintro e w2 ⟨rfl, hR2, hg2⟩
  have k2 := grown_trans k1 hg2
  go_wp2_with fail
  refine (need_ok _).mono ?_; rintro e w' ⟨rfl, rfl⟩
  have hL1 := hL0.out.grow hg1 (by omega)
  have hF1 := hF0.out.grow (block_lt_of_cell hL0.out.1) hg1 (by omega)
  have hL2 := hL1.grow hg2 (by omega)
  have hF2 := hF1.grow (block_lt_of_cell hL1.1) hg2 (by omega)
  have ⟨a0, a1, a2, a3⟩ := hL2
  have ⟨b0, b1, b2, b3⟩ := hF2
  go_wp2_with fail
  exact ret_v rfl rfl rfl (Lies.set hL2 _ _ _ _) ⟨rfl, hR2.set4 hp _ _ _ _, grown_set4 k2 (Nat.le_refl _) _ _ _ _⟩
theorem rval1big (p : Nat) (t : List UInt8) (n : Nat) (r : List UInt8) (w : World) (hR : Rd p w (1 :: t)) (hl : t.length < 1000000) (hn : numR t = some (n, r)) (h1n : ¬ n ≤ 1) (h2n : n < 9223372036854775808) :
    Calls Try.prog 42 #[.pointer (some ⟨p, 0, none⟩)] w fun e w' => e = bad ∧ w.grownBy w' (some p) := by
  have hsf := run_store_float
  have hp := hR.lt
  have hR0 : Rd p (w.alloc (.cells #[.int .i64 0, .int .i64 0, .float .f64 0, .string ⟨#[]⟩] 29)) (1 :: t) := hR.grown (below_a1 _ _)
  have g0 : w.grownBy (w.alloc (.cells #[.int .i64 0, .int .i64 0, .float .f64 0, .string ⟨#[]⟩] 29)) (some p) := World.grownBy_alloc _ _ _
  have h1 : Hid (Calls Try.prog 55 #[.pointer (some ⟨p, 0, none⟩)] (w.alloc (.cells #[.int .i64 0, .int .i64 0, .float .f64 0, .string ⟨#[]⟩] 29)) fun e w' => e = .returned (.int .u8 (1 : Int)) ∧ Rd p w' t ∧ (w.alloc (.cells #[.int .i64 0, .int .i64 0, .float .f64 0, .string ⟨#[]⟩] 29)).grownBy w' (some p)) := Lib.hid (one_ok p 1 t _ hR0 hl)
  have hL0 := Lib.hid (lies_new w (.int .i64 0) (.int .i64 0) (.float .f64 0) (.string ⟨#[]⟩) 29)
  have hF0 := Lib.hid (free_new w (.int .i64 0) (.int .i64 0) (.float .f64 0) (.string ⟨#[]⟩) 29)
  have h2 := Lib.hid (fun w1 hR1 => whole_ok p t r n w1 hR1 hn h2n (by omega))
  clear hn
  have i1 : decide ((n : Int) ≤ 1) = false := by simp; omega
  clear h2n h1n
  clear hR hR0
  go_enter Try.func42, Try.ntmps42
  go_wp2_with fail
  refine h1.out.mono ?_; rintro e w1 ⟨rfl, hR1, hg1⟩
  have k1 := grown_trans g0 hg1
  go_wp2_with fail
  refine (h2.out _ hR1).mono ?_; rintro e w2 ⟨rfl, hR2, hg2⟩
  have k2 := grown_trans k1 hg2
  go_wp2_with fail
  refine (need_bad _).mono ?_; rintro e w' ⟨rfl, rfl⟩
  exact ⟨rfl, rfl, k2⟩
theorem rval1huge (p : Nat) (t : List UInt8) (n : Nat) (r : List UInt8) (w : World) (hR : Rd p w (1 :: t)) (hl : t.length < 1000000) (hn : numR t = some (n, r)) (h2n : ¬ n < 9223372036854775808) :
    Calls Try.prog 42 #[.pointer (some ⟨p, 0, none⟩)] w fun e w' => e = bad ∧ w.grownBy w' (some p) := by
  have hsf := run_store_float
  have hp := hR.lt
  have hR0 : Rd p (w.alloc (.cells #[.int .i64 0, .int .i64 0, .float .f64 0, .string ⟨#[]⟩] 29)) (1 :: t) := hR.grown (below_a1 _ _)
  have g0 : w.grownBy (w.alloc (.cells #[.int .i64 0, .int .i64 0, .float .f64 0, .string ⟨#[]⟩] 29)) (some p) := World.grownBy_alloc _ _ _
  have h1 : Hid (Calls Try.prog 55 #[.pointer (some ⟨p, 0, none⟩)] (w.alloc (.cells #[.int .i64 0, .int .i64 0, .float .f64 0, .string ⟨#[]⟩] 29)) fun e w' => e = .returned (.int .u8 (1 : Int)) ∧ Rd p w' t ∧ (w.alloc (.cells #[.int .i64 0, .int .i64 0, .float .f64 0, .string ⟨#[]⟩] 29)).grownBy w' (some p)) := Lib.hid (one_ok p 1 t _ hR0 hl)
  have hL0 := Lib.hid (lies_new w (.int .i64 0) (.int .i64 0) (.float .f64 0) (.string ⟨#[]⟩) 29)
  have hF0 := Lib.hid (free_new w (.int .i64 0) (.int .i64 0) (.float .f64 0) (.string ⟨#[]⟩) 29)
  have h2 := Lib.hid (fun w1 hR1 => whole_big p t r n w1 hR1 hn h2n (by omega))
  clear hn
  clear h2n
  clear hR hR0
  go_enter Try.func42, Try.ntmps42
  go_wp2_with fail
  refine h1.out.mono ?_; rintro e w1 ⟨rfl, hR1, hg1⟩
  have k1 := grown_trans g0 hg1
  go_wp2_with fail
  refine (h2.out _ hR1).mono ?_; rintro e w9 ⟨rfl, hg9⟩
  exact ⟨rfl, rfl, grown_trans k1 hg9⟩
theorem rval1bad (p : Nat) (t : List UInt8)  (w : World) (hR : Rd p w (1 :: t)) (hl : t.length < 1000000) (hn : numR t = none) :
    Calls Try.prog 42 #[.pointer (some ⟨p, 0, none⟩)] w fun e w' => e = bad ∧ w.grownBy w' (some p) := by
  have hsf := run_store_float
  have hp := hR.lt
  have hR0 : Rd p (w.alloc (.cells #[.int .i64 0, .int .i64 0, .float .f64 0, .string ⟨#[]⟩] 29)) (1 :: t) := hR.grown (below_a1 _ _)
  have g0 : w.grownBy (w.alloc (.cells #[.int .i64 0, .int .i64 0, .float .f64 0, .string ⟨#[]⟩] 29)) (some p) := World.grownBy_alloc _ _ _
  have h1 : Hid (Calls Try.prog 55 #[.pointer (some ⟨p, 0, none⟩)] (w.alloc (.cells #[.int .i64 0, .int .i64 0, .float .f64 0, .string ⟨#[]⟩] 29)) fun e w' => e = .returned (.int .u8 (1 : Int)) ∧ Rd p w' t ∧ (w.alloc (.cells #[.int .i64 0, .int .i64 0, .float .f64 0, .string ⟨#[]⟩] 29)).grownBy w' (some p)) := Lib.hid (one_ok p 1 t _ hR0 hl)
  have hL0 := Lib.hid (lies_new w (.int .i64 0) (.int .i64 0) (.float .f64 0) (.string ⟨#[]⟩) 29)
  have hF0 := Lib.hid (free_new w (.int .i64 0) (.int .i64 0) (.float .f64 0) (.string ⟨#[]⟩) 29)
  have h2 := Lib.hid (fun w1 hR1 => whole_bad p t w1 hR1 hn (by omega))
  clear hn
  clear hR hR0
  go_enter Try.func42, Try.ntmps42
  go_wp2_with fail
  refine h1.out.mono ?_; rintro e w1 ⟨rfl, hR1, hg1⟩
  have k1 := grown_trans g0 hg1
  go_wp2_with fail
  refine (h2.out _ hR1).mono ?_; rintro e w9 ⟨rfl, hg9⟩
  exact ⟨rfl, rfl, grown_trans k1 hg9⟩
theorem rval2huge (p : Nat) (t : List UInt8) (n : Nat) (r : List UInt8) (w : World) (hR : Rd p w (2 :: t)) (hl : t.length < 1000000) (hn : numR t = some (n, r)) (h2n : ¬ n < 9223372036854775808) :
    Calls Try.prog 42 #[.pointer (some ⟨p, 0, none⟩)] w fun e w' => e = bad ∧ w.grownBy w' (some p) := by
  have hsf := run_store_float
  have hp := hR.lt
  have hR0 : Rd p (w.alloc (.cells #[.int .i64 0, .int .i64 0, .float .f64 0, .string ⟨#[]⟩] 29)) (2 :: t) := hR.grown (below_a1 _ _)
  have g0 : w.grownBy (w.alloc (.cells #[.int .i64 0, .int .i64 0, .float .f64 0, .string ⟨#[]⟩] 29)) (some p) := World.grownBy_alloc _ _ _
  have h1 : Hid (Calls Try.prog 55 #[.pointer (some ⟨p, 0, none⟩)] (w.alloc (.cells #[.int .i64 0, .int .i64 0, .float .f64 0, .string ⟨#[]⟩] 29)) fun e w' => e = .returned (.int .u8 (2 : Int)) ∧ Rd p w' t ∧ (w.alloc (.cells #[.int .i64 0, .int .i64 0, .float .f64 0, .string ⟨#[]⟩] 29)).grownBy w' (some p)) := Lib.hid (one_ok p 2 t _ hR0 hl)
  have hL0 := Lib.hid (lies_new w (.int .i64 0) (.int .i64 0) (.float .f64 0) (.string ⟨#[]⟩) 29)
  have hF0 := Lib.hid (free_new w (.int .i64 0) (.int .i64 0) (.float .f64 0) (.string ⟨#[]⟩) 29)
  have h2 := Lib.hid (fun w1 hR1 => whole_big p t r n w1 hR1 hn h2n (by omega))
  clear hn
  clear h2n
  clear hR hR0
  go_enter Try.func42, Try.ntmps42
  go_wp2_with fail
  refine h1.out.mono ?_; rintro e w1 ⟨rfl, hR1, hg1⟩
  have k1 := grown_trans g0 hg1
  go_wp2_with fail
  refine (h2.out _ hR1).mono ?_; rintro e w9 ⟨rfl, hg9⟩
  exact ⟨rfl, rfl, grown_trans k1 hg9⟩
theorem rval2bad (p : Nat) (t : List UInt8)  (w : World) (hR : Rd p w (2 :: t)) (hl : t.length < 1000000) (hn : numR t = none) :
    Calls Try.prog 42 #[.pointer (some ⟨p, 0, none⟩)] w fun e w' => e = bad ∧ w.grownBy w' (some p) := by
  have hsf := run_store_float
  have hp := hR.lt
  have hR0 : Rd p (w.alloc (.cells #[.int .i64 0, .int .i64 0, .float .f64 0, .string ⟨#[]⟩] 29)) (2 :: t) := hR.grown (below_a1 _ _)
  have g0 : w.grownBy (w.alloc (.cells #[.int .i64 0, .int .i64 0, .float .f64 0, .string ⟨#[]⟩] 29)) (some p) := World.grownBy_alloc _ _ _
  have h1 : Hid (Calls Try.prog 55 #[.pointer (some ⟨p, 0, none⟩)] (w.alloc (.cells #[.int .i64 0, .int .i64 0, .float .f64 0, .string ⟨#[]⟩] 29)) fun e w' => e = .returned (.int .u8 (2 : Int)) ∧ Rd p w' t ∧ (w.alloc (.cells #[.int .i64 0, .int .i64 0, .float .f64 0, .string ⟨#[]⟩] 29)).grownBy w' (some p)) := Lib.hid (one_ok p 2 t _ hR0 hl)
  have hL0 := Lib.hid (lies_new w (.int .i64 0) (.int .i64 0) (.float .f64 0) (.string ⟨#[]⟩) 29)
  have hF0 := Lib.hid (free_new w (.int .i64 0) (.int .i64 0) (.float .f64 0) (.string ⟨#[]⟩) 29)
  have h2 := Lib.hid (fun w1 hR1 => whole_bad p t w1 hR1 hn (by omega))
  clear hn
  clear hR hR0
  go_enter Try.func42, Try.ntmps42
  go_wp2_with fail
  refine h1.out.mono ?_; rintro e w1 ⟨rfl, hR1, hg1⟩
  have k1 := grown_trans g0 hg1
  go_wp2_with fail
  refine (h2.out _ hR1).mono ?_; rintro e w9 ⟨rfl, hg9⟩
  exact ⟨rfl, rfl, grown_trans k1 hg9⟩
theorem rval18huge (p : Nat) (t : List UInt8) (n : Nat) (r : List UInt8) (w : World) (hR : Rd p w (18 :: t)) (hl : t.length < 1000000) (hn : numR t = some (n, r)) (h2n : ¬ n < 9223372036854775808) :
    Calls Try.prog 42 #[.pointer (some ⟨p, 0, none⟩)] w fun e w' => e = bad ∧ w.grownBy w' (some p) := by
  have hsf := run_store_float
  have hp := hR.lt
  have hR0 : Rd p (w.alloc (.cells #[.int .i64 0, .int .i64 0, .float .f64 0, .string ⟨#[]⟩] 29)) (18 :: t) := hR.grown (below_a1 _ _)
  have g0 : w.grownBy (w.alloc (.cells #[.int .i64 0, .int .i64 0, .float .f64 0, .string ⟨#[]⟩] 29)) (some p) := World.grownBy_alloc _ _ _
  have h1 : Hid (Calls Try.prog 55 #[.pointer (some ⟨p, 0, none⟩)] (w.alloc (.cells #[.int .i64 0, .int .i64 0, .float .f64 0, .string ⟨#[]⟩] 29)) fun e w' => e = .returned (.int .u8 (18 : Int)) ∧ Rd p w' t ∧ (w.alloc (.cells #[.int .i64 0, .int .i64 0, .float .f64 0, .string ⟨#[]⟩] 29)).grownBy w' (some p)) := Lib.hid (one_ok p 18 t _ hR0 hl)
  have hL0 := Lib.hid (lies_new w (.int .i64 0) (.int .i64 0) (.float .f64 0) (.string ⟨#[]⟩) 29)
  have hF0 := Lib.hid (free_new w (.int .i64 0) (.int .i64 0) (.float .f64 0) (.string ⟨#[]⟩) 29)
  have h2 := Lib.hid (fun w1 hR1 => whole_big p t r n w1 hR1 hn h2n (by omega))
  clear hn
  clear h2n
  clear hR hR0
  go_enter Try.func42, Try.ntmps42
  go_wp2_with fail
  refine h1.out.mono ?_; rintro e w1 ⟨rfl, hR1, hg1⟩
  have k1 := grown_trans g0 hg1
  go_wp2_with fail
  refine (h2.out _ hR1).mono ?_; rintro e w9 ⟨rfl, hg9⟩
  exact ⟨rfl, rfl, grown_trans k1 hg9⟩
theorem rval18bad (p : Nat) (t : List UInt8)  (w : World) (hR : Rd p w (18 :: t)) (hl : t.length < 1000000) (hn : numR t = none) :
    Calls Try.prog 42 #[.pointer (some ⟨p, 0, none⟩)] w fun e w' => e = bad ∧ w.grownBy w' (some p) := by
  have hsf := run_store_float
  have hp := hR.lt
  have hR0 : Rd p (w.alloc (.cells #[.int .i64 0, .int .i64 0, .float .f64 0, .string ⟨#[]⟩] 29)) (18 :: t) := hR.grown (below_a1 _ _)
  have g0 : w.grownBy (w.alloc (.cells #[.int .i64 0, .int .i64 0, .float .f64 0, .string ⟨#[]⟩] 29)) (some p) := World.grownBy_alloc _ _ _
  have h1 : Hid (Calls Try.prog 55 #[.pointer (some ⟨p, 0, none⟩)] (w.alloc (.cells #[.int .i64 0, .int .i64 0, .float .f64 0, .string ⟨#[]⟩] 29)) fun e w' => e = .returned (.int .u8 (18 : Int)) ∧ Rd p w' t ∧ (w.alloc (.cells #[.int .i64 0, .int .i64 0, .float .f64 0, .string ⟨#[]⟩] 29)).grownBy w' (some p)) := Lib.hid (one_ok p 18 t _ hR0 hl)
  have hL0 := Lib.hid (lies_new w (.int .i64 0) (.int .i64 0) (.float .f64 0) (.string ⟨#[]⟩) 29)
  have hF0 := Lib.hid (free_new w (.int .i64 0) (.int .i64 0) (.float .f64 0) (.string ⟨#[]⟩) 29)
  have h2 := Lib.hid (fun w1 hR1 => whole_bad p t w1 hR1 hn (by omega))
  clear hn
  clear hR hR0
  go_enter Try.func42, Try.ntmps42
  go_wp2_with fail
  refine h1.out.mono ?_; rintro e w1 ⟨rfl, hR1, hg1⟩
  have k1 := grown_trans g0 hg1
  go_wp2_with fail
  refine (h2.out _ hR1).mono ?_; rintro e w9 ⟨rfl, hg9⟩
  exact ⟨rfl, rfl, grown_trans k1 hg9⟩
theorem rval2 (p : Nat) (t : List UInt8) (n : Nat) (r : List UInt8) (w : World) (hR : Rd p w (2 :: t)) (hl : t.length < 1000000) (hn : numR t = some (n, r)) (h1n : n < 9223372036854775808) :
    Calls Try.prog 42 #[.pointer (some ⟨p, 0, none⟩)] w fun e w' => e = .returned (.agg #[.int .i64 2, .int .i64 n, .float .f64 0, .string ⟨#[]⟩]) ∧ Rd p w' r ∧ w.grownBy w' (some p) := by
  have hsf := run_store_float
  have hp := hR.lt
  have hR0 : Rd p (w.alloc (.cells #[.int .i64 0, .int .i64 0, .float .f64 0, .string ⟨#[]⟩] 29)) (2 :: t) := hR.grown (below_a1 _ _)
  have g0 : w.grownBy (w.alloc (.cells #[.int .i64 0, .int .i64 0, .float .f64 0, .string ⟨#[]⟩] 29)) (some p) := World.grownBy_alloc _ _ _
  have h1 : Hid (Calls Try.prog 55 #[.pointer (some ⟨p, 0, none⟩)] (w.alloc (.cells #[.int .i64 0, .int .i64 0, .float .f64 0, .string ⟨#[]⟩] 29)) fun e w' => e = .returned (.int .u8 (2 : Int)) ∧ Rd p w' t ∧ (w.alloc (.cells #[.int .i64 0, .int .i64 0, .float .f64 0, .string ⟨#[]⟩] 29)).grownBy w' (some p)) := Lib.hid (one_ok p 2 t _ hR0 hl)
  have hL0 := Lib.hid (lies_new w (.int .i64 0) (.int .i64 0) (.float .f64 0) (.string ⟨#[]⟩) 29)
  have hF0 := Lib.hid (free_new w (.int .i64 0) (.int .i64 0) (.float .f64 0) (.string ⟨#[]⟩) 29)
  have h2 := Lib.hid (fun w1 hR1 => whole_ok p t r n w1 hR1 hn h1n (by omega))
  clear hn
  clear hR hR0
  go_enter Try.func42, Try.ntmps42
  go_wp2_with fail
  refine h1.out.mono ?_; rintro e w1 ⟨rfl, hR1, hg1⟩
  have k1 := grown_trans g0 hg1
  go_wp2_with fail
  refine (h2.out _ hR1).mono ?_; rintro e w2 ⟨rfl, hR2, hg2⟩
  have k2 := grown_trans k1 hg2
  have hL1 := hL0.out.grow hg1 (by omega)
  have hF1 := hF0.out.grow (block_lt_of_cell hL0.out.1) hg1 (by omega)
  have hL2 := hL1.grow hg2 (by omega)
  have hF2 := hF1.grow (block_lt_of_cell hL1.1) hg2 (by omega)
  have ⟨a0, a1, a2, a3⟩ := hL2
  have ⟨b0, b1, b2, b3⟩ := hF2
  go_wp2_with fail
  exact ret_v rfl rfl rfl (Lies.set hL2 _ _ _ _) ⟨rfl, hR2.set4 hp _ _ _ _, grown_set4 k2 (Nat.le_refl _) _ _ _ _⟩
theorem rval18 (p : Nat) (t : List UInt8) (n : Nat) (r : List UInt8) (w : World) (hR : Rd p w (18 :: t)) (hl : t.length < 1000000) (hn : numR t = some (n, r)) (h1n : n < 9223372036854775808) :
    Calls Try.prog 42 #[.pointer (some ⟨p, 0, none⟩)] w fun e w' => e = .returned (.agg #[.int .i64 2, .int .i64 (-1 - (n : Int)), .float .f64 0, .string ⟨#[]⟩]) ∧ Rd p w' r ∧ w.grownBy w' (some p) := by
  have hsf := run_store_float
  have hp := hR.lt
  have hR0 : Rd p (w.alloc (.cells #[.int .i64 0, .int .i64 0, .float .f64 0, .string ⟨#[]⟩] 29)) (18 :: t) := hR.grown (below_a1 _ _)
  have g0 : w.grownBy (w.alloc (.cells #[.int .i64 0, .int .i64 0, .float .f64 0, .string ⟨#[]⟩] 29)) (some p) := World.grownBy_alloc _ _ _
  have h1 : Hid (Calls Try.prog 55 #[.pointer (some ⟨p, 0, none⟩)] (w.alloc (.cells #[.int .i64 0, .int .i64 0, .float .f64 0, .string ⟨#[]⟩] 29)) fun e w' => e = .returned (.int .u8 (18 : Int)) ∧ Rd p w' t ∧ (w.alloc (.cells #[.int .i64 0, .int .i64 0, .float .f64 0, .string ⟨#[]⟩] 29)).grownBy w' (some p)) := Lib.hid (one_ok p 18 t _ hR0 hl)
  have hL0 := Lib.hid (lies_new w (.int .i64 0) (.int .i64 0) (.float .f64 0) (.string ⟨#[]⟩) 29)
  have hF0 := Lib.hid (free_new w (.int .i64 0) (.int .i64 0) (.float .f64 0) (.string ⟨#[]⟩) 29)
  have h2 := Lib.hid (fun w1 hR1 => whole_ok p t r n w1 hR1 hn h1n (by omega))
  clear hn
  have hx : bits BinOp.xor IntKind.i64 (-1) (n : Int) = -1 - (n : Int) := not_i64 _ (by omega) (by omega)
  clear hR hR0
  go_enter Try.func42, Try.ntmps42
  go_wp2_with fail
  refine h1.out.mono ?_; rintro e w1 ⟨rfl, hR1, hg1⟩
  have k1 := grown_trans g0 hg1
  go_wp2_with fail
  refine (h2.out _ hR1).mono ?_; rintro e w2 ⟨rfl, hR2, hg2⟩
  have k2 := grown_trans k1 hg2
  have hL1 := hL0.out.grow hg1 (by omega)
  have hF1 := hF0.out.grow (block_lt_of_cell hL0.out.1) hg1 (by omega)
  have hL2 := hL1.grow hg2 (by omega)
  have hF2 := hF1.grow (block_lt_of_cell hL1.1) hg2 (by omega)
  have ⟨a0, a1, a2, a3⟩ := hL2
  have ⟨b0, b1, b2, b3⟩ := hF2
  go_wp2_with fail
  exact ret_v rfl rfl rfl (Lies.set hL2 _ _ _ _) ⟨rfl, hR2.set4 hp _ _ _ _, grown_set4 k2 (Nat.le_refl _) _ _ _ _⟩
theorem rval3 (p : Nat) (t : List UInt8) (f : Nat) (r : List UInt8) (w : World) (hR : Rd p w (3 :: t)) (hl : t.length < 1000000) (hn : fltR t = some (f, r)) :
    Calls Try.prog 42 #[.pointer (some ⟨p, 0, none⟩)] w fun e w' => e = .returned (.agg #[.int .i64 3, .int .i64 0, .float .f64 f, .string ⟨#[]⟩]) ∧ Rd p w' r ∧ w.grownBy w' (some p) := by
  have hsf := run_store_float
  have hp := hR.lt
  have hR0 : Rd p (w.alloc (.cells #[.int .i64 0, .int .i64 0, .float .f64 0, .string ⟨#[]⟩] 29)) (3 :: t) := hR.grown (below_a1 _ _)
  have g0 : w.grownBy (w.alloc (.cells #[.int .i64 0, .int .i64 0, .float .f64 0, .string ⟨#[]⟩] 29)) (some p) := World.grownBy_alloc _ _ _
  have h1 : Hid (Calls Try.prog 55 #[.pointer (some ⟨p, 0, none⟩)] (w.alloc (.cells #[.int .i64 0, .int .i64 0, .float .f64 0, .string ⟨#[]⟩] 29)) fun e w' => e = .returned (.int .u8 (3 : Int)) ∧ Rd p w' t ∧ (w.alloc (.cells #[.int .i64 0, .int .i64 0, .float .f64 0, .string ⟨#[]⟩] 29)).grownBy w' (some p)) := Lib.hid (one_ok p 3 t _ hR0 hl)
  have hL0 := Lib.hid (lies_new w (.int .i64 0) (.int .i64 0) (.float .f64 0) (.string ⟨#[]⟩) 29)
  have hF0 := Lib.hid (free_new w (.int .i64 0) (.int .i64 0) (.float .f64 0) (.string ⟨#[]⟩) 29)
  have h2 := Lib.hid (fun w1 hR1 => float_ok p t r f w1 hR1 hn (by omega))
  clear hn
  clear hR hR0
  go_enter Try.func42, Try.ntmps42
  go_wp2_with fail
  refine h1.out.mono ?_; rintro e w1 ⟨rfl, hR1, hg1⟩
  have k1 := grown_trans g0 hg1
  go_wp2_with fail
  refine (h2.out _ hR1).mono ?_; rintro e w2 ⟨rfl, hR2, hg2⟩
  have k2 := grown_trans k1 hg2
  have hL1 := hL0.out.grow hg1 (by omega)
  have hF1 := hF0.out.grow (block_lt_of_cell hL0.out.1) hg1 (by omega)
  have hL2 := hL1.grow hg2 (by omega)
  have hF2 := hF1.grow (block_lt_of_cell hL1.1) hg2 (by omega)
  have ⟨a0, a1, a2, a3⟩ := hL2
  have ⟨b0, b1, b2, b3⟩ := hF2
  go_wp2_with fail
  exact ret_v rfl rfl rfl (Lies.set hL2 _ _ _ _) ⟨rfl, hR2.set4 hp _ _ _ _, grown_set4 k2 (Nat.le_refl _) _ _ _ _⟩
theorem rval3bad (p : Nat) (t : List UInt8)  (w : World) (hR : Rd p w (3 :: t)) (hl : t.length < 1000000) (hn : fltR t = none) :
    Calls Try.prog 42 #[.pointer (some ⟨p, 0, none⟩)] w fun e w' => e = bad ∧ w.grownBy w' (some p) := by
  have hsf := run_store_float
  have hp := hR.lt
  have hR0 : Rd p (w.alloc (.cells #[.int .i64 0, .int .i64 0, .float .f64 0, .string ⟨#[]⟩] 29)) (3 :: t) := hR.grown (below_a1 _ _)
  have g0 : w.grownBy (w.alloc (.cells #[.int .i64 0, .int .i64 0, .float .f64 0, .string ⟨#[]⟩] 29)) (some p) := World.grownBy_alloc _ _ _
  have h1 : Hid (Calls Try.prog 55 #[.pointer (some ⟨p, 0, none⟩)] (w.alloc (.cells #[.int .i64 0, .int .i64 0, .float .f64 0, .string ⟨#[]⟩] 29)) fun e w' => e = .returned (.int .u8 (3 : Int)) ∧ Rd p w' t ∧ (w.alloc (.cells #[.int .i64 0, .int .i64 0, .float .f64 0, .string ⟨#[]⟩] 29)).grownBy w' (some p)) := Lib.hid (one_ok p 3 t _ hR0 hl)
  have hL0 := Lib.hid (lies_new w (.int .i64 0) (.int .i64 0) (.float .f64 0) (.string ⟨#[]⟩) 29)
  have hF0 := Lib.hid (free_new w (.int .i64 0) (.int .i64 0) (.float .f64 0) (.string ⟨#[]⟩) 29)
  have h2 := Lib.hid (fun w1 hR1 => float_bad p t w1 hR1 hn (by omega))
  clear hn
  clear hR hR0
  go_enter Try.func42, Try.ntmps42
  go_wp2_with fail
  refine h1.out.mono ?_; rintro e w1 ⟨rfl, hR1, hg1⟩
  have k1 := grown_trans g0 hg1
  go_wp2_with fail
  refine (h2.out _ hR1).mono ?_; rintro e w9 ⟨rfl, hg9⟩
  exact ⟨rfl, rfl, grown_trans k1 hg9⟩
theorem rval4 (p : Nat) (t : List UInt8) (s r : List UInt8) (w : World) (hR : Rd p w (4 :: t)) (hl : t.length < 1000000) (hn : textR t = some (s, r)) :
    Calls Try.prog 42 #[.pointer (some ⟨p, 0, none⟩)] w fun e w' => e = .returned (.agg #[.int .i64 4, .int .i64 0, .float .f64 0, .string ⟨s.toArray⟩]) ∧ Rd p w' r ∧ w.grownBy w' (some p) := by
  have hsf := run_store_float
  have hp := hR.lt
  have hR0 : Rd p (w.alloc (.cells #[.int .i64 0, .int .i64 0, .float .f64 0, .string ⟨#[]⟩] 29)) (4 :: t) := hR.grown (below_a1 _ _)
  have g0 : w.grownBy (w.alloc (.cells #[.int .i64 0, .int .i64 0, .float .f64 0, .string ⟨#[]⟩] 29)) (some p) := World.grownBy_alloc _ _ _
  have h1 : Hid (Calls Try.prog 55 #[.pointer (some ⟨p, 0, none⟩)] (w.alloc (.cells #[.int .i64 0, .int .i64 0, .float .f64 0, .string ⟨#[]⟩] 29)) fun e w' => e = .returned (.int .u8 (4 : Int)) ∧ Rd p w' t ∧ (w.alloc (.cells #[.int .i64 0, .int .i64 0, .float .f64 0, .string ⟨#[]⟩] 29)).grownBy w' (some p)) := Lib.hid (one_ok p 4 t _ hR0 hl)
  have hL0 := Lib.hid (lies_new w (.int .i64 0) (.int .i64 0) (.float .f64 0) (.string ⟨#[]⟩) 29)
  have hF0 := Lib.hid (free_new w (.int .i64 0) (.int .i64 0) (.float .f64 0) (.string ⟨#[]⟩) 29)
  have h2 := Lib.hid (fun w1 hR1 => rtext_ok' p t s r w1 hR1 hn (by omega))
  clear hn
  clear hR hR0
  go_enter Try.func42, Try.ntmps42
  go_wp2_with fail
  refine h1.out.mono ?_; rintro e w1 ⟨rfl, hR1, hg1⟩
  have k1 := grown_trans g0 hg1
  go_wp2_with fail
  refine (h2.out _ hR1).mono ?_; rintro e w2 ⟨rfl, hR2, hg2⟩
  have k2 := grown_trans k1 hg2
  have hL1 := hL0.out.grow hg1 (by omega)
  have hF1 := hF0.out.grow (block_lt_of_cell hL0.out.1) hg1 (by omega)
  have hL2 := hL1.grow hg2 (by omega)
  have hF2 := hF1.grow (block_lt_of_cell hL1.1) hg2 (by omega)
  have ⟨a0, a1, a2, a3⟩ := hL2
  have ⟨b0, b1, b2, b3⟩ := hF2
  go_wp2_with fail
  exact ret_v rfl rfl rfl (Lies.set hL2 _ _ _ _) ⟨rfl, hR2.set4 hp _ _ _ _, grown_set4 k2 (Nat.le_refl _) _ _ _ _⟩
theorem rval4bad (p : Nat) (t : List UInt8)  (w : World) (hR : Rd p w (4 :: t)) (hl : t.length < 1000000) (hn : textR t = none) :
    Calls Try.prog 42 #[.pointer (some ⟨p, 0, none⟩)] w fun e w' => e = bad ∧ w.grownBy w' (some p) := by
  have hsf := run_store_float
  have hp := hR.lt
  have hR0 : Rd p (w.alloc (.cells #[.int .i64 0, .int .i64 0, .float .f64 0, .string ⟨#[]⟩] 29)) (4 :: t) := hR.grown (below_a1 _ _)
  have g0 : w.grownBy (w.alloc (.cells #[.int .i64 0, .int .i64 0, .float .f64 0, .string ⟨#[]⟩] 29)) (some p) := World.grownBy_alloc _ _ _
  have h1 : Hid (Calls Try.prog 55 #[.pointer (some ⟨p, 0, none⟩)] (w.alloc (.cells #[.int .i64 0, .int .i64 0, .float .f64 0, .string ⟨#[]⟩] 29)) fun e w' => e = .returned (.int .u8 (4 : Int)) ∧ Rd p w' t ∧ (w.alloc (.cells #[.int .i64 0, .int .i64 0, .float .f64 0, .string ⟨#[]⟩] 29)).grownBy w' (some p)) := Lib.hid (one_ok p 4 t _ hR0 hl)
  have hL0 := Lib.hid (lies_new w (.int .i64 0) (.int .i64 0) (.float .f64 0) (.string ⟨#[]⟩) 29)
  have hF0 := Lib.hid (free_new w (.int .i64 0) (.int .i64 0) (.float .f64 0) (.string ⟨#[]⟩) 29)
  have h2 := Lib.hid (fun w1 hR1 => rtext_bad' p t w1 hR1 hn (by omega))
  clear hn
  clear hR hR0
  go_enter Try.func42, Try.ntmps42
  go_wp2_with fail
  refine h1.out.mono ?_; rintro e w1 ⟨rfl, hR1, hg1⟩
  have k1 := grown_trans g0 hg1
  go_wp2_with fail
  refine (h2.out _ hR1).mono ?_; rintro e w9 ⟨rfl, hg9⟩
  exact ⟨rfl, rfl, grown_trans k1 hg9⟩
theorem rvalx (p : Nat) (t : List UInt8) (c : UInt8) (w : World) (hR : Rd p w (c :: t)) (hl : t.length < 1000000) (n0 : c ≠ 0) (n1 : c ≠ 1) (n2 : c ≠ 2) (n18 : c ≠ 18) (n3 : c ≠ 3) (n4 : c ≠ 4) :
    Calls Try.prog 42 #[.pointer (some ⟨p, 0, none⟩)] w fun e w' => e = bad ∧ w.grownBy w' (some p) := by
  have hsf := run_store_float
  have hp := hR.lt
  have hR0 : Rd p (w.alloc (.cells #[.int .i64 0, .int .i64 0, .float .f64 0, .string ⟨#[]⟩] 29)) (c :: t) := hR.grown (below_a1 _ _)
  have g0 : w.grownBy (w.alloc (.cells #[.int .i64 0, .int .i64 0, .float .f64 0, .string ⟨#[]⟩] 29)) (some p) := World.grownBy_alloc _ _ _
  have h1 : Hid (Calls Try.prog 55 #[.pointer (some ⟨p, 0, none⟩)] (w.alloc (.cells #[.int .i64 0, .int .i64 0, .float .f64 0, .string ⟨#[]⟩] 29)) fun e w' => e = .returned (.int .u8 (c.toNat : Int)) ∧ Rd p w' t ∧ (w.alloc (.cells #[.int .i64 0, .int .i64 0, .float .f64 0, .string ⟨#[]⟩] 29)).grownBy w' (some p)) := Lib.hid (one_ok p c t _ hR0 hl)
  have hL0 := Lib.hid (lies_new w (.int .i64 0) (.int .i64 0) (.float .f64 0) (.string ⟨#[]⟩) 29)
  have hF0 := Lib.hid (free_new w (.int .i64 0) (.int .i64 0) (.float .f64 0) (.string ⟨#[]⟩) 29)
  have q : ∀ d : UInt8, c ≠ d → ((c.toNat : Int) == (d.toNat : Int)) = false := fun d hd => by simp only [beq_eq_false_iff_ne, ne_eq]; intro h; exact hd (UInt8.toNat_inj.1 (by omega))
  have q0 : ((c.toNat : Int) == 0) = false := q 0 n0
  have q1 : ((c.toNat : Int) == 1) = false := q 1 n1
  have q2 : ((c.toNat : Int) == 2) = false := q 2 n2
  have q18 : ((c.toNat : Int) == 18) = false := q 18 n18
  have q3 : ((c.toNat : Int) == 3) = false := q 3 n3
  have q4 : ((c.toNat : Int) == 4) = false := q 4 n4
  clear q n0 n1 n2 n18 n3 n4
  clear hR hR0
  go_enter Try.func42, Try.ntmps42
  go_wp2_with fail
  refine h1.out.mono ?_; rintro e w1 ⟨rfl, hR1, hg1⟩
  have k1 := grown_trans g0 hg1
  go_wp2_with fail
  exact ⟨rfl, rfl, k1⟩
end Go.Proofs.Ytcbogapnhabhkaa
