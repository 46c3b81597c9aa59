import Derived.Test.YtcbogapnhabhkaaPU
namespace Go.Proofs.Ytcbogapnhabhkaa
open Go Go.RowKit
set_option linter.unusedVariables false
theorem Free.below {w w' : World} {b : Nat} {v0 v1 v2 v3 : Value} (h : Free w b) (hl : Lies w b v0 v1 v2 v3) (hb : Below w.heap.size w w') : Free w' b :=
  have hlt := block_lt_of_cell hl.1
  ⟨(hb.frozen (p := ⟨b, 0, none⟩) hlt).trans h.1, (hb.frozen (p := ⟨b, 1, none⟩) hlt).trans h.2.1, (hb.frozen (p := ⟨b, 2, none⟩) hlt).trans h.2.2.1, (hb.frozen (p := ⟨b, 3, none⟩) hlt).trans h.2.2.2⟩
theorem Free.st {w : World} {b : Nat} (h : Free w b) (a : Addr) (u : Value) : Free (w.setCell a u) b := by
  obtain ⟨h0, h1, h2, h3⟩ := h
  refine ⟨?_, ?_, ?_, ?_⟩ <;> simp [go_sem, h0, h1, h2, h3]
theorem Lies.st0 {w : World} {b : Nat} {v0 v1 v2 v3 : Value} (h : Lies w b v0 v1 v2 v3) (u : Value) : Lies (w.setCell ⟨b, 0, none⟩ u) b u v1 v2 v3 := by
  obtain ⟨h0, h1, h2, h3⟩ := h
  refine ⟨?_, ?_, ?_, ?_⟩ <;> go_simp
theorem Lies.st1 {w : World} {b : Nat} {v0 v1 v2 v3 : Value} (h : Lies w b v0 v1 v2 v3) (u : Value) : Lies (w.setCell ⟨b, 1, none⟩ u) b v0 u v2 v3 := by
  obtain ⟨h0, h1, h2, h3⟩ := h
  refine ⟨?_, ?_, ?_, ?_⟩ <;> go_simp
theorem Lies.st3 {w : World} {b : Nat} {v0 v1 v2 v3 : Value} (h : Lies w b v0 v1 v2 v3) (u : Value) : Lies (w.setCell ⟨b, 3, none⟩ u) b v0 v1 v2 u := by
  obtain ⟨h0, h1, h2, h3⟩ := h
  refine ⟨?_, ?_, ?_, ?_⟩ <;> go_simp
theorem Lies.far {w : World} {b c j : Nat} {v0 v1 v2 v3 : Value} (h : Lies w b v0 v1 v2 v3) (hn : b ≠ c) (u : Value) : Lies (w.setCell ⟨c, j, none⟩ u) b v0 v1 v2 v3 := h.grow (grown_set w c j u) hn
theorem below_st {n : Nat} {w w' : World} {b j : Nat} (h : Below n w w') (hb : n ≤ b) (u : Value) : Below n w (w'.setCell ⟨b, j, none⟩ u) := h.setCell hb u
theorem lies_two (w : World) (X : Obj) (a b c d : Value) (t : TypeId) : Lies ((w.alloc X).alloc (.cells #[a, b, c, d] t)) (w.heap.size + 1) a b c d := ⟨by simp, by simp, by simp, by simp⟩
theorem free_two (w : World) (X : Obj) (a b c d : Value) (t : TypeId) : Free ((w.alloc X).alloc (.cells #[a, b, c, d] t)) (w.heap.size + 1) := by
  refine ⟨?_, ?_, ?_, ?_⟩ <;> go_simp
theorem free_one (w : World) (a b c d : Value) (t : TypeId) (Y : Obj) : Free ((w.alloc (.cells #[a, b, c, d] t)).alloc Y) w.heap.size :=
  (free_new w a b c d t).below (lies_new w a b c d t) (below_a1 _ _)
theorem rv0 (s : ByteArray) (hs : s.size ≤ 1000) (h0 : 0 < s.size) (hC : (s[0].toNat : Int) = 0) (HR : Hid (∀ w, Calls Try.prog 15 #[.agg #[.int .i64 0, .int .i64 0, .float .f64 0, .string ⟨#[]⟩]] w fun e w' => e = .returned (.bool true) ∧ Below w.heap.size w w')) (X : ByteArray) (HPV : Hid (∀ w, Calls Try.prog 18 #[.agg #[.int .i64 0, .int .i64 0, .float .f64 0, .string ⟨#[]⟩]] w fun e w' => e = .returned (.string X) ∧ Below w.heap.size w w')) (hb : (X.toList == (s.extract 0 1).toList) = true) (w : World) :
    Calls Try.prog 24 #[.string s] w fun e w' => e = .returned (.tuple #[.agg #[.int .i64 0, .int .i64 0, .float .f64 0, .string ⟨#[]⟩], .int .i64 (1), .bool true]) ∧ Below w.heap.size w w' := by
  have hsf := run_store_float
  have e0 : (s.toList == []) = false := by rw [toL, cons0 s h0]; rfl
  have i0 : (0 : Int) < (s.size : Int) := by omega
  have i1 : (1 : Int) ≤ (s.size : Int) := by omega
  have lV : Lies ((w.alloc (.cells #[.int .i64 0, .int .i64 0, .float .f64 0, .string ⟨#[]⟩] 29)).alloc (.cells #[.int .i64 0, .int .i64 0, .float .f64 0, .string ⟨#[]⟩] 29)) (w.heap.size + 1) (.int .i64 0) (.int .i64 0) (.float .f64 0) (.string ⟨#[]⟩) := lies_two _ _ _ _ _ _ _
  have lR : Lies ((w.alloc (.cells #[.int .i64 0, .int .i64 0, .float .f64 0, .string ⟨#[]⟩] 29)).alloc (.cells #[.int .i64 0, .int .i64 0, .float .f64 0, .string ⟨#[]⟩] 29)) w.heap.size (.int .i64 0) (.int .i64 0) (.float .f64 0) (.string ⟨#[]⟩) := (lies_new w _ _ _ _ _).alloc _
  have fV : Free ((w.alloc (.cells #[.int .i64 0, .int .i64 0, .float .f64 0, .string ⟨#[]⟩] 29)).alloc (.cells #[.int .i64 0, .int .i64 0, .float .f64 0, .string ⟨#[]⟩] 29)) (w.heap.size + 1) := free_two _ _ _ _ _ _ _
  have fR : Free ((w.alloc (.cells #[.int .i64 0, .int .i64 0, .float .f64 0, .string ⟨#[]⟩] 29)).alloc (.cells #[.int .i64 0, .int .i64 0, .float .f64 0, .string ⟨#[]⟩] 29)) w.heap.size := free_one _ _ _ _ _ _ _
  have c0 : Below w.heap.size w ((w.alloc (.cells #[.int .i64 0, .int .i64 0, .float .f64 0, .string ⟨#[]⟩] 29)).alloc (.cells #[.int .i64 0, .int .i64 0, .float .f64 0, .string ⟨#[]⟩] 29)) := below_a2 _ _ _
  have LV := Lib.hid lV
  have LR := Lib.hid lR
  have FV := Lib.hid fV
  have FR := Lib.hid fR
  have CC := Lib.hid c0
  clear lV lR fV fR c0
  go_enter Try.func24, Try.ntmps24
  go_wp2_with fail
  refine (HR.out _).mono ?_; rintro e w9 ⟨rfl, hb9⟩
  have lV9 := LV.out.below hb9
  have lR9 := LR.out.below hb9
  have fR9 := FR.out.below LR.out hb9
  have c9 := Below.chain CC.out hb9
  have g0 := fun x : Later w9 => (lV9.below x.kept).1
  have g1 := fun x : Later w9 => (lV9.below x.kept).2.1
  have g2 := fun x : Later w9 => (lV9.below x.kept).2.2.1
  have g3 := fun x : Later w9 => (lV9.below x.kept).2.2.2
  have HP := HPV.out
  go_wp2_with fail
  refine wp_region_later (by kernel_rfl) (by kernel_rfl) ?_
  repeat (go_big_quiet_step (first | with_reducible exact later_call (HP _)))
  refine wpQuiet_nil ?_
  rintro w' ⟨x, rfl⟩
  clear g0 g1 g2 g3
  have lVx := lV9.below x.kept
  have lRx := lR9.below x.kept
  have fRx := fR9.below lR9 x.kept
  have cx := Below.chain c9 x.kept
  have ⟨x0, x1, x2, x3⟩ := lVx
  have ⟨z0, z1, z2, z3⟩ := lRx
  have ⟨y0, y1, y2, y3⟩ := fRx
  go_wp2_with fail
  exact ret_vnb rfl rfl rfl rfl rfl (Lies.set lRx _ _ _ _) ⟨rfl, below_set4 cx (Nat.le_refl _) _ _ _ _⟩
theorem rv1 (s : ByteArray) (hs : s.size ≤ 1000) (h0 : 0 < s.size) (hC : (s[0].toNat : Int) = 1) (n K KK : Nat) (hKK : KK = 1 + K) (hn : n < 9223372036854775808) (G : ∀ w, Calls Try.prog 20 #[.string (s.extract 1 s.size)] w fun e w' => e = .returned (.tuple #[.int .u64 (n : Nat), .int .i64 (K : Nat), .bool true]) ∧ Below w.heap.size w w') (HR : Hid (∀ w, Calls Try.prog 15 #[.agg #[.int .i64 1, .int .i64 (n : Nat), .float .f64 0, .string ⟨#[]⟩]] w fun e w' => e = .returned (.bool true) ∧ Below w.heap.size w w')) (X : ByteArray) (HPV : Hid (∀ w, Calls Try.prog 18 #[.agg #[.int .i64 1, .int .i64 (n : Nat), .float .f64 0, .string ⟨#[]⟩]] w fun e w' => e = .returned (.string X) ∧ Below w.heap.size w w')) (hb : (X.toList == (s.extract 0 KK).toList) = true) (hK : KK ≤ s.size) (w : World) :
    Calls Try.prog 24 #[.string s] w fun e w' => e = .returned (.tuple #[.agg #[.int .i64 1, .int .i64 (n : Nat), .float .f64 0, .string ⟨#[]⟩], .int .i64 ((KK : Nat)), .bool true]) ∧ Below w.heap.size w w' := by
  have hsf := run_store_float
  have e0 : (s.toList == []) = false := by rw [toL, cons0 s h0]; rfl
  have i0 : (0 : Int) < (s.size : Int) := by omega
  have i1 : (1 : Int) ≤ (s.size : Int) := by omega
  have iN : decide (9223372036854775807 < (n : Int)) = false := by simp; omega
  have iK : (1 : Int) + (K : Int) = (KK : Int) := by omega
  have jK : (KK : Int) ≤ (s.size : Int) := by omega
  have mN : (n : Int) ≤ 9223372036854775807 := by omega
  clear hn hKK
  have lV : Lies ((w.alloc (.cells #[.int .i64 0, .int .i64 0, .float .f64 0, .string ⟨#[]⟩] 29)).alloc (.cells #[.int .i64 1, .int .i64 0, .float .f64 0, .string ⟨#[]⟩] 29)) (w.heap.size + 1) (.int .i64 1) (.int .i64 0) (.float .f64 0) (.string ⟨#[]⟩) := lies_two _ _ _ _ _ _ _
  have lR : Lies ((w.alloc (.cells #[.int .i64 0, .int .i64 0, .float .f64 0, .string ⟨#[]⟩] 29)).alloc (.cells #[.int .i64 1, .int .i64 0, .float .f64 0, .string ⟨#[]⟩] 29)) w.heap.size (.int .i64 0) (.int .i64 0) (.float .f64 0) (.string ⟨#[]⟩) := (lies_new w _ _ _ _ _).alloc _
  have fV : Free ((w.alloc (.cells #[.int .i64 0, .int .i64 0, .float .f64 0, .string ⟨#[]⟩] 29)).alloc (.cells #[.int .i64 1, .int .i64 0, .float .f64 0, .string ⟨#[]⟩] 29)) (w.heap.size + 1) := free_two _ _ _ _ _ _ _
  have fR : Free ((w.alloc (.cells #[.int .i64 0, .int .i64 0, .float .f64 0, .string ⟨#[]⟩] 29)).alloc (.cells #[.int .i64 1, .int .i64 0, .float .f64 0, .string ⟨#[]⟩] 29)) w.heap.size := free_one _ _ _ _ _ _ _
  have c0 : Below w.heap.size w ((w.alloc (.cells #[.int .i64 0, .int .i64 0, .float .f64 0, .string ⟨#[]⟩] 29)).alloc (.cells #[.int .i64 1, .int .i64 0, .float .f64 0, .string ⟨#[]⟩] 29)) := below_a2 _ _ _
  have LV := Lib.hid lV
  have LR := Lib.hid lR
  have FV := Lib.hid fV
  have FR := Lib.hid fR
  have CC := Lib.hid c0
  clear lV lR fV fR c0
  go_enter Try.func24, Try.ntmps24
  go_wp2_with fail
  refine (G _).mono ?_; rintro e w1 ⟨rfl, hb1⟩
  have lV1 := LV.out.below hb1
  have lR1 := LR.out.below hb1
  have fV1 := FV.out.below LV.out hb1
  have fR1 := FR.out.below LR.out hb1
  have c1 := Below.chain CC.out hb1
  have ⟨x0, x1, x2, x3⟩ := lV1
  have ⟨y0, y1, y2, y3⟩ := fV1
  go_wp2_with fail
  have lV2 := lV1.st1 (.int .i64 (n : Nat))
  have lR2 := Lies.far (c := w.heap.size + 1) (j := 1) lR1 (by omega) (.int .i64 (n : Nat))
  have fR2 := fR1.st ⟨w.heap.size + 1, 1, none⟩ (.int .i64 (n : Nat))
  have c2 := below_st (b := w.heap.size + 1) (j := 1) c1 (Nat.le_succ _) (.int .i64 (n : Nat))
  clear x0 x1 x2 x3 y0 y1 y2 y3
  refine (HR.out _).mono ?_; rintro e w9 ⟨rfl, hb9⟩
  have lV9 := lV2.below hb9
  have lR9 := lR2.below hb9
  have fR9 := fR2.below lR2 hb9
  have c9 := Below.chain c2 hb9
  have g0 := fun x : Later w9 => (lV9.below x.kept).1
  have g1 := fun x : Later w9 => (lV9.below x.kept).2.1
  have g2 := fun x : Later w9 => (lV9.below x.kept).2.2.1
  have g3 := fun x : Later w9 => (lV9.below x.kept).2.2.2
  have HP := HPV.out
  go_wp2_with fail
  refine wp_region_later (by kernel_rfl) (by kernel_rfl) ?_
  repeat (go_big_quiet_step (first | with_reducible exact later_call (HP _)))
  refine wpQuiet_nil ?_
  rintro w' ⟨x, rfl⟩
  clear g0 g1 g2 g3
  have lVx := lV9.below x.kept
  have lRx := lR9.below x.kept
  have fRx := fR9.below lR9 x.kept
  have cx := Below.chain c9 x.kept
  have ⟨x0, x1, x2, x3⟩ := lVx
  have ⟨z0, z1, z2, z3⟩ := lRx
  have ⟨y0, y1, y2, y3⟩ := fRx
  go_wp2_with fail
  exact ret_vnb rfl rfl rfl rfl rfl (Lies.set lRx _ _ _ _) ⟨rfl, below_set4 cx (Nat.le_refl _) _ _ _ _⟩
theorem rv2 (s : ByteArray) (hs : s.size ≤ 1000) (h0 : 0 < s.size) (hC : (s[0].toNat : Int) = 2) (n K KK : Nat) (hKK : KK = 1 + K) (hn : n < 9223372036854775808) (G : ∀ w, Calls Try.prog 20 #[.string (s.extract 1 s.size)] w fun e w' => e = .returned (.tuple #[.int .u64 (n : Nat), .int .i64 (K : Nat), .bool true]) ∧ Below w.heap.size w w') (HR : Hid (∀ w, Calls Try.prog 15 #[.agg #[.int .i64 2, .int .i64 (n : Nat), .float .f64 0, .string ⟨#[]⟩]] w fun e w' => e = .returned (.bool true) ∧ Below w.heap.size w w')) (X : ByteArray) (HPV : Hid (∀ w, Calls Try.prog 18 #[.agg #[.int .i64 2, .int .i64 (n : Nat), .float .f64 0, .string ⟨#[]⟩]] w fun e w' => e = .returned (.string X) ∧ Below w.heap.size w w')) (hb : (X.toList == (s.extract 0 KK).toList) = true) (hK : KK ≤ s.size) (w : World) :
    Calls Try.prog 24 #[.string s] w fun e w' => e = .returned (.tuple #[.agg #[.int .i64 2, .int .i64 (n : Nat), .float .f64 0, .string ⟨#[]⟩], .int .i64 ((KK : Nat)), .bool true]) ∧ Below w.heap.size w w' := by
  have hsf := run_store_float
  have e0 : (s.toList == []) = false := by rw [toL, cons0 s h0]; rfl
  have i0 : (0 : Int) < (s.size : Int) := by omega
  have i1 : (1 : Int) ≤ (s.size : Int) := by omega
  have iN : decide (9223372036854775807 < (n : Int)) = false := by simp; omega
  have iK : (1 : Int) + (K : Int) = (KK : Int) := by omega
  have jK : (KK : Int) ≤ (s.size : Int) := by omega
  have mN : (n : Int) ≤ 9223372036854775807 := by omega
  clear hn hKK
  have lV : Lies ((w.alloc (.cells #[.int .i64 0, .int .i64 0, .float .f64 0, .string ⟨#[]⟩] 29)).alloc (.cells #[.int .i64 2, .int .i64 0, .float .f64 0, .string ⟨#[]⟩] 29)) (w.heap.size + 1) (.int .i64 2) (.int .i64 0) (.float .f64 0) (.string ⟨#[]⟩) := lies_two _ _ _ _ _ _ _
  have lR : Lies ((w.alloc (.cells #[.int .i64 0, .int .i64 0, .float .f64 0, .string ⟨#[]⟩] 29)).alloc (.cells #[.int .i64 2, .int .i64 0, .float .f64 0, .string ⟨#[]⟩] 29)) w.heap.size (.int .i64 0) (.int .i64 0) (.float .f64 0) (.string ⟨#[]⟩) := (lies_new w _ _ _ _ _).alloc _
  have fV : Free ((w.alloc (.cells #[.int .i64 0, .int .i64 0, .float .f64 0, .string ⟨#[]⟩] 29)).alloc (.cells #[.int .i64 2, .int .i64 0, .float .f64 0, .string ⟨#[]⟩] 29)) (w.heap.size + 1) := free_two _ _ _ _ _ _ _
  have fR : Free ((w.alloc (.cells #[.int .i64 0, .int .i64 0, .float .f64 0, .string ⟨#[]⟩] 29)).alloc (.cells #[.int .i64 2, .int .i64 0, .float .f64 0, .string ⟨#[]⟩] 29)) w.heap.size := free_one _ _ _ _ _ _ _
  have c0 : Below w.heap.size w ((w.alloc (.cells #[.int .i64 0, .int .i64 0, .float .f64 0, .string ⟨#[]⟩] 29)).alloc (.cells #[.int .i64 2, .int .i64 0, .float .f64 0, .string ⟨#[]⟩] 29)) := below_a2 _ _ _
  have LV := Lib.hid lV
  have LR := Lib.hid lR
  have FV := Lib.hid fV
  have FR := Lib.hid fR
  have CC := Lib.hid c0
  clear lV lR fV fR c0
  go_enter Try.func24, Try.ntmps24
  go_wp2_with fail
  refine (G _).mono ?_; rintro e w1 ⟨rfl, hb1⟩
  have lV1 := LV.out.below hb1
  have lR1 := LR.out.below hb1
  have fV1 := FV.out.below LV.out hb1
  have fR1 := FR.out.below LR.out hb1
  have c1 := Below.chain CC.out hb1
  have ⟨x0, x1, x2, x3⟩ := lV1
  have ⟨y0, y1, y2, y3⟩ := fV1
  go_wp2_with fail
  have lV2 := lV1.st1 (.int .i64 (n : Nat))
  have lR2 := Lies.far (c := w.heap.size + 1) (j := 1) lR1 (by omega) (.int .i64 (n : Nat))
  have fR2 := fR1.st ⟨w.heap.size + 1, 1, none⟩ (.int .i64 (n : Nat))
  have c2 := below_st (b := w.heap.size + 1) (j := 1) c1 (Nat.le_succ _) (.int .i64 (n : Nat))
  clear x0 x1 x2 x3 y0 y1 y2 y3
  refine (HR.out _).mono ?_; rintro e w9 ⟨rfl, hb9⟩
  have lV9 := lV2.below hb9
  have lR9 := lR2.below hb9
  have fR9 := fR2.below lR2 hb9
  have c9 := Below.chain c2 hb9
  have g0 := fun x : Later w9 => (lV9.below x.kept).1
  have g1 := fun x : Later w9 => (lV9.below x.kept).2.1
  have g2 := fun x : Later w9 => (lV9.below x.kept).2.2.1
  have g3 := fun x : Later w9 => (lV9.below x.kept).2.2.2
  have HP := HPV.out
  go_wp2_with fail
  refine wp_region_later (by kernel_rfl) (by kernel_rfl) ?_
  repeat (go_big_quiet_step (first | with_reducible exact later_call (HP _)))
  refine wpQuiet_nil ?_
  rintro w' ⟨x, rfl⟩
  clear g0 g1 g2 g3
  have lVx := lV9.below x.kept
  have lRx := lR9.below x.kept
  have fRx := fR9.below lR9 x.kept
  have cx := Below.chain c9 x.kept
  have ⟨x0, x1, x2, x3⟩ := lVx
  have ⟨z0, z1, z2, z3⟩ := lRx
  have ⟨y0, y1, y2, y3⟩ := fRx
  go_wp2_with fail
  exact ret_vnb rfl rfl rfl rfl rfl (Lies.set lRx _ _ _ _) ⟨rfl, below_set4 cx (Nat.le_refl _) _ _ _ _⟩
theorem rv1r (s : ByteArray) (hs : s.size ≤ 1000) (h0 : 0 < s.size) (hC : (s[0].toNat : Int) = 1) (n K KK : Nat) (hKK : KK = 1 + K) (hn : n < 9223372036854775808) (G : ∀ w, Calls Try.prog 20 #[.string (s.extract 1 s.size)] w fun e w' => e = .returned (.tuple #[.int .u64 (n : Nat), .int .i64 (K : Nat), .bool true]) ∧ Below w.heap.size w w') (HR : Hid (∀ w, Calls Try.prog 15 #[.agg #[.int .i64 1, .int .i64 (n : Nat), .float .f64 0, .string ⟨#[]⟩]] w fun e w' => e = .returned (.bool false) ∧ Below w.heap.size w w')) (hK : KK ≤ s.size) (w : World) :
    Calls Try.prog 24 #[.string s] w fun e w' => e = .returned (.tuple #[.agg #[.int .i64 0, .int .i64 0, .float .f64 0, .string ⟨#[]⟩], .int .i64 0, .bool false]) ∧ Below w.heap.size w w' := by
  have hsf := run_store_float
  have e0 : (s.toList == []) = false := by rw [toL, cons0 s h0]; rfl
  have i0 : (0 : Int) < (s.size : Int) := by omega
  have i1 : (1 : Int) ≤ (s.size : Int) := by omega
  have iN : decide (9223372036854775807 < (n : Int)) = false := by simp; omega
  have iK : (1 : Int) + (K : Int) = (KK : Int) := by omega
  have jK : (KK : Int) ≤ (s.size : Int) := by omega
  have mN : (n : Int) ≤ 9223372036854775807 := by omega
  clear hn hKK
  have lV : Lies ((w.alloc (.cells #[.int .i64 0, .int .i64 0, .float .f64 0, .string ⟨#[]⟩] 29)).alloc (.cells #[.int .i64 1, .int .i64 0, .float .f64 0, .string ⟨#[]⟩] 29)) (w.heap.size + 1) (.int .i64 1) (.int .i64 0) (.float .f64 0) (.string ⟨#[]⟩) := lies_two _ _ _ _ _ _ _
  have lR : Lies ((w.alloc (.cells #[.int .i64 0, .int .i64 0, .float .f64 0, .string ⟨#[]⟩] 29)).alloc (.cells #[.int .i64 1, .int .i64 0, .float .f64 0, .string ⟨#[]⟩] 29)) w.heap.size (.int .i64 0) (.int .i64 0) (.float .f64 0) (.string ⟨#[]⟩) := (lies_new w _ _ _ _ _).alloc _
  have fV : Free ((w.alloc (.cells #[.int .i64 0, .int .i64 0, .float .f64 0, .string ⟨#[]⟩] 29)).alloc (.cells #[.int .i64 1, .int .i64 0, .float .f64 0, .string ⟨#[]⟩] 29)) (w.heap.size + 1) := free_two _ _ _ _ _ _ _
  have fR : Free ((w.alloc (.cells #[.int .i64 0, .int .i64 0, .float .f64 0, .string ⟨#[]⟩] 29)).alloc (.cells #[.int .i64 1, .int .i64 0, .float .f64 0, .string ⟨#[]⟩] 29)) w.heap.size := free_one _ _ _ _ _ _ _
  have c0 : Below w.heap.size w ((w.alloc (.cells #[.int .i64 0, .int .i64 0, .float .f64 0, .string ⟨#[]⟩] 29)).alloc (.cells #[.int .i64 1, .int .i64 0, .float .f64 0, .string ⟨#[]⟩] 29)) := below_a2 _ _ _
  have LV := Lib.hid lV
  have LR := Lib.hid lR
  have FV := Lib.hid fV
  have FR := Lib.hid fR
  have CC := Lib.hid c0
  clear lV lR fV fR c0
  go_enter Try.func24, Try.ntmps24
  go_wp2_with fail
  refine (G _).mono ?_; rintro e w1 ⟨rfl, hb1⟩
  have lV1 := LV.out.below hb1
  have lR1 := LR.out.below hb1
  have fV1 := FV.out.below LV.out hb1
  have fR1 := FR.out.below LR.out hb1
  have c1 := Below.chain CC.out hb1
  have ⟨x0, x1, x2, x3⟩ := lV1
  have ⟨y0, y1, y2, y3⟩ := fV1
  go_wp2_with fail
  have lV2 := lV1.st1 (.int .i64 (n : Nat))
  have lR2 := Lies.far (c := w.heap.size + 1) (j := 1) lR1 (by omega) (.int .i64 (n : Nat))
  have fR2 := fR1.st ⟨w.heap.size + 1, 1, none⟩ (.int .i64 (n : Nat))
  have c2 := below_st (b := w.heap.size + 1) (j := 1) c1 (Nat.le_succ _) (.int .i64 (n : Nat))
  clear x0 x1 x2 x3 y0 y1 y2 y3
  refine (HR.out _).mono ?_; rintro e w9 ⟨rfl, hb9⟩
  have lV9 := lV2.below hb9
  have lR9 := lR2.below hb9
  have fR9 := fR2.below lR2 hb9
  have c9 := Below.chain c2 hb9
  go_wp2_with fail
  refine wp_region_later (by kernel_rfl) (by kernel_rfl) ?_
  repeat (go_big_quiet_step (first | fail))
  refine wpQuiet_nil ?_
  rintro w' ⟨x, rfl⟩
  have lRx := lR9.below x.kept
  have fRx := fR9.below lR9 x.kept
  have cx := Below.chain c9 x.kept
  have ⟨z0, z1, z2, z3⟩ := lRx
  have ⟨y0, y1, y2, y3⟩ := fRx
  go_wp2_with fail
  exact ret_vnb rfl rfl rfl rfl rfl (Lies.set lRx _ _ _ _) ⟨rfl, below_set4 cx (Nat.le_refl _) _ _ _ _⟩
theorem rv18 (s : ByteArray) (hs : s.size ≤ 1000) (h0 : 0 < s.size) (hC : (s[0].toNat : Int) = 18) (n K KK : Nat) (hKK : KK = 1 + K) (hn : n < 9223372036854775808) (G : ∀ w, Calls Try.prog 20 #[.string (s.extract 1 s.size)] w fun e w' => e = .returned (.tuple #[.int .u64 (n : Nat), .int .i64 (K : Nat), .bool true]) ∧ Below w.heap.size w w') (HR : Hid (∀ w, Calls Try.prog 15 #[.agg #[.int .i64 2, .int .i64 (-1 - (n : Int)), .float .f64 0, .string ⟨#[]⟩]] w fun e w' => e = .returned (.bool true) ∧ Below w.heap.size w w')) (X : ByteArray) (HPV : Hid (∀ w, Calls Try.prog 18 #[.agg #[.int .i64 2, .int .i64 (-1 - (n : Int)), .float .f64 0, .string ⟨#[]⟩]] w fun e w' => e = .returned (.string X) ∧ Below w.heap.size w w')) (hb : (X.toList == (s.extract 0 KK).toList) = true) (hK : KK ≤ s.size) (w : World) :
    Calls Try.prog 24 #[.string s] w fun e w' => e = .returned (.tuple #[.agg #[.int .i64 2, .int .i64 (-1 - (n : Int)), .float .f64 0, .string ⟨#[]⟩], .int .i64 ((KK : Nat)), .bool true]) ∧ Below w.heap.size w w' := by
  have hsf := run_store_float
  have e0 : (s.toList == []) = false := by rw [toL, cons0 s h0]; rfl
  have i0 : (0 : Int) < (s.size : Int) := by omega
  have i1 : (1 : Int) ≤ (s.size : Int) := by omega
  have iN : decide (9223372036854775807 < (n : Int)) = false := by simp; omega
  have iK : (1 : Int) + (K : Int) = (KK : Int) := by omega
  have jK : (KK : Int) ≤ (s.size : Int) := by omega
  have mN : (n : Int) ≤ 9223372036854775807 := by omega
  clear hn hKK
  have lV : Lies ((w.alloc (.cells #[.int .i64 0, .int .i64 0, .float .f64 0, .string ⟨#[]⟩] 29)).alloc (.cells #[.int .i64 18, .int .i64 0, .float .f64 0, .string ⟨#[]⟩] 29)) (w.heap.size + 1) (.int .i64 18) (.int .i64 0) (.float .f64 0) (.string ⟨#[]⟩) := lies_two _ _ _ _ _ _ _
  have lR : Lies ((w.alloc (.cells #[.int .i64 0, .int .i64 0, .float .f64 0, .string ⟨#[]⟩] 29)).alloc (.cells #[.int .i64 18, .int .i64 0, .float .f64 0, .string ⟨#[]⟩] 29)) w.heap.size (.int .i64 0) (.int .i64 0) (.float .f64 0) (.string ⟨#[]⟩) := (lies_new w _ _ _ _ _).alloc _
  have fV : Free ((w.alloc (.cells #[.int .i64 0, .int .i64 0, .float .f64 0, .string ⟨#[]⟩] 29)).alloc (.cells #[.int .i64 18, .int .i64 0, .float .f64 0, .string ⟨#[]⟩] 29)) (w.heap.size + 1) := free_two _ _ _ _ _ _ _
  have fR : Free ((w.alloc (.cells #[.int .i64 0, .int .i64 0, .float .f64 0, .string ⟨#[]⟩] 29)).alloc (.cells #[.int .i64 18, .int .i64 0, .float .f64 0, .string ⟨#[]⟩] 29)) w.heap.size := free_one _ _ _ _ _ _ _
  have c0 : Below w.heap.size w ((w.alloc (.cells #[.int .i64 0, .int .i64 0, .float .f64 0, .string ⟨#[]⟩] 29)).alloc (.cells #[.int .i64 18, .int .i64 0, .float .f64 0, .string ⟨#[]⟩] 29)) := below_a2 _ _ _
  have LV := Lib.hid lV
  have LR := Lib.hid lR
  have FV := Lib.hid fV
  have FR := Lib.hid fR
  have CC := Lib.hid c0
  clear lV lR fV fR c0
  go_enter Try.func24, Try.ntmps24
  go_wp2_with fail
  refine (G _).mono ?_; rintro e w1 ⟨rfl, hb1⟩
  have lV1 := LV.out.below hb1
  have lR1 := LR.out.below hb1
  have fV1 := FV.out.below LV.out hb1
  have fR1 := FR.out.below LR.out hb1
  have c1 := Below.chain CC.out hb1
  have ⟨x0, x1, x2, x3⟩ := lV1
  have ⟨y0, y1, y2, y3⟩ := fV1
  go_wp2_with fail
  have lV2 := lV1.st1 (.int .i64 (n : Nat))
  have lR2 := Lies.far (c := w.heap.size + 1) (j := 1) lR1 (by omega) (.int .i64 (n : Nat))
  have fR2 := fR1.st ⟨w.heap.size + 1, 1, none⟩ (.int .i64 (n : Nat))
  have c2 := below_st (b := w.heap.size + 1) (j := 1) c1 (Nat.le_succ _) (.int .i64 (n : Nat))
  have lV3 := lV2.st0 (.int .i64 2)
  have lR3 := Lies.far (c := w.heap.size + 1) (j := 0) lR2 (by omega) (.int .i64 2)
  have fR3 := fR2.st ⟨w.heap.size + 1, 0, none⟩ (.int .i64 2)
  have c3 := below_st (b := w.heap.size + 1) (j := 0) c2 (Nat.le_succ _) (.int .i64 2)
  have lV4 := lV3.st1 (.int .i64 (-1 - (n : Int)))
  have lR4 := Lies.far (c := w.heap.size + 1) (j := 1) lR3 (by omega) (.int .i64 (-1 - (n : Int)))
  have fR4 := fR3.st ⟨w.heap.size + 1, 1, none⟩ (.int .i64 (-1 - (n : Int)))
  have c4 := below_st (b := w.heap.size + 1) (j := 1) c3 (Nat.le_succ _) (.int .i64 (-1 - (n : Int)))
  clear x0 x1 x2 x3 y0 y1 y2 y3
  refine (HR.out _).mono ?_; rintro e w9 ⟨rfl, hb9⟩
  have lV9 := lV4.below hb9
  have lR9 := lR4.below hb9
  have fR9 := fR4.below lR4 hb9
  have c9 := Below.chain c4 hb9
  have g0 := fun x : Later w9 => (lV9.below x.kept).1
  have g1 := fun x : Later w9 => (lV9.below x.kept).2.1
  have g2 := fun x : Later w9 => (lV9.below x.kept).2.2.1
  have g3 := fun x : Later w9 => (lV9.below x.kept).2.2.2
  have HP := HPV.out
  go_wp2_with fail
  refine wp_region_later (by kernel_rfl) (by kernel_rfl) ?_
  repeat (go_big_quiet_step (first | with_reducible exact later_call (HP _)))
  refine wpQuiet_nil ?_
  rintro w' ⟨x, rfl⟩
  clear g0 g1 g2 g3
  have lVx := lV9.below x.kept
  have lRx := lR9.below x.kept
  have fRx := fR9.below lR9 x.kept
  have cx := Below.chain c9 x.kept
  have ⟨x0, x1, x2, x3⟩ := lVx
  have ⟨z0, z1, z2, z3⟩ := lRx
  have ⟨y0, y1, y2, y3⟩ := fRx
  go_wp2_with fail
  exact ret_vnb rfl rfl rfl rfl rfl (Lies.set lRx _ _ _ _) ⟨rfl, below_set4 cx (Nat.le_refl _) _ _ _ _⟩
theorem rv1n (s : ByteArray) (hs : s.size ≤ 1000) (h0 : 0 < s.size) (hC : (s[0].toNat : Int) = 1) (G : ∀ w, Calls Try.prog 20 #[.string (s.extract 1 s.size)] w fun e w' => e = .returned (.tuple #[.int .u64 0, .int .i64 0, .bool false]) ∧ Below w.heap.size w w') (w : World) :
    Calls Try.prog 24 #[.string s] w fun e w' => e = .returned (.tuple #[.agg #[.int .i64 0, .int .i64 0, .float .f64 0, .string ⟨#[]⟩], .int .i64 0, .bool false]) ∧ Below w.heap.size w w' := by
  have hsf := run_store_float
  have e0 : (s.toList == []) = false := by rw [toL, cons0 s h0]; rfl
  have i0 : (0 : Int) < (s.size : Int) := by omega
  have i1 : (1 : Int) ≤ (s.size : Int) := by omega
  have lV : Lies ((w.alloc (.cells #[.int .i64 0, .int .i64 0, .float .f64 0, .string ⟨#[]⟩] 29)).alloc (.cells #[.int .i64 1, .int .i64 0, .float .f64 0, .string ⟨#[]⟩] 29)) (w.heap.size + 1) (.int .i64 1) (.int .i64 0) (.float .f64 0) (.string ⟨#[]⟩) := lies_two _ _ _ _ _ _ _
  have lR : Lies ((w.alloc (.cells #[.int .i64 0, .int .i64 0, .float .f64 0, .string ⟨#[]⟩] 29)).alloc (.cells #[.int .i64 1, .int .i64 0, .float .f64 0, .string ⟨#[]⟩] 29)) w.heap.size (.int .i64 0) (.int .i64 0) (.float .f64 0) (.string ⟨#[]⟩) := (lies_new w _ _ _ _ _).alloc _
  have fV : Free ((w.alloc (.cells #[.int .i64 0, .int .i64 0, .float .f64 0, .string ⟨#[]⟩] 29)).alloc (.cells #[.int .i64 1, .int .i64 0, .float .f64 0, .string ⟨#[]⟩] 29)) (w.heap.size + 1) := free_two _ _ _ _ _ _ _
  have fR : Free ((w.alloc (.cells #[.int .i64 0, .int .i64 0, .float .f64 0, .string ⟨#[]⟩] 29)).alloc (.cells #[.int .i64 1, .int .i64 0, .float .f64 0, .string ⟨#[]⟩] 29)) w.heap.size := free_one _ _ _ _ _ _ _
  have c0 : Below w.heap.size w ((w.alloc (.cells #[.int .i64 0, .int .i64 0, .float .f64 0, .string ⟨#[]⟩] 29)).alloc (.cells #[.int .i64 1, .int .i64 0, .float .f64 0, .string ⟨#[]⟩] 29)) := below_a2 _ _ _
  have LV := Lib.hid lV
  have LR := Lib.hid lR
  have FV := Lib.hid fV
  have FR := Lib.hid fR
  have CC := Lib.hid c0
  clear lV lR fV fR c0
  go_enter Try.func24, Try.ntmps24
  go_wp2_with fail
  refine (G _).mono ?_; rintro e w1 ⟨rfl, hb1⟩
  have lV1 := LV.out.below hb1
  have lR1 := LR.out.below hb1
  have fR1 := FR.out.below LR.out hb1
  have c1 := Below.chain CC.out hb1
  have ⟨x0, x1, x2, x3⟩ := lR1
  have ⟨y0, y1, y2, y3⟩ := fR1
  go_wp2_with fail
  exact ret_vnb rfl rfl rfl rfl rfl (Lies.set lR1 _ _ _ _) ⟨rfl, below_set4 c1 (Nat.le_refl _) _ _ _ _⟩
theorem rv1b (s : ByteArray) (hs : s.size ≤ 1000) (h0 : 0 < s.size) (hC : (s[0].toNat : Int) = 1) (n K : Nat) (hn : 9223372036854775807 < n) (G : ∀ w, Calls Try.prog 20 #[.string (s.extract 1 s.size)] w fun e w' => e = .returned (.tuple #[.int .u64 (n : Nat), .int .i64 (K : Nat), .bool true]) ∧ Below w.heap.size w w') (w : World) :
    Calls Try.prog 24 #[.string s] w fun e w' => e = .returned (.tuple #[.agg #[.int .i64 0, .int .i64 0, .float .f64 0, .string ⟨#[]⟩], .int .i64 0, .bool false]) ∧ Below w.heap.size w w' := by
  have hsf := run_store_float
  have e0 : (s.toList == []) = false := by rw [toL, cons0 s h0]; rfl
  have i0 : (0 : Int) < (s.size : Int) := by omega
  have i1 : (1 : Int) ≤ (s.size : Int) := by omega
  have iN : decide (9223372036854775807 < (n : Int)) = true := by simp; omega
  clear hn
  have lV : Lies ((w.alloc (.cells #[.int .i64 0, .int .i64 0, .float .f64 0, .string ⟨#[]⟩] 29)).alloc (.cells #[.int .i64 1, .int .i64 0, .float .f64 0, .string ⟨#[]⟩] 29)) (w.heap.size + 1) (.int .i64 1) (.int .i64 0) (.float .f64 0) (.string ⟨#[]⟩) := lies_two _ _ _ _ _ _ _
  have lR : Lies ((w.alloc (.cells #[.int .i64 0, .int .i64 0, .float .f64 0, .string ⟨#[]⟩] 29)).alloc (.cells #[.int .i64 1, .int .i64 0, .float .f64 0, .string ⟨#[]⟩] 29)) w.heap.size (.int .i64 0) (.int .i64 0) (.float .f64 0) (.string ⟨#[]⟩) := (lies_new w _ _ _ _ _).alloc _
  have fV : Free ((w.alloc (.cells #[.int .i64 0, .int .i64 0, .float .f64 0, .string ⟨#[]⟩] 29)).alloc (.cells #[.int .i64 1, .int .i64 0, .float .f64 0, .string ⟨#[]⟩] 29)) (w.heap.size + 1) := free_two _ _ _ _ _ _ _
  have fR : Free ((w.alloc (.cells #[.int .i64 0, .int .i64 0, .float .f64 0, .string ⟨#[]⟩] 29)).alloc (.cells #[.int .i64 1, .int .i64 0, .float .f64 0, .string ⟨#[]⟩] 29)) w.heap.size := free_one _ _ _ _ _ _ _
  have c0 : Below w.heap.size w ((w.alloc (.cells #[.int .i64 0, .int .i64 0, .float .f64 0, .string ⟨#[]⟩] 29)).alloc (.cells #[.int .i64 1, .int .i64 0, .float .f64 0, .string ⟨#[]⟩] 29)) := below_a2 _ _ _
  have LV := Lib.hid lV
  have LR := Lib.hid lR
  have FV := Lib.hid fV
  have FR := Lib.hid fR
  have CC := Lib.hid c0
  clear lV lR fV fR c0
  go_enter Try.func24, Try.ntmps24
  go_wp2_with fail
  refine (G _).mono ?_; rintro e w1 ⟨rfl, hb1⟩
  have lV1 := LV.out.below hb1
  have lR1 := LR.out.below hb1
  have fR1 := FR.out.below LR.out hb1
  have c1 := Below.chain CC.out hb1
  have ⟨x0, x1, x2, x3⟩ := lR1
  have ⟨y0, y1, y2, y3⟩ := fR1
  go_wp2_with fail
  exact ret_vnb rfl rfl rfl rfl rfl (Lies.set lR1 _ _ _ _) ⟨rfl, below_set4 c1 (Nat.le_refl _) _ _ _ _⟩
theorem rv2n (s : ByteArray) (hs : s.size ≤ 1000) (h0 : 0 < s.size) (hC : (s[0].toNat : Int) = 2) (G : ∀ w, Calls Try.prog 20 #[.string (s.extract 1 s.size)] w fun e w' => e = .returned (.tuple #[.int .u64 0, .int .i64 0, .bool false]) ∧ Below w.heap.size w w') (w : World) :
    Calls Try.prog 24 #[.string s] w fun e w' => e = .returned (.tuple #[.agg #[.int .i64 0, .int .i64 0, .float .f64 0, .string ⟨#[]⟩], .int .i64 0, .bool false]) ∧ Below w.heap.size w w' := by
  have hsf := run_store_float
  have e0 : (s.toList == []) = false := by rw [toL, cons0 s h0]; rfl
  have i0 : (0 : Int) < (s.size : Int) := by omega
  have i1 : (1 : Int) ≤ (s.size : Int) := by omega
  have lV : Lies ((w.alloc (.cells #[.int .i64 0, .int .i64 0, .float .f64 0, .string ⟨#[]⟩] 29)).alloc (.cells #[.int .i64 2, .int .i64 0, .float .f64 0, .string ⟨#[]⟩] 29)) (w.heap.size + 1) (.int .i64 2) (.int .i64 0) (.float .f64 0) (.string ⟨#[]⟩) := lies_two _ _ _ _ _ _ _
  have lR : Lies ((w.alloc (.cells #[.int .i64 0, .int .i64 0, .float .f64 0, .string ⟨#[]⟩] 29)).alloc (.cells #[.int .i64 2, .int .i64 0, .float .f64 0, .string ⟨#[]⟩] 29)) w.heap.size (.int .i64 0) (.int .i64 0) (.float .f64 0) (.string ⟨#[]⟩) := (lies_new w _ _ _ _ _).alloc _
  have fV : Free ((w.alloc (.cells #[.int .i64 0, .int .i64 0, .float .f64 0, .string ⟨#[]⟩] 29)).alloc (.cells #[.int .i64 2, .int .i64 0, .float .f64 0, .string ⟨#[]⟩] 29)) (w.heap.size + 1) := free_two _ _ _ _ _ _ _
  have fR : Free ((w.alloc (.cells #[.int .i64 0, .int .i64 0, .float .f64 0, .string ⟨#[]⟩] 29)).alloc (.cells #[.int .i64 2, .int .i64 0, .float .f64 0, .string ⟨#[]⟩] 29)) w.heap.size := free_one _ _ _ _ _ _ _
  have c0 : Below w.heap.size w ((w.alloc (.cells #[.int .i64 0, .int .i64 0, .float .f64 0, .string ⟨#[]⟩] 29)).alloc (.cells #[.int .i64 2, .int .i64 0, .float .f64 0, .string ⟨#[]⟩] 29)) := below_a2 _ _ _
  have LV := Lib.hid lV
  have LR := Lib.hid lR
  have FV := Lib.hid fV
  have FR := Lib.hid fR
  have CC := Lib.hid c0
  clear lV lR fV fR c0
  go_enter Try.func24, Try.ntmps24
  go_wp2_with fail
  refine (G _).mono ?_; rintro e w1 ⟨rfl, hb1⟩
  have lV1 := LV.out.below hb1
  have lR1 := LR.out.below hb1
  have fR1 := FR.out.below LR.out hb1
  have c1 := Below.chain CC.out hb1
  have ⟨x0, x1, x2, x3⟩ := lR1
  have ⟨y0, y1, y2, y3⟩ := fR1
  go_wp2_with fail
  exact ret_vnb rfl rfl rfl rfl rfl (Lies.set lR1 _ _ _ _) ⟨rfl, below_set4 c1 (Nat.le_refl _) _ _ _ _⟩
theorem rv2b (s : ByteArray) (hs : s.size ≤ 1000) (h0 : 0 < s.size) (hC : (s[0].toNat : Int) = 2) (n K : Nat) (hn : 9223372036854775807 < n) (G : ∀ w, Calls Try.prog 20 #[.string (s.extract 1 s.size)] w fun e w' => e = .returned (.tuple #[.int .u64 (n : Nat), .int .i64 (K : Nat), .bool true]) ∧ Below w.heap.size w w') (w : World) :
    Calls Try.prog 24 #[.string s] w fun e w' => e = .returned (.tuple #[.agg #[.int .i64 0, .int .i64 0, .float .f64 0, .string ⟨#[]⟩], .int .i64 0, .bool false]) ∧ Below w.heap.size w w' := by
  have hsf := run_store_float
  have e0 : (s.toList == []) = false := by rw [toL, cons0 s h0]; rfl
  have i0 : (0 : Int) < (s.size : Int) := by omega
  have i1 : (1 : Int) ≤ (s.size : Int) := by omega
  have iN : decide (9223372036854775807 < (n : Int)) = true := by simp; omega
  clear hn
  have lV : Lies ((w.alloc (.cells #[.int .i64 0, .int .i64 0, .float .f64 0, .string ⟨#[]⟩] 29)).alloc (.cells #[.int .i64 2, .int .i64 0, .float .f64 0, .string ⟨#[]⟩] 29)) (w.heap.size + 1) (.int .i64 2) (.int .i64 0) (.float .f64 0) (.string ⟨#[]⟩) := lies_two _ _ _ _ _ _ _
  have lR : Lies ((w.alloc (.cells #[.int .i64 0, .int .i64 0, .float .f64 0, .string ⟨#[]⟩] 29)).alloc (.cells #[.int .i64 2, .int .i64 0, .float .f64 0, .string ⟨#[]⟩] 29)) w.heap.size (.int .i64 0) (.int .i64 0) (.float .f64 0) (.string ⟨#[]⟩) := (lies_new w _ _ _ _ _).alloc _
  have fV : Free ((w.alloc (.cells #[.int .i64 0, .int .i64 0, .float .f64 0, .string ⟨#[]⟩] 29)).alloc (.cells #[.int .i64 2, .int .i64 0, .float .f64 0, .string ⟨#[]⟩] 29)) (w.heap.size + 1) := free_two _ _ _ _ _ _ _
  have fR : Free ((w.alloc (.cells #[.int .i64 0, .int .i64 0, .float .f64 0, .string ⟨#[]⟩] 29)).alloc (.cells #[.int .i64 2, .int .i64 0, .float .f64 0, .string ⟨#[]⟩] 29)) w.heap.size := free_one _ _ _ _ _ _ _
  have c0 : Below w.heap.size w ((w.alloc (.cells #[.int .i64 0, .int .i64 0, .float .f64 0, .string ⟨#[]⟩] 29)).alloc (.cells #[.int .i64 2, .int .i64 0, .float .f64 0, .string ⟨#[]⟩] 29)) := below_a2 _ _ _
  have LV := Lib.hid lV
  have LR := Lib.hid lR
  have FV := Lib.hid fV
  have FR := Lib.hid fR
  have CC := Lib.hid c0
  clear lV lR fV fR c0
  go_enter Try.func24, Try.ntmps24
  go_wp2_with fail
  refine (G _).mono ?_; rintro e w1 ⟨rfl, hb1⟩
  have lV1 := LV.out.below hb1
  have lR1 := LR.out.below hb1
  have fR1 := FR.out.below LR.out hb1
  have c1 := Below.chain CC.out hb1
  have ⟨x0, x1, x2, x3⟩ := lR1
  have ⟨y0, y1, y2, y3⟩ := fR1
  go_wp2_with fail
  exact ret_vnb rfl rfl rfl rfl rfl (Lies.set lR1 _ _ _ _) ⟨rfl, below_set4 c1 (Nat.le_refl _) _ _ _ _⟩
theorem rv18n (s : ByteArray) (hs : s.size ≤ 1000) (h0 : 0 < s.size) (hC : (s[0].toNat : Int) = 18) (G : ∀ w, Calls Try.prog 20 #[.string (s.extract 1 s.size)] w fun e w' => e = .returned (.tuple #[.int .u64 0, .int .i64 0, .bool false]) ∧ Below w.heap.size w w') (w : World) :
    Calls Try.prog 24 #[.string s] w fun e w' => e = .returned (.tuple #[.agg #[.int .i64 0, .int .i64 0, .float .f64 0, .string ⟨#[]⟩], .int .i64 0, .bool false]) ∧ Below w.heap.size w w' := by
  have hsf := run_store_float
  have e0 : (s.toList == []) = false := by rw [toL, cons0 s h0]; rfl
  have i0 : (0 : Int) < (s.size : Int) := by omega
  have i1 : (1 : Int) ≤ (s.size : Int) := by omega
  have lV : Lies ((w.alloc (.cells #[.int .i64 0, .int .i64 0, .float .f64 0, .string ⟨#[]⟩] 29)).alloc (.cells #[.int .i64 18, .int .i64 0, .float .f64 0, .string ⟨#[]⟩] 29)) (w.heap.size + 1) (.int .i64 18) (.int .i64 0) (.float .f64 0) (.string ⟨#[]⟩) := lies_two _ _ _ _ _ _ _
  have lR : Lies ((w.alloc (.cells #[.int .i64 0, .int .i64 0, .float .f64 0, .string ⟨#[]⟩] 29)).alloc (.cells #[.int .i64 18, .int .i64 0, .float .f64 0, .string ⟨#[]⟩] 29)) w.heap.size (.int .i64 0) (.int .i64 0) (.float .f64 0) (.string ⟨#[]⟩) := (lies_new w _ _ _ _ _).alloc _
  have fV : Free ((w.alloc (.cells #[.int .i64 0, .int .i64 0, .float .f64 0, .string ⟨#[]⟩] 29)).alloc (.cells #[.int .i64 18, .int .i64 0, .float .f64 0, .string ⟨#[]⟩] 29)) (w.heap.size + 1) := free_two _ _ _ _ _ _ _
  have fR : Free ((w.alloc (.cells #[.int .i64 0, .int .i64 0, .float .f64 0, .string ⟨#[]⟩] 29)).alloc (.cells #[.int .i64 18, .int .i64 0, .float .f64 0, .string ⟨#[]⟩] 29)) w.heap.size := free_one _ _ _ _ _ _ _
  have c0 : Below w.heap.size w ((w.alloc (.cells #[.int .i64 0, .int .i64 0, .float .f64 0, .string ⟨#[]⟩] 29)).alloc (.cells #[.int .i64 18, .int .i64 0, .float .f64 0, .string ⟨#[]⟩] 29)) := below_a2 _ _ _
  have LV := Lib.hid lV
  have LR := Lib.hid lR
  have FV := Lib.hid fV
  have FR := Lib.hid fR
  have CC := Lib.hid c0
  clear lV lR fV fR c0
  go_enter Try.func24, Try.ntmps24
  go_wp2_with fail
  refine (G _).mono ?_; rintro e w1 ⟨rfl, hb1⟩
  have lV1 := LV.out.below hb1
  have lR1 := LR.out.below hb1
  have fR1 := FR.out.below LR.out hb1
  have c1 := Below.chain CC.out hb1
  have ⟨x0, x1, x2, x3⟩ := lR1
  have ⟨y0, y1, y2, y3⟩ := fR1
  go_wp2_with fail
  exact ret_vnb rfl rfl rfl rfl rfl (Lies.set lR1 _ _ _ _) ⟨rfl, below_set4 c1 (Nat.le_refl _) _ _ _ _⟩
theorem rv18b (s : ByteArray) (hs : s.size ≤ 1000) (h0 : 0 < s.size) (hC : (s[0].toNat : Int) = 18) (n K : Nat) (hn : 9223372036854775807 < n) (G : ∀ w, Calls Try.prog 20 #[.string (s.extract 1 s.size)] w fun e w' => e = .returned (.tuple #[.int .u64 (n : Nat), .int .i64 (K : Nat), .bool true]) ∧ Below w.heap.size w w') (w : World) :
    Calls Try.prog 24 #[.string s] w fun e w' => e = .returned (.tuple #[.agg #[.int .i64 0, .int .i64 0, .float .f64 0, .string ⟨#[]⟩], .int .i64 0, .bool false]) ∧ Below w.heap.size w w' := by
  have hsf := run_store_float
  have e0 : (s.toList == []) = false := by rw [toL, cons0 s h0]; rfl
  have i0 : (0 : Int) < (s.size : Int) := by omega
  have i1 : (1 : Int) ≤ (s.size : Int) := by omega
  have iN : decide (9223372036854775807 < (n : Int)) = true := by simp; omega
  clear hn
  have lV : Lies ((w.alloc (.cells #[.int .i64 0, .int .i64 0, .float .f64 0, .string ⟨#[]⟩] 29)).alloc (.cells #[.int .i64 18, .int .i64 0, .float .f64 0, .string ⟨#[]⟩] 29)) (w.heap.size + 1) (.int .i64 18) (.int .i64 0) (.float .f64 0) (.string ⟨#[]⟩) := lies_two _ _ _ _ _ _ _
  have lR : Lies ((w.alloc (.cells #[.int .i64 0, .int .i64 0, .float .f64 0, .string ⟨#[]⟩] 29)).alloc (.cells #[.int .i64 18, .int .i64 0, .float .f64 0, .string ⟨#[]⟩] 29)) w.heap.size (.int .i64 0) (.int .i64 0) (.float .f64 0) (.string ⟨#[]⟩) := (lies_new w _ _ _ _ _).alloc _
  have fV : Free ((w.alloc (.cells #[.int .i64 0, .int .i64 0, .float .f64 0, .string ⟨#[]⟩] 29)).alloc (.cells #[.int .i64 18, .int .i64 0, .float .f64 0, .string ⟨#[]⟩] 29)) (w.heap.size + 1) := free_two _ _ _ _ _ _ _
  have fR : Free ((w.alloc (.cells #[.int .i64 0, .int .i64 0, .float .f64 0, .string ⟨#[]⟩] 29)).alloc (.cells #[.int .i64 18, .int .i64 0, .float .f64 0, .string ⟨#[]⟩] 29)) w.heap.size := free_one _ _ _ _ _ _ _
  have c0 : Below w.heap.size w ((w.alloc (.cells #[.int .i64 0, .int .i64 0, .float .f64 0, .string ⟨#[]⟩] 29)).alloc (.cells #[.int .i64 18, .int .i64 0, .float .f64 0, .string ⟨#[]⟩] 29)) := below_a2 _ _ _
  have LV := Lib.hid lV
  have LR := Lib.hid lR
  have FV := Lib.hid fV
  have FR := Lib.hid fR
  have CC := Lib.hid c0
  clear lV lR fV fR c0
  go_enter Try.func24, Try.ntmps24
  go_wp2_with fail
  refine (G _).mono ?_; rintro e w1 ⟨rfl, hb1⟩
  have lV1 := LV.out.below hb1
  have lR1 := LR.out.below hb1
  have fR1 := FR.out.below LR.out hb1
  have c1 := Below.chain CC.out hb1
  have ⟨x0, x1, x2, x3⟩ := lR1
  have ⟨y0, y1, y2, y3⟩ := fR1
  go_wp2_with fail
  exact ret_vnb rfl rfl rfl rfl rfl (Lies.set lR1 _ _ _ _) ⟨rfl, below_set4 c1 (Nat.le_refl _) _ _ _ _⟩
theorem rv4 (s : ByteArray) (hs : s.size ≤ 1000) (h0 : 0 < s.size) (hC : (s[0].toNat : Int) = 4) (S : ByteArray) (K KK : Nat) (hKK : KK = 1 + K) (G : ∀ w, Calls Try.prog 22 #[.string (s.extract 1 s.size)] w fun e w' => e = .returned (.tuple #[.string S, .int .i64 (K : Nat), .bool true]) ∧ Below w.heap.size w w') (HR : Hid (∀ w, Calls Try.prog 15 #[.agg #[.int .i64 4, .int .i64 0, .float .f64 0, .string S]] w fun e w' => e = .returned (.bool true) ∧ Below w.heap.size w w')) (X : ByteArray) (HPV : Hid (∀ w, Calls Try.prog 18 #[.agg #[.int .i64 4, .int .i64 0, .float .f64 0, .string S]] w fun e w' => e = .returned (.string X) ∧ Below w.heap.size w w')) (hb : (X.toList == (s.extract 0 KK).toList) = true) (hK : KK ≤ s.size) (w : World) :
    Calls Try.prog 24 #[.string s] w fun e w' => e = .returned (.tuple #[.agg #[.int .i64 4, .int .i64 0, .float .f64 0, .string S], .int .i64 ((KK : Nat)), .bool true]) ∧ Below w.heap.size w w' := by
  have hsf := run_store_float
  have e0 : (s.toList == []) = false := by rw [toL, cons0 s h0]; rfl
  have i0 : (0 : Int) < (s.size : Int) := by omega
  have i1 : (1 : Int) ≤ (s.size : Int) := by omega
  have iK : (1 : Int) + (K : Int) = (KK : Int) := by omega
  have jK : (KK : Int) ≤ (s.size : Int) := by omega
  clear hKK
  have lV : Lies ((w.alloc (.cells #[.int .i64 0, .int .i64 0, .float .f64 0, .string ⟨#[]⟩] 29)).alloc (.cells #[.int .i64 4, .int .i64 0, .float .f64 0, .string ⟨#[]⟩] 29)) (w.heap.size + 1) (.int .i64 4) (.int .i64 0) (.float .f64 0) (.string ⟨#[]⟩) := lies_two _ _ _ _ _ _ _
  have lR : Lies ((w.alloc (.cells #[.int .i64 0, .int .i64 0, .float .f64 0, .string ⟨#[]⟩] 29)).alloc (.cells #[.int .i64 4, .int .i64 0, .float .f64 0, .string ⟨#[]⟩] 29)) w.heap.size (.int .i64 0) (.int .i64 0) (.float .f64 0) (.string ⟨#[]⟩) := (lies_new w _ _ _ _ _).alloc _
  have fV : Free ((w.alloc (.cells #[.int .i64 0, .int .i64 0, .float .f64 0, .string ⟨#[]⟩] 29)).alloc (.cells #[.int .i64 4, .int .i64 0, .float .f64 0, .string ⟨#[]⟩] 29)) (w.heap.size + 1) := free_two _ _ _ _ _ _ _
  have fR : Free ((w.alloc (.cells #[.int .i64 0, .int .i64 0, .float .f64 0, .string ⟨#[]⟩] 29)).alloc (.cells #[.int .i64 4, .int .i64 0, .float .f64 0, .string ⟨#[]⟩] 29)) w.heap.size := free_one _ _ _ _ _ _ _
  have c0 : Below w.heap.size w ((w.alloc (.cells #[.int .i64 0, .int .i64 0, .float .f64 0, .string ⟨#[]⟩] 29)).alloc (.cells #[.int .i64 4, .int .i64 0, .float .f64 0, .string ⟨#[]⟩] 29)) := below_a2 _ _ _
  have LV := Lib.hid lV
  have LR := Lib.hid lR
  have FV := Lib.hid fV
  have FR := Lib.hid fR
  have CC := Lib.hid c0
  clear lV lR fV fR c0
  go_enter Try.func24, Try.ntmps24
  go_wp2_with fail
  refine (G _).mono ?_; rintro e w1 ⟨rfl, hb1⟩
  have lV1 := LV.out.below hb1
  have lR1 := LR.out.below hb1
  have fV1 := FV.out.below LV.out hb1
  have fR1 := FR.out.below LR.out hb1
  have c1 := Below.chain CC.out hb1
  have ⟨x0, x1, x2, x3⟩ := lV1
  have ⟨y0, y1, y2, y3⟩ := fV1
  go_wp2_with fail
  have lV2 := lV1.st3 (.string S)
  have lR2 := Lies.far (c := w.heap.size + 1) (j := 3) lR1 (by omega) (.string S)
  have fR2 := fR1.st ⟨w.heap.size + 1, 3, none⟩ (.string S)
  have c2 := below_st (b := w.heap.size + 1) (j := 3) c1 (Nat.le_succ _) (.string S)
  clear x0 x1 x2 x3 y0 y1 y2 y3
  refine (HR.out _).mono ?_; rintro e w9 ⟨rfl, hb9⟩
  have lV9 := lV2.below hb9
  have lR9 := lR2.below hb9
  have fR9 := fR2.below lR2 hb9
  have c9 := Below.chain c2 hb9
  have g0 := fun x : Later w9 => (lV9.below x.kept).1
  have g1 := fun x : Later w9 => (lV9.below x.kept).2.1
  have g2 := fun x : Later w9 => (lV9.below x.kept).2.2.1
  have g3 := fun x : Later w9 => (lV9.below x.kept).2.2.2
  have HP := HPV.out
  go_wp2_with fail
  refine wp_region_later (by kernel_rfl) (by kernel_rfl) ?_
  repeat (go_big_quiet_step (first | with_reducible exact later_call (HP _)))
  refine wpQuiet_nil ?_
  rintro w' ⟨x, rfl⟩
  clear g0 g1 g2 g3
  have lVx := lV9.below x.kept
  have lRx := lR9.below x.kept
  have fRx := fR9.below lR9 x.kept
  have cx := Below.chain c9 x.kept
  have ⟨x0, x1, x2, x3⟩ := lVx
  have ⟨z0, z1, z2, z3⟩ := lRx
  have ⟨y0, y1, y2, y3⟩ := fRx
  go_wp2_with fail
  exact ret_vnb rfl rfl rfl rfl rfl (Lies.set lRx _ _ _ _) ⟨rfl, below_set4 cx (Nat.le_refl _) _ _ _ _⟩
theorem rv4n (s : ByteArray) (hs : s.size ≤ 1000) (h0 : 0 < s.size) (hC : (s[0].toNat : Int) = 4) (G : ∀ w, Calls Try.prog 22 #[.string (s.extract 1 s.size)] w fun e w' => e = .returned (.tuple #[.string ⟨#[]⟩, .int .i64 0, .bool false]) ∧ Below w.heap.size w w') (w : World) :
    Calls Try.prog 24 #[.string s] w fun e w' => e = .returned (.tuple #[.agg #[.int .i64 0, .int .i64 0, .float .f64 0, .string ⟨#[]⟩], .int .i64 0, .bool false]) ∧ Below w.heap.size w w' := by
  have hsf := run_store_float
  have e0 : (s.toList == []) = false := by rw [toL, cons0 s h0]; rfl
  have i0 : (0 : Int) < (s.size : Int) := by omega
  have i1 : (1 : Int) ≤ (s.size : Int) := by omega
  have lV : Lies ((w.alloc (.cells #[.int .i64 0, .int .i64 0, .float .f64 0, .string ⟨#[]⟩] 29)).alloc (.cells #[.int .i64 4, .int .i64 0, .float .f64 0, .string ⟨#[]⟩] 29)) (w.heap.size + 1) (.int .i64 4) (.int .i64 0) (.float .f64 0) (.string ⟨#[]⟩) := lies_two _ _ _ _ _ _ _
  have lR : Lies ((w.alloc (.cells #[.int .i64 0, .int .i64 0, .float .f64 0, .string ⟨#[]⟩] 29)).alloc (.cells #[.int .i64 4, .int .i64 0, .float .f64 0, .string ⟨#[]⟩] 29)) w.heap.size (.int .i64 0) (.int .i64 0) (.float .f64 0) (.string ⟨#[]⟩) := (lies_new w _ _ _ _ _).alloc _
  have fV : Free ((w.alloc (.cells #[.int .i64 0, .int .i64 0, .float .f64 0, .string ⟨#[]⟩] 29)).alloc (.cells #[.int .i64 4, .int .i64 0, .float .f64 0, .string ⟨#[]⟩] 29)) (w.heap.size + 1) := free_two _ _ _ _ _ _ _
  have fR : Free ((w.alloc (.cells #[.int .i64 0, .int .i64 0, .float .f64 0, .string ⟨#[]⟩] 29)).alloc (.cells #[.int .i64 4, .int .i64 0, .float .f64 0, .string ⟨#[]⟩] 29)) w.heap.size := free_one _ _ _ _ _ _ _
  have c0 : Below w.heap.size w ((w.alloc (.cells #[.int .i64 0, .int .i64 0, .float .f64 0, .string ⟨#[]⟩] 29)).alloc (.cells #[.int .i64 4, .int .i64 0, .float .f64 0, .string ⟨#[]⟩] 29)) := below_a2 _ _ _
  have LV := Lib.hid lV
  have LR := Lib.hid lR
  have FV := Lib.hid fV
  have FR := Lib.hid fR
  have CC := Lib.hid c0
  clear lV lR fV fR c0
  go_enter Try.func24, Try.ntmps24
  go_wp2_with fail
  refine (G _).mono ?_; rintro e w1 ⟨rfl, hb1⟩
  have lV1 := LV.out.below hb1
  have lR1 := LR.out.below hb1
  have fR1 := FR.out.below LR.out hb1
  have c1 := Below.chain CC.out hb1
  have ⟨x0, x1, x2, x3⟩ := lR1
  have ⟨y0, y1, y2, y3⟩ := fR1
  go_wp2_with fail
  exact ret_vnb rfl rfl rfl rfl rfl (Lies.set lR1 _ _ _ _) ⟨rfl, below_set4 c1 (Nat.le_refl _) _ _ _ _⟩
theorem rv3 (s : ByteArray) (hs : s.size ≤ 1000) (h0 : 0 < s.size) (hC : (s[0].toNat : Int) = 3) (V F : Nat) (HN : ∀ w, Calls Try.prog 38 #[.string (s.extract 1 9)] w fun e w' => e = .returned (.int .u64 (V : Nat)) ∧ w = w') (HF : ∀ w, Calls Try.prog 43 #[.int .u64 (V : Int)] w fun e w' => e = .returned (.float .f64 F) ∧ w = w') (h9 : 9 ≤ s.size) (HR : Hid (∀ w, Calls Try.prog 15 #[.agg #[.int .i64 3, .int .i64 0, .float .f64 F, .string ⟨#[]⟩]] w fun e w' => e = .returned (.bool true) ∧ Below w.heap.size w w')) (X : ByteArray) (HPV : Hid (∀ w, Calls Try.prog 18 #[.agg #[.int .i64 3, .int .i64 0, .float .f64 F, .string ⟨#[]⟩]] w fun e w' => e = .returned (.string X) ∧ Below w.heap.size w w')) (hb : (X.toList == (s.extract 0 9).toList) = true) (w : World) :
    Calls Try.prog 24 #[.string s] w fun e w' => e = .returned (.tuple #[.agg #[.int .i64 3, .int .i64 0, .float .f64 F, .string ⟨#[]⟩], .int .i64 (9), .bool true]) ∧ Below w.heap.size w w' := by
  have hsf := run_store_float
  have e0 : (s.toList == []) = false := by rw [toL, cons0 s h0]; rfl
  have i0 : (0 : Int) < (s.size : Int) := by omega
  have i1 : (1 : Int) ≤ (s.size : Int) := by omega
  have i9 : decide ((s.size : Int) < 9) = false := by simp; omega
  have j9 : (9 : Int) ≤ (s.size : Int) := by omega
  have lV : Lies ((w.alloc (.cells #[.int .i64 0, .int .i64 0, .float .f64 0, .string ⟨#[]⟩] 29)).alloc (.cells #[.int .i64 3, .int .i64 0, .float .f64 F, .string ⟨#[]⟩] 29)) (w.heap.size + 1) (.int .i64 3) (.int .i64 0) (.float .f64 F) (.string ⟨#[]⟩) := lies_two _ _ _ _ _ _ _
  have lR : Lies ((w.alloc (.cells #[.int .i64 0, .int .i64 0, .float .f64 0, .string ⟨#[]⟩] 29)).alloc (.cells #[.int .i64 3, .int .i64 0, .float .f64 F, .string ⟨#[]⟩] 29)) w.heap.size (.int .i64 0) (.int .i64 0) (.float .f64 0) (.string ⟨#[]⟩) := (lies_new w _ _ _ _ _).alloc _
  have fV : Free ((w.alloc (.cells #[.int .i64 0, .int .i64 0, .float .f64 0, .string ⟨#[]⟩] 29)).alloc (.cells #[.int .i64 3, .int .i64 0, .float .f64 F, .string ⟨#[]⟩] 29)) (w.heap.size + 1) := free_two _ _ _ _ _ _ _
  have fR : Free ((w.alloc (.cells #[.int .i64 0, .int .i64 0, .float .f64 0, .string ⟨#[]⟩] 29)).alloc (.cells #[.int .i64 3, .int .i64 0, .float .f64 F, .string ⟨#[]⟩] 29)) w.heap.size := free_one _ _ _ _ _ _ _
  have c0 : Below w.heap.size w ((w.alloc (.cells #[.int .i64 0, .int .i64 0, .float .f64 0, .string ⟨#[]⟩] 29)).alloc (.cells #[.int .i64 3, .int .i64 0, .float .f64 F, .string ⟨#[]⟩] 29)) := below_a2 _ _ _
  have LV := Lib.hid lV
  have LR := Lib.hid lR
  have FV := Lib.hid fV
  have FR := Lib.hid fR
  have CC := Lib.hid c0
  clear lV lR fV fR c0
  go_enter Try.func24, Try.ntmps24
  go_wp2_with fail
  refine (HN _).mono ?_; rintro e w' ⟨rfl, rfl⟩
  go_wp2_with fail
  refine (HF _).mono ?_; rintro e w' ⟨rfl, rfl⟩
  go_wp2_with fail
  refine (HR.out _).mono ?_; rintro e w9 ⟨rfl, hb9⟩
  have lV9 := LV.out.below hb9
  have lR9 := LR.out.below hb9
  have fR9 := FR.out.below LR.out hb9
  have c9 := Below.chain CC.out hb9
  have g0 := fun x : Later w9 => (lV9.below x.kept).1
  have g1 := fun x : Later w9 => (lV9.below x.kept).2.1
  have g2 := fun x : Later w9 => (lV9.below x.kept).2.2.1
  have g3 := fun x : Later w9 => (lV9.below x.kept).2.2.2
  have HP := HPV.out
  go_wp2_with fail
  refine wp_region_later (by kernel_rfl) (by kernel_rfl) ?_
  repeat (go_big_quiet_step (first | with_reducible exact later_call (HP _)))
  refine wpQuiet_nil ?_
  rintro w' ⟨x, rfl⟩
  clear g0 g1 g2 g3
  have lVx := lV9.below x.kept
  have lRx := lR9.below x.kept
  have fRx := fR9.below lR9 x.kept
  have cx := Below.chain c9 x.kept
  have ⟨x0, x1, x2, x3⟩ := lVx
  have ⟨z0, z1, z2, z3⟩ := lRx
  have ⟨y0, y1, y2, y3⟩ := fRx
  go_wp2_with fail
  exact ret_vnb rfl rfl rfl rfl rfl (Lies.set lRx _ _ _ _) ⟨rfl, below_set4 cx (Nat.le_refl _) _ _ _ _⟩
theorem rv3m (s : ByteArray) (hs : s.size ≤ 1000) (h0 : 0 < s.size) (hC : (s[0].toNat : Int) = 3) (V F : Nat) (HN : ∀ w, Calls Try.prog 38 #[.string (s.extract 1 9)] w fun e w' => e = .returned (.int .u64 (V : Nat)) ∧ w = w') (HF : ∀ w, Calls Try.prog 43 #[.int .u64 (V : Int)] w fun e w' => e = .returned (.float .f64 F) ∧ w = w') (h9 : 9 ≤ s.size) (HR : Hid (∀ w, Calls Try.prog 15 #[.agg #[.int .i64 3, .int .i64 0, .float .f64 F, .string ⟨#[]⟩]] w fun e w' => e = .returned (.bool true) ∧ Below w.heap.size w w')) (X : ByteArray) (HPV : Hid (∀ w, Calls Try.prog 18 #[.agg #[.int .i64 3, .int .i64 0, .float .f64 F, .string ⟨#[]⟩]] w fun e w' => e = .returned (.string X) ∧ Below w.heap.size w w')) (hb : (X.toList == (s.extract 0 9).toList) = false) (w : World) :
    Calls Try.prog 24 #[.string s] w fun e w' => e = .returned (.tuple #[.agg #[.int .i64 0, .int .i64 0, .float .f64 0, .string ⟨#[]⟩], .int .i64 0, .bool false]) ∧ Below w.heap.size w w' := by
  have hsf := run_store_float
  have e0 : (s.toList == []) = false := by rw [toL, cons0 s h0]; rfl
  have i0 : (0 : Int) < (s.size : Int) := by omega
  have i1 : (1 : Int) ≤ (s.size : Int) := by omega
  have i9 : decide ((s.size : Int) < 9) = false := by simp; omega
  have j9 : (9 : Int) ≤ (s.size : Int) := by omega
  have lV : Lies ((w.alloc (.cells #[.int .i64 0, .int .i64 0, .float .f64 0, .string ⟨#[]⟩] 29)).alloc (.cells #[.int .i64 3, .int .i64 0, .float .f64 F, .string ⟨#[]⟩] 29)) (w.heap.size + 1) (.int .i64 3) (.int .i64 0) (.float .f64 F) (.string ⟨#[]⟩) := lies_two _ _ _ _ _ _ _
  have lR : Lies ((w.alloc (.cells #[.int .i64 0, .int .i64 0, .float .f64 0, .string ⟨#[]⟩] 29)).alloc (.cells #[.int .i64 3, .int .i64 0, .float .f64 F, .string ⟨#[]⟩] 29)) w.heap.size (.int .i64 0) (.int .i64 0) (.float .f64 0) (.string ⟨#[]⟩) := (lies_new w _ _ _ _ _).alloc _
  have fV : Free ((w.alloc (.cells #[.int .i64 0, .int .i64 0, .float .f64 0, .string ⟨#[]⟩] 29)).alloc (.cells #[.int .i64 3, .int .i64 0, .float .f64 F, .string ⟨#[]⟩] 29)) (w.heap.size + 1) := free_two _ _ _ _ _ _ _
  have fR : Free ((w.alloc (.cells #[.int .i64 0, .int .i64 0, .float .f64 0, .string ⟨#[]⟩] 29)).alloc (.cells #[.int .i64 3, .int .i64 0, .float .f64 F, .string ⟨#[]⟩] 29)) w.heap.size := free_one _ _ _ _ _ _ _
  have c0 : Below w.heap.size w ((w.alloc (.cells #[.int .i64 0, .int .i64 0, .float .f64 0, .string ⟨#[]⟩] 29)).alloc (.cells #[.int .i64 3, .int .i64 0, .float .f64 F, .string ⟨#[]⟩] 29)) := below_a2 _ _ _
  have LV := Lib.hid lV
  have LR := Lib.hid lR
  have FV := Lib.hid fV
  have FR := Lib.hid fR
  have CC := Lib.hid c0
  clear lV lR fV fR c0
  go_enter Try.func24, Try.ntmps24
  go_wp2_with fail
  refine (HN _).mono ?_; rintro e w' ⟨rfl, rfl⟩
  go_wp2_with fail
  refine (HF _).mono ?_; rintro e w' ⟨rfl, rfl⟩
  go_wp2_with fail
  refine (HR.out _).mono ?_; rintro e w9 ⟨rfl, hb9⟩
  have lV9 := LV.out.below hb9
  have lR9 := LR.out.below hb9
  have fR9 := FR.out.below LR.out hb9
  have c9 := Below.chain CC.out hb9
  have g0 := fun x : Later w9 => (lV9.below x.kept).1
  have g1 := fun x : Later w9 => (lV9.below x.kept).2.1
  have g2 := fun x : Later w9 => (lV9.below x.kept).2.2.1
  have g3 := fun x : Later w9 => (lV9.below x.kept).2.2.2
  have HP := HPV.out
  go_wp2_with fail
  refine wp_region_later (by kernel_rfl) (by kernel_rfl) ?_
  repeat (go_big_quiet_step (first | with_reducible exact later_call (HP _)))
  refine wpQuiet_nil ?_
  rintro w' ⟨x, rfl⟩
  clear g0 g1 g2 g3
  have lVx := lV9.below x.kept
  have lRx := lR9.below x.kept
  have fRx := fR9.below lR9 x.kept
  have cx := Below.chain c9 x.kept
  have ⟨x0, x1, x2, x3⟩ := lVx
  have ⟨z0, z1, z2, z3⟩ := lRx
  have ⟨y0, y1, y2, y3⟩ := fRx
  go_wp2_with fail
  exact ret_vnb rfl rfl rfl rfl rfl (Lies.set lRx _ _ _ _) ⟨rfl, below_set4 cx (Nat.le_refl _) _ _ _ _⟩
theorem rv3r (s : ByteArray) (hs : s.size ≤ 1000) (h0 : 0 < s.size) (hC : (s[0].toNat : Int) = 3) (V F : Nat) (HN : ∀ w, Calls Try.prog 38 #[.string (s.extract 1 9)] w fun e w' => e = .returned (.int .u64 (V : Nat)) ∧ w = w') (HF : ∀ w, Calls Try.prog 43 #[.int .u64 (V : Int)] w fun e w' => e = .returned (.float .f64 F) ∧ w = w') (h9 : 9 ≤ s.size) (HR : Hid (∀ w, Calls Try.prog 15 #[.agg #[.int .i64 3, .int .i64 0, .float .f64 F, .string ⟨#[]⟩]] w fun e w' => e = .returned (.bool false) ∧ Below w.heap.size w w')) (w : World) :
    Calls Try.prog 24 #[.string s] w fun e w' => e = .returned (.tuple #[.agg #[.int .i64 0, .int .i64 0, .float .f64 0, .string ⟨#[]⟩], .int .i64 0, .bool false]) ∧ Below w.heap.size w w' := by
  have hsf := run_store_float
  have e0 : (s.toList == []) = false := by rw [toL, cons0 s h0]; rfl
  have i0 : (0 : Int) < (s.size : Int) := by omega
  have i1 : (1 : Int) ≤ (s.size : Int) := by omega
  have i9 : decide ((s.size : Int) < 9) = false := by simp; omega
  have j9 : (9 : Int) ≤ (s.size : Int) := by omega
  have lV : Lies ((w.alloc (.cells #[.int .i64 0, .int .i64 0, .float .f64 0, .string ⟨#[]⟩] 29)).alloc (.cells #[.int .i64 3, .int .i64 0, .float .f64 F, .string ⟨#[]⟩] 29)) (w.heap.size + 1) (.int .i64 3) (.int .i64 0) (.float .f64 F) (.string ⟨#[]⟩) := lies_two _ _ _ _ _ _ _
  have lR : Lies ((w.alloc (.cells #[.int .i64 0, .int .i64 0, .float .f64 0, .string ⟨#[]⟩] 29)).alloc (.cells #[.int .i64 3, .int .i64 0, .float .f64 F, .string ⟨#[]⟩] 29)) w.heap.size (.int .i64 0) (.int .i64 0) (.float .f64 0) (.string ⟨#[]⟩) := (lies_new w _ _ _ _ _).alloc _
  have fV : Free ((w.alloc (.cells #[.int .i64 0, .int .i64 0, .float .f64 0, .string ⟨#[]⟩] 29)).alloc (.cells #[.int .i64 3, .int .i64 0, .float .f64 F, .string ⟨#[]⟩] 29)) (w.heap.size + 1) := free_two _ _ _ _ _ _ _
  have fR : Free ((w.alloc (.cells #[.int .i64 0, .int .i64 0, .float .f64 0, .string ⟨#[]⟩] 29)).alloc (.cells #[.int .i64 3, .int .i64 0, .float .f64 F, .string ⟨#[]⟩] 29)) w.heap.size := free_one _ _ _ _ _ _ _
  have c0 : Below w.heap.size w ((w.alloc (.cells #[.int .i64 0, .int .i64 0, .float .f64 0, .string ⟨#[]⟩] 29)).alloc (.cells #[.int .i64 3, .int .i64 0, .float .f64 F, .string ⟨#[]⟩] 29)) := below_a2 _ _ _
  have LV := Lib.hid lV
  have LR := Lib.hid lR
  have FV := Lib.hid fV
  have FR := Lib.hid fR
  have CC := Lib.hid c0
  clear lV lR fV fR c0
  go_enter Try.func24, Try.ntmps24
  go_wp2_with fail
  refine (HN _).mono ?_; rintro e w' ⟨rfl, rfl⟩
  go_wp2_with fail
  refine (HF _).mono ?_; rintro e w' ⟨rfl, rfl⟩
  go_wp2_with fail
  refine (HR.out _).mono ?_; rintro e w9 ⟨rfl, hb9⟩
  have lV9 := LV.out.below hb9
  have lR9 := LR.out.below hb9
  have fR9 := FR.out.below LR.out hb9
  have c9 := Below.chain CC.out hb9
  go_wp2_with fail
  refine wp_region_later (by kernel_rfl) (by kernel_rfl) ?_
  repeat (go_big_quiet_step (first | fail))
  refine wpQuiet_nil ?_
  rintro w' ⟨x, rfl⟩
  have lRx := lR9.below x.kept
  have fRx := fR9.below lR9 x.kept
  have cx := Below.chain c9 x.kept
  have ⟨z0, z1, z2, z3⟩ := lRx
  have ⟨y0, y1, y2, y3⟩ := fRx
  go_wp2_with fail
  exact ret_vnb rfl rfl rfl rfl rfl (Lies.set lRx _ _ _ _) ⟨rfl, below_set4 cx (Nat.le_refl _) _ _ _ _⟩
end Go.Proofs.Ytcbogapnhabhkaa
