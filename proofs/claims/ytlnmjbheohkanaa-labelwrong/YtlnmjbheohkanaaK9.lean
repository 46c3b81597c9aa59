import Derived.Test.YtlnmjbheohkanaaK8
namespace Go.Proofs.Ytlnmjbheohkanaa
open Go Go.RowKit
set_option linter.unusedVariables false
theorem Vr.rw1 {w : World} {g : Nat} {x : Xc} (h : Vr w g 28 (xcs x)) : RwX w (.slice (some ⟨g, 0, none⟩) 1 1) [x] :=
  ⟨some ⟨g, 0, none⟩, 1, rfl, Nat.le_refl _, by simp [maxLen], fun h => (by cases h), fun i hi => ⟨g, 0, rfl, fun j hj => by
    have : i = 0 := by simpa using hi
    subst this
    have := h.lies7 rfl j hj
    simpa using this⟩⟩
theorem Vr.rw2 {w : World} {g : Nat} {x y : Xc} (h : Vr w g 28 (xcs2 x y)) : RwX w (.slice (some ⟨g, 0, none⟩) 2 2) [x, y] :=
  ⟨some ⟨g, 0, none⟩, 2, rfl, Nat.le_refl _, by simp [maxLen], fun h => (by cases h), fun i hi => ⟨g, 0, rfl, fun j hj => by
    have hi2 : i < 2 := by simpa using hi
    have hc := h.cell (i * 7 + j)
    rw [Nat.zero_add, hc]
    match i, hi2 with
    | 0, _ => match j, hj with
      | 0, _ => rfl
      | 1, _ => rfl
      | 2, _ => rfl
      | 3, _ => rfl
      | 4, _ => rfl
      | 5, _ => rfl
      | 6, _ => rfl
    | 1, _ => match j, hj with
      | 0, _ => rfl
      | 1, _ => rfl
      | 2, _ => rfl
      | 3, _ => rfl
      | 4, _ => rfl
      | 5, _ => rfl
      | 6, _ => rfl⟩⟩
theorem xname_any (s : ByteArray) (w : World) :
    Calls Try.prog 27 #[.string s] w fun e w' => ∃ x, e = .returned (xv x) ∧ Tx w' (.node 4 s ⟨0, 0, 0, ⟨#[]⟩⟩ []) x ∧ Below w.heap.size w w' := by
  have hsf := run_store_float
  go_enter Try.func27, Try.ntmps27
  go_wp2_with fail
  refine ret_x ⟨4, s, ⟨0, 0, 0, ⟨#[]⟩⟩, none, 0, 0⟩ rfl rfl rfl (lies7_new _ _ _ _ rfl) ?_
  exact ⟨_, rfl, Tx.mk zero_ok (Rw.nil _) (Txs.nil _), below_a1 _ _⟩
set_option maxHeartbeats 1000000 in
theorem not6_any (t : Ex) (x : Xc) (w : World) (h : Tx w t x) :
    Calls Try.prog 25 #[xv x] w fun e w' => ∃ y, e = .returned (xv y) ∧ Tx w' (.node 6 ⟨#[]⟩ ⟨0, 0, 0, ⟨#[]⟩⟩ [t]) y ∧ Below w.heap.size w w' := by
  have c0 := below_a2 w (.cells (xcs x) 28) (.cells #[.int .i64 0, .string ⟨#[]⟩, .int .i64 0, .int .i64 0, .float .f64 0, .string ⟨#[]⟩, .slice none 0 0] 28)
  have L := ((lies7_new w x 28 (xcs x) rfl).keep (below_a1 (w.alloc (.cells (xcs x) 28)) (.cells #[.int .i64 0, .string ⟨#[]⟩, .int .i64 0, .int .i64 0, .float .f64 0, .string ⟨#[]⟩, .slice none 0 0] 28)))
  have V := Vr.at' (w.alloc (.cells (xcs x) 28)) 28 #[.int .i64 0, .string ⟨#[]⟩, .int .i64 0, .int .i64 0, .float .f64 0, .string ⟨#[]⟩, .slice none 0 0] (w.heap.size + 1) (by simp)
  have HT := Lib.hid h
  have hz : ((w.alloc (.cells (xcs x) 28)).alloc (.cells #[.int .i64 0, .string ⟨#[]⟩, .int .i64 0, .int .i64 0, .float .f64 0, .string ⟨#[]⟩, .slice none 0 0] 28)).heap.size = w.heap.size + 1 + 1 := by simp
  have ⟨q0, q1, q2, q3, q4, q5, q6⟩ := L.at
  have SZ := Lib.hid hz
  clear h L hz
  generalize hW : (w.alloc (.cells (xcs x) 28)).alloc (.cells #[.int .i64 0, .string ⟨#[]⟩, .int .i64 0, .int .i64 0, .float .f64 0, .string ⟨#[]⟩, .slice none 0 0] 28) = W0 at *
  have a1 := below_a1 W0 (.cells (xcs x) 28)
  have V1 := Lib.hid (V.keep a1)
  have X1 := Lib.hid (Vr.new W0 28 (xcs x))
  go_enter Try.func25, Try.ntmps25
  go_upto_region 1 with fail
  try rw [hW]
  clear hW
  go_wp2_with (refine wpList_store_x ⟨6, ⟨#[]⟩, ⟨0, 0, 0, ⟨#[]⟩⟩, some ⟨W0.heap.size, 0, none⟩, 1, 1⟩ rfl _ _ rfl rfl rfl V1.out rfl ?_)
  refine ret_x ⟨6, ⟨#[]⟩, ⟨0, 0, 0, ⟨#[]⟩⟩, some ⟨W0.heap.size, 0, none⟩, 1, 1⟩ rfl rfl rfl ((V1.out.set _).lies7 rfl) ?_
  have b4 := below_setRow (Below.chain c0 a1) (show w.heap.size ≤ w.heap.size + 1 by omega) (xcs ⟨6, ⟨#[]⟩, ⟨0, 0, 0, ⟨#[]⟩⟩, some ⟨W0.heap.size, 0, none⟩, 1, 1⟩)
  have g4 := (X1.out.grown (grown_rowS _ (w.heap.size + 1) (xcs ⟨6, ⟨#[]⟩, ⟨0, 0, 0, ⟨#[]⟩⟩, some ⟨W0.heap.size, 0, none⟩, 1, 1⟩)) (by have := SZ.out; simp; omega))
  exact ⟨_, rfl, Tx.mk zero_ok g4.rw1 (Txs.one (HT.out.keep b4)), b4⟩
set_option maxHeartbeats 1000000 in
theorem and6_any (t u : Ex) (x y : Xc) (w : World) (h : Tx w t x) (h' : Tx w u y) :
    Calls Try.prog 23 #[xv x, xv y] w fun e w' => ∃ z, e = .returned (xv z) ∧ Tx w' (.node 7 ⟨#[]⟩ ⟨0, 0, 0, ⟨#[]⟩⟩ [t, u]) z ∧ Below w.heap.size w w' := by
  have c0 : Below w.heap.size w (((w.alloc (.cells (xcs x) 28)).alloc (.cells (xcs y) 28)).alloc (.cells #[.int .i64 0, .string ⟨#[]⟩, .int .i64 0, .int .i64 0, .float .f64 0, .string ⟨#[]⟩, .slice none 0 0] 28)) := bl_al (bl_al (bl_al (Below.refl _ _)))
  have L := ((lies7_new w x 28 (xcs x) rfl).keep (below_a1 (w.alloc (.cells (xcs x) 28)) (.cells (xcs y) 28))).keep (below_a1 _ (.cells #[.int .i64 0, .string ⟨#[]⟩, .int .i64 0, .int .i64 0, .float .f64 0, .string ⟨#[]⟩, .slice none 0 0] 28))
  have L2 := ((Vr.at' (w.alloc (.cells (xcs x) 28)) 28 (xcs y) (w.heap.size + 1) (by simp)).al (o := .cells #[.int .i64 0, .string ⟨#[]⟩, .int .i64 0, .int .i64 0, .float .f64 0, .string ⟨#[]⟩, .slice none 0 0] 28)).lies7 (x := y) rfl
  have V := Vr.at' ((w.alloc (.cells (xcs x) 28)).alloc (.cells (xcs y) 28)) 28 #[.int .i64 0, .string ⟨#[]⟩, .int .i64 0, .int .i64 0, .float .f64 0, .string ⟨#[]⟩, .slice none 0 0] (w.heap.size + 1 + 1) (by simp)
  have HT := Lib.hid h
  have HT2 := Lib.hid h'
  have hz : (((w.alloc (.cells (xcs x) 28)).alloc (.cells (xcs y) 28)).alloc (.cells #[.int .i64 0, .string ⟨#[]⟩, .int .i64 0, .int .i64 0, .float .f64 0, .string ⟨#[]⟩, .slice none 0 0] 28)).heap.size = w.heap.size + 1 + 1 + 1 := by simp
  have ⟨q0, q1, q2, q3, q4, q5, q6⟩ := L.at
  have ⟨p0, p1, p2, p3, p4, p5, p6⟩ := L2.at
  have SZ := Lib.hid hz
  clear h h' L L2 hz
  generalize hW : ((w.alloc (.cells (xcs x) 28)).alloc (.cells (xcs y) 28)).alloc (.cells #[.int .i64 0, .string ⟨#[]⟩, .int .i64 0, .int .i64 0, .float .f64 0, .string ⟨#[]⟩, .slice none 0 0] 28) = W0 at *
  have a1 := below_a1 W0 (.cells (xcs2 x y) 28)
  have V1 := Lib.hid (V.keep a1)
  have X1 := Lib.hid (Vr.new W0 28 (xcs2 x y))
  go_enter Try.func23, Try.ntmps23
  go_upto_region 1 with fail
  try rw [hW]
  clear hW
  go_wp2_with (refine wpList_store_x ⟨7, ⟨#[]⟩, ⟨0, 0, 0, ⟨#[]⟩⟩, some ⟨W0.heap.size, 0, none⟩, 2, 2⟩ rfl _ _ rfl rfl rfl V1.out rfl ?_)
  refine ret_x ⟨7, ⟨#[]⟩, ⟨0, 0, 0, ⟨#[]⟩⟩, some ⟨W0.heap.size, 0, none⟩, 2, 2⟩ rfl rfl rfl ((V1.out.set _).lies7 rfl) ?_
  have b4 := below_setRow (Below.chain c0 a1) (show w.heap.size ≤ w.heap.size + 1 + 1 by omega) (xcs ⟨7, ⟨#[]⟩, ⟨0, 0, 0, ⟨#[]⟩⟩, some ⟨W0.heap.size, 0, none⟩, 2, 2⟩)
  have g4 := (X1.out.grown (grown_rowS _ (w.heap.size + 1 + 1) (xcs ⟨7, ⟨#[]⟩, ⟨0, 0, 0, ⟨#[]⟩⟩, some ⟨W0.heap.size, 0, none⟩, 2, 2⟩)) (by have := SZ.out; simp; omega))
  exact ⟨_, rfl, Tx.mk zero_ok g4.rw2 (Txs.app (Txs.one (HT.out.keep b4)) (Txs.one (HT2.out.keep b4))), b4⟩
set_option maxHeartbeats 1000000 in
theorem or6_any (t u : Ex) (x y : Xc) (w : World) (h : Tx w t x) (h' : Tx w u y) :
    Calls Try.prog 24 #[xv x, xv y] w fun e w' => ∃ z, e = .returned (xv z) ∧ Tx w' (.node 8 ⟨#[]⟩ ⟨0, 0, 0, ⟨#[]⟩⟩ [t, u]) z ∧ Below w.heap.size w w' := by
  have c0 : Below w.heap.size w (((w.alloc (.cells (xcs x) 28)).alloc (.cells (xcs y) 28)).alloc (.cells #[.int .i64 0, .string ⟨#[]⟩, .int .i64 0, .int .i64 0, .float .f64 0, .string ⟨#[]⟩, .slice none 0 0] 28)) := bl_al (bl_al (bl_al (Below.refl _ _)))
  have L := ((lies7_new w x 28 (xcs x) rfl).keep (below_a1 (w.alloc (.cells (xcs x) 28)) (.cells (xcs y) 28))).keep (below_a1 _ (.cells #[.int .i64 0, .string ⟨#[]⟩, .int .i64 0, .int .i64 0, .float .f64 0, .string ⟨#[]⟩, .slice none 0 0] 28))
  have L2 := ((Vr.at' (w.alloc (.cells (xcs x) 28)) 28 (xcs y) (w.heap.size + 1) (by simp)).al (o := .cells #[.int .i64 0, .string ⟨#[]⟩, .int .i64 0, .int .i64 0, .float .f64 0, .string ⟨#[]⟩, .slice none 0 0] 28)).lies7 (x := y) rfl
  have V := Vr.at' ((w.alloc (.cells (xcs x) 28)).alloc (.cells (xcs y) 28)) 28 #[.int .i64 0, .string ⟨#[]⟩, .int .i64 0, .int .i64 0, .float .f64 0, .string ⟨#[]⟩, .slice none 0 0] (w.heap.size + 1 + 1) (by simp)
  have HT := Lib.hid h
  have HT2 := Lib.hid h'
  have hz : (((w.alloc (.cells (xcs x) 28)).alloc (.cells (xcs y) 28)).alloc (.cells #[.int .i64 0, .string ⟨#[]⟩, .int .i64 0, .int .i64 0, .float .f64 0, .string ⟨#[]⟩, .slice none 0 0] 28)).heap.size = w.heap.size + 1 + 1 + 1 := by simp
  have ⟨q0, q1, q2, q3, q4, q5, q6⟩ := L.at
  have ⟨p0, p1, p2, p3, p4, p5, p6⟩ := L2.at
  have SZ := Lib.hid hz
  clear h h' L L2 hz
  generalize hW : ((w.alloc (.cells (xcs x) 28)).alloc (.cells (xcs y) 28)).alloc (.cells #[.int .i64 0, .string ⟨#[]⟩, .int .i64 0, .int .i64 0, .float .f64 0, .string ⟨#[]⟩, .slice none 0 0] 28) = W0 at *
  have a1 := below_a1 W0 (.cells (xcs2 x y) 28)
  have V1 := Lib.hid (V.keep a1)
  have X1 := Lib.hid (Vr.new W0 28 (xcs2 x y))
  go_enter Try.func24, Try.ntmps24
  go_upto_region 1 with fail
  try rw [hW]
  clear hW
  go_wp2_with (refine wpList_store_x ⟨8, ⟨#[]⟩, ⟨0, 0, 0, ⟨#[]⟩⟩, some ⟨W0.heap.size, 0, none⟩, 2, 2⟩ rfl _ _ rfl rfl rfl V1.out rfl ?_)
  refine ret_x ⟨8, ⟨#[]⟩, ⟨0, 0, 0, ⟨#[]⟩⟩, some ⟨W0.heap.size, 0, none⟩, 2, 2⟩ rfl rfl rfl ((V1.out.set _).lies7 rfl) ?_
  have b4 := below_setRow (Below.chain c0 a1) (show w.heap.size ≤ w.heap.size + 1 + 1 by omega) (xcs ⟨8, ⟨#[]⟩, ⟨0, 0, 0, ⟨#[]⟩⟩, some ⟨W0.heap.size, 0, none⟩, 2, 2⟩)
  have g4 := (X1.out.grown (grown_rowS _ (w.heap.size + 1 + 1) (xcs ⟨8, ⟨#[]⟩, ⟨0, 0, 0, ⟨#[]⟩⟩, some ⟨W0.heap.size, 0, none⟩, 2, 2⟩)) (by have := SZ.out; simp; omega))
  exact ⟨_, rfl, Tx.mk zero_ok g4.rw2 (Txs.app (Txs.one (HT.out.keep b4)) (Txs.one (HT2.out.keep b4))), b4⟩
end Go.Proofs.Ytlnmjbheohkanaa
