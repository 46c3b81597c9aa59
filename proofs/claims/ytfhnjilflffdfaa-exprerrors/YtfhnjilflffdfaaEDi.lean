import Derived.Test.YtfhnjilflffdfaaEDh
import Derived.Deep.RegionHeld3
namespace Go.Proofs.Ytfhnjilflffdfaa
open Go Go.RowKit
set_option linter.unusedVariables false
theorem laid2 (w : World) (k : Int) (nm : ByteArray) (vv : Vl) (ao : Option Addr) (L cap : Nat) : Lies7 ((w.alloc (.cells #[.int .i64 k, .string nm, .int .i64 vv.k, .int .i64 vv.n, .float .f64 vv.f, .string vv.s, .slice ao L cap] 27)).alloc (.cells #[.int .i64 0, .int .i64 0, .float .f64 0, .string ⟨#[]⟩] 24)) w.heap.size ⟨k, nm, vv, ao, L, cap⟩ ∧ Vr ((w.alloc (.cells #[.int .i64 k, .string nm, .int .i64 vv.k, .int .i64 vv.n, .float .f64 vv.f, .string vv.s, .slice ao L cap] 27)).alloc (.cells #[.int .i64 0, .int .i64 0, .float .f64 0, .string ⟨#[]⟩] 24)) (w.heap.size + 1) 24 #[.int .i64 0, .int .i64 0, .float .f64 0, .string ⟨#[]⟩] := by
  have e1 : (w.alloc (.cells #[.int .i64 k, .string nm, .int .i64 vv.k, .int .i64 vv.n, .float .f64 vv.f, .string vv.s, .slice ao L cap] 27)).heap.size = w.heap.size + 1 := by simp
  refine ⟨(lies7_new w ⟨k, nm, vv, ao, L, cap⟩ 27 _ rfl).keep (below_a1 _ _), ?_⟩
  have h := Vr.new (w.alloc (.cells #[.int .i64 k, .string nm, .int .i64 vv.k, .int .i64 vv.n, .float .f64 vv.f, .string vv.s, .slice ao L cap] 27)) 24 #[.int .i64 0, .int .i64 0, .float .f64 0, .string ⟨#[]⟩]
  rw [e1] at h; exact h
theorem value_lit (R : Nat) (nm : ByteArray) (vv : Vl) (ao : Option Addr) (L cap : Nat) (w : World) : Calls Try.prog 25 #[.pointer (some ⟨R, 0, none⟩), .agg #[.int .i64 1, .string nm, .int .i64 vv.k, .int .i64 vv.n, .float .f64 vv.f, .string vv.s, .slice ao L cap]] w fun e w' => e = .returned (avl vv) ∧ Below w.heap.size w w' := by
  have hsf := run_store_float
  have Ld := Lib.hid (laid2 w 1 nm vv ao L cap)
  have c0 := below_a2 w (.cells #[.int .i64 1, .string nm, .int .i64 vv.k, .int .i64 vv.n, .float .f64 vv.f, .string vv.s, .slice ao L cap] 27) (.cells #[.int .i64 0, .int .i64 0, .float .f64 0, .string ⟨#[]⟩] 24)
  have ⟨q0, q1, q2, q3, q4, q5, q6⟩ := Ld.out.1.at
  generalize hW : (w.alloc (.cells #[.int .i64 1, .string nm, .int .i64 vv.k, .int .i64 vv.n, .float .f64 vv.f, .string vv.s, .slice ao L cap] 27)).alloc (.cells #[.int .i64 0, .int .i64 0, .float .f64 0, .string ⟨#[]⟩] 24) = W0 at *
  have V2 := Lib.hid Ld.out.2
  go_enter Try.func25, Try.ntmps25
  go_upto_region 1 with fail
  try rw [hW]
  clear hW
  go_wp2_with (refine wpList_store_v vv rfl _ _ rfl rfl rfl V2.out rfl ?_)
  refine ret_v rfl rfl rfl (V2.out.set (vcs vv)).lies ?_
  exact ⟨rfl, below_setRow c0 (by omega) _⟩
theorem value_prop (R : Nat) (nm : ByteArray) (vv : Vl) (ao : Option Addr) (L cap : Nat) (v : Value) (l : List Pr) (w : World) (hc : w.cell? ⟨R, 0, none⟩ = some v) (hp : RwP w v l) : Calls Try.prog 25 #[.pointer (some ⟨R, 0, none⟩), .agg #[.int .i64 2, .string nm, .int .i64 vv.k, .int .i64 vv.n, .float .f64 vv.f, .string vv.s, .slice ao L cap]] w fun e w' => e = .returned (avl (findP nm l)) ∧ Below w.heap.size w w' := by
  have hsf := run_store_float
  have Ld := Lib.hid (laid2 w 2 nm vv ao L cap)
  have c0 := below_a2 w (.cells #[.int .i64 2, .string nm, .int .i64 vv.k, .int .i64 vv.n, .float .f64 vv.f, .string vv.s, .slice ao L cap] 27) (.cells #[.int .i64 0, .int .i64 0, .float .f64 0, .string ⟨#[]⟩] 24)
  have ⟨q0, q1, q2, q3, q4, q5, q6⟩ := Ld.out.1.at
  have C := Lib.hid (property_any R nm v l _ ((c0.cell (block_lt_of_cell hc)).trans hc) (hp.keep c0))
  clear hc hp
  generalize findP nm l = u at *
  generalize hW : (w.alloc (.cells #[.int .i64 2, .string nm, .int .i64 vv.k, .int .i64 vv.n, .float .f64 vv.f, .string vv.s, .slice ao L cap] 27)).alloc (.cells #[.int .i64 0, .int .i64 0, .float .f64 0, .string ⟨#[]⟩] 24) = W0 at *
  have V2 := Lib.hid Ld.out.2
  go_enter Try.func25, Try.ntmps25
  go_upto_region 1 with fail
  try rw [hW]
  clear hW
  go_wp2_with fail
  (with_reducible refine C.out.mono ?_); rintro e w2 ⟨rfl, hb2⟩
  have V3 := Lib.hid (V2.out.keep hb2)
  go_wp2_with (refine wpList_store_v u rfl _ _ rfl rfl rfl V3.out rfl ?_)
  refine ret_v rfl rfl rfl (V3.out.set (vcs u)).lies ?_
  exact ⟨rfl, below_setRow (Below.chain c0 hb2) (by omega) _⟩
/-- the cells of a kid -/
def Kid (w : World) (b o : Nat) (z : Xc) : Prop := w.cell? ⟨b, o, none⟩ = some (.int .i64 z.kind) ∧ w.cell? ⟨b, o + 1, none⟩ = some (.string z.name) ∧ w.cell? ⟨b, o + 2, none⟩ = some (.int .i64 z.v.k) ∧ w.cell? ⟨b, o + 3, none⟩ = some (.int .i64 z.v.n) ∧ w.cell? ⟨b, o + 4, none⟩ = some (.float .f64 z.v.f) ∧ w.cell? ⟨b, o + 5, none⟩ = some (.string z.v.s) ∧ w.cell? ⟨b, o + 6, none⟩ = some (.slice z.ao z.len z.cap)
theorem Kid.lt {w : World} {b o : Nat} {z : Xc} (h : Kid w b o z) : b < w.heap.size := block_lt_of_cell h.1
theorem Kid.keep {w w' : World} {b o : Nat} {z : Xc} (h : Kid w b o z) (hb : Below w.heap.size w w') : Kid w' b o z :=
  ⟨(hb.cell h.lt).trans h.1, (hb.cell h.lt).trans h.2.1, (hb.cell h.lt).trans h.2.2.1, (hb.cell h.lt).trans h.2.2.2.1, (hb.cell h.lt).trans h.2.2.2.2.1, (hb.cell h.lt).trans h.2.2.2.2.2.1, (hb.cell h.lt).trans h.2.2.2.2.2.2⟩
theorem Kid.grown {w w' : World} {b o : Nat} {z : Xc} {r : Option Nat} (h : Kid w b o z) (hg : w.grownBy w' r) (hr : some b ≠ r) : Kid w' b o z :=
  ⟨hg.cell h.1 hr, hg.cell h.2.1 hr, hg.cell h.2.2.1 hr, hg.cell h.2.2.2.1 hr, hg.cell h.2.2.2.2.1 hr, hg.cell h.2.2.2.2.2.1 hr, hg.cell h.2.2.2.2.2.2 hr⟩
theorem Lies7.grown {w w' : World} {b : Nat} {x : Xc} {r : Option Nat} (h : Lies7 w b x) (hg : w.grownBy w' r) (hr : some b ≠ r) : Lies7 w' b x := fun j hj => by
  rw [World.cell?_of_block (a := ⟨b, j, none⟩) (hg.block b h.lt hr)]; exact h j hj
theorem value_first_bad (R : Nat) (nm : ByteArray) (vv : Vl) (b o : Nat) (cap : Nat) (z : Xc) (L : Nat) (hL : 1 ≤ L) (v : Value) (o0 : Bool) (w : World) (hk : Kid w b o z) (hR : Rk w R v o0)
    (C : ∀ w1, Below w.heap.size w w1 → Rk w1 R v o0 → Calls Try.prog 25 #[.pointer (some ⟨R, 0, none⟩), xv z] w1 fun e w' => e = bad4 ∧ w1.grownBy w' (some R)) :
    Calls Try.prog 25 #[.pointer (some ⟨R, 0, none⟩), .agg #[.int .i64 3, .string nm, .int .i64 vv.k, .int .i64 vv.n, .float .f64 vv.f, .string vv.s, .slice (some ⟨b, o, none⟩) L cap]] w fun e w' => e = bad4 ∧ w.grownBy w' (some R) := by
  have hsf := run_store_float
  have Ld := Lib.hid (laid2 w 3 nm vv (some ⟨b, o, none⟩) L cap)
  have c0 := below_a2 w (.cells #[.int .i64 3, .string nm, .int .i64 vv.k, .int .i64 vv.n, .float .f64 vv.f, .string vv.s, .slice (some ⟨b, o, none⟩) L cap] 27) (.cells #[.int .i64 0, .int .i64 0, .float .f64 0, .string ⟨#[]⟩] 24)
  have n1 : w.heap.size ≠ R := by have := hR.lt; omega
  have n2 : w.heap.size + 1 ≠ R := by have := hR.lt; omega
  have ⟨p0, p1, p2, p3, p4, p5, p6⟩ := Ld.out.1.at
  have ⟨q0, q1, q2, q3, q4, q5, q6⟩ := hk.keep c0
  have C1 := Lib.hid (C _ c0 (hR.keep c0))
  have hl0 : (0 : Int) < (L : Int) := by omega
  clear C
  generalize hW : (w.alloc (.cells #[.int .i64 3, .string nm, .int .i64 vv.k, .int .i64 vv.n, .float .f64 vv.f, .string vv.s, .slice (some ⟨b, o, none⟩) L cap] 27)).alloc (.cells #[.int .i64 0, .int .i64 0, .float .f64 0, .string ⟨#[]⟩] 24) = W0 at *
  go_enter Try.func25, Try.ntmps25
  go_upto_region 1 with fail
  try rw [hW]
  clear hW
  go_wp2_with fail
  (with_reducible refine C1.out.mono ?_); rintro e w2 ⟨rfl, hg2⟩
  exact ⟨rfl, rfl, grown_trans (grown_of_below _ c0) hg2⟩
set_option maxHeartbeats 1000000 in
theorem value_one_ok (R : Nat) (nm : ByteArray) (vv : Vl) (b o : Nat) (cap : Nat) (z : Xc) (v : Value) (o0 o1 : Bool) (a u : Vl) (w : World) (hk : Kid w b o z) (hR : Rk w R v o0)
    (C : ∀ w1, Below w.heap.size w w1 → Rk w1 R v o0 → Calls Try.prog 25 #[.pointer (some ⟨R, 0, none⟩), xv z] w1 fun e w' => e = .returned (avl a) ∧ Rk w' R v o1 ∧ w1.grownBy w' (some R))
    (D : ∀ w1, Calls Try.prog 36 #[.string nm, avl a] w1 fun e w' => e = .returned (avl u) ∧ Below w1.heap.size w1 w') :
    Calls Try.prog 25 #[.pointer (some ⟨R, 0, none⟩), .agg #[.int .i64 3, .string nm, .int .i64 vv.k, .int .i64 vv.n, .float .f64 vv.f, .string vv.s, .slice (some ⟨b, o, none⟩) 1 cap]] w fun e w' => e = .returned (avl u) ∧ Rk w' R v o1 ∧ w.grownBy w' (some R) := by
  have hsf := run_store_float
  have Ld := Lib.hid (laid2 w 3 nm vv (some ⟨b, o, none⟩) 1 cap)
  have c0 := below_a2 w (.cells #[.int .i64 3, .string nm, .int .i64 vv.k, .int .i64 vv.n, .float .f64 vv.f, .string vv.s, .slice (some ⟨b, o, none⟩) 1 cap] 27) (.cells #[.int .i64 0, .int .i64 0, .float .f64 0, .string ⟨#[]⟩] 24)
  have n1 : w.heap.size ≠ R := by have := hR.lt; omega
  have n2 : w.heap.size + 1 ≠ R := by have := hR.lt; omega
  have ⟨p0, p1, p2, p3, p4, p5, p6⟩ := Ld.out.1.at
  have ⟨q0, q1, q2, q3, q4, q5, q6⟩ := hk.keep c0
  have C1 := Lib.hid (C _ c0 (hR.keep c0))
  have hl0 : (0 : Int) < (1 : Int) := by omega
  clear C
  generalize hW : (w.alloc (.cells #[.int .i64 3, .string nm, .int .i64 vv.k, .int .i64 vv.n, .float .f64 vv.f, .string vv.s, .slice (some ⟨b, o, none⟩) 1 cap] 27)).alloc (.cells #[.int .i64 0, .int .i64 0, .float .f64 0, .string ⟨#[]⟩] 24) = W0 at *
  have D1 := Lib.hid D
  clear D
  go_enter Try.func25, Try.ntmps25
  go_upto_region 1 with fail
  try rw [hW]
  clear hW
  go_wp2_with fail
  (with_reducible refine C1.out.mono ?_); rintro e w2 ⟨rfl, hk2, hg2⟩
  have X2 := Ld.out.1.grown hg2 (by simpa using n1)
  have ⟨y0, y1, y2, y3, y4, y5, y6⟩ := (X2.keep (below_a1 w2 (.cells #[.int .i64 a.k, .int .i64 a.n, .float .f64 a.f, .string a.s] 24))).at
  have V2 := Lib.hid ((Ld.out.2.grownR hg2 (by simpa using n2)).keep (below_a1 w2 (.cells #[.int .i64 a.k, .int .i64 a.n, .float .f64 a.f, .string a.s] 24)))
  have K2 := Lib.hid (hk2.keep (below_a1 w2 (.cells #[.int .i64 a.k, .int .i64 a.n, .float .f64 a.f, .string a.s] 24)))
  have G2 := Lib.hid (grown_trans (grown_trans (grown_of_below _ c0) hg2) (World.grownBy_alloc w2 (.cells #[.int .i64 a.k, .int .i64 a.n, .float .f64 a.f, .string a.s] 24) (some R)))
  have HS := hg2.size
  have HC := c0.size
  have ⟨a0, a1, a2, a3⟩ := lies_new w2 (.int .i64 a.k) (.int .i64 a.n) (.float .f64 a.f) (.string a.s) 24
  clear X2 hk2
  generalize hW2 : w2.alloc (.cells #[.int .i64 a.k, .int .i64 a.n, .float .f64 a.f, .string a.s] 24) = W5 at *
  go_upto_region 7 with fail
  try rw [hW2]
  clear hW2
  go_wp2_with fail
  (with_reducible refine (D1.out _).mono ?_); rintro e w3 ⟨rfl, hb3⟩
  have V3 := Lib.hid (V2.out.keep hb3)
  have K3 := Lib.hid (K2.out.keep hb3)
  have G3 := Lib.hid (grown_trans G2.out (grown_of_below (some R) hb3))
  go_wp2_with (refine wpList_store_v u rfl _ _ rfl rfl rfl V3.out rfl ?_)
  refine ret_v rfl rfl rfl (V3.out.set (vcs u)).lies ?_
  exact ⟨rfl, K3.out.row n2 _, grown_row G3.out (by omega) _⟩
set_option maxHeartbeats 1000000 in
theorem value_one_bad (R : Nat) (nm : ByteArray) (vv : Vl) (b o : Nat) (cap : Nat) (z : Xc) (v : Value) (o0 o1 : Bool) (a : Vl) (w : World) (hk : Kid w b o z) (hR : Rk w R v o0)
    (C : ∀ w1, Below w.heap.size w w1 → Rk w1 R v o0 → Calls Try.prog 25 #[.pointer (some ⟨R, 0, none⟩), xv z] w1 fun e w' => e = .returned (avl a) ∧ Rk w' R v o1 ∧ w1.grownBy w' (some R))
    (D : ∀ w1, Calls Try.prog 36 #[.string nm, avl a] w1 fun e w' => e = bad4 ∧ Below w1.heap.size w1 w') :
    Calls Try.prog 25 #[.pointer (some ⟨R, 0, none⟩), .agg #[.int .i64 3, .string nm, .int .i64 vv.k, .int .i64 vv.n, .float .f64 vv.f, .string vv.s, .slice (some ⟨b, o, none⟩) 1 cap]] w fun e w' => e = bad4 ∧ w.grownBy w' (some R) := by
  have hsf := run_store_float
  have Ld := Lib.hid (laid2 w 3 nm vv (some ⟨b, o, none⟩) 1 cap)
  have c0 := below_a2 w (.cells #[.int .i64 3, .string nm, .int .i64 vv.k, .int .i64 vv.n, .float .f64 vv.f, .string vv.s, .slice (some ⟨b, o, none⟩) 1 cap] 27) (.cells #[.int .i64 0, .int .i64 0, .float .f64 0, .string ⟨#[]⟩] 24)
  have n1 : w.heap.size ≠ R := by have := hR.lt; omega
  have n2 : w.heap.size + 1 ≠ R := by have := hR.lt; omega
  have ⟨p0, p1, p2, p3, p4, p5, p6⟩ := Ld.out.1.at
  have ⟨q0, q1, q2, q3, q4, q5, q6⟩ := hk.keep c0
  have C1 := Lib.hid (C _ c0 (hR.keep c0))
  have hl0 : (0 : Int) < (1 : Int) := by omega
  clear C
  generalize hW : (w.alloc (.cells #[.int .i64 3, .string nm, .int .i64 vv.k, .int .i64 vv.n, .float .f64 vv.f, .string vv.s, .slice (some ⟨b, o, none⟩) 1 cap] 27)).alloc (.cells #[.int .i64 0, .int .i64 0, .float .f64 0, .string ⟨#[]⟩] 24) = W0 at *
  have D1 := Lib.hid D
  clear D
  go_enter Try.func25, Try.ntmps25
  go_upto_region 1 with fail
  try rw [hW]
  clear hW
  go_wp2_with fail
  (with_reducible refine C1.out.mono ?_); rintro e w2 ⟨rfl, hk2, hg2⟩
  have X2 := Ld.out.1.grown hg2 (by simpa using n1)
  have ⟨y0, y1, y2, y3, y4, y5, y6⟩ := (X2.keep (below_a1 w2 (.cells #[.int .i64 a.k, .int .i64 a.n, .float .f64 a.f, .string a.s] 24))).at
  have V2 := Lib.hid ((Ld.out.2.grownR hg2 (by simpa using n2)).keep (below_a1 w2 (.cells #[.int .i64 a.k, .int .i64 a.n, .float .f64 a.f, .string a.s] 24)))
  have K2 := Lib.hid (hk2.keep (below_a1 w2 (.cells #[.int .i64 a.k, .int .i64 a.n, .float .f64 a.f, .string a.s] 24)))
  have G2 := Lib.hid (grown_trans (grown_trans (grown_of_below _ c0) hg2) (World.grownBy_alloc w2 (.cells #[.int .i64 a.k, .int .i64 a.n, .float .f64 a.f, .string a.s] 24) (some R)))
  have HS := hg2.size
  have HC := c0.size
  have ⟨a0, a1, a2, a3⟩ := lies_new w2 (.int .i64 a.k) (.int .i64 a.n) (.float .f64 a.f) (.string a.s) 24
  clear X2 hk2
  generalize hW2 : w2.alloc (.cells #[.int .i64 a.k, .int .i64 a.n, .float .f64 a.f, .string a.s] 24) = W5 at *
  go_upto_region 7 with fail
  try rw [hW2]
  clear hW2
  go_wp2_with fail
  (with_reducible refine (D1.out _).mono ?_); rintro e w3 ⟨rfl, hb3⟩
  exact ⟨rfl, rfl, grown_trans G2.out (grown_of_below (some R) hb3)⟩
theorem kp13 {W W2 : World} {B C5 b o r : Nat} {x0 x1 x2 x3 x4 x5 x6 x7 x8 x9 x10 x11 x12 : Value} (h : W.cell? ⟨B, 1, none⟩ = some x0 ∧ W.cell? ⟨B, 6, none⟩ = some x1 ∧ W.cell? ⟨C5, 0, none⟩ = some x2 ∧ W.cell? ⟨C5, 1, none⟩ = some x3 ∧ W.cell? ⟨C5, 2, none⟩ = some x4 ∧ W.cell? ⟨C5, 3, none⟩ = some x5 ∧ W.cell? ⟨b, o + 7, none⟩ = some x6 ∧ W.cell? ⟨b, o + 8, none⟩ = some x7 ∧ W.cell? ⟨b, o + 9, none⟩ = some x8 ∧ W.cell? ⟨b, o + 10, none⟩ = some x9 ∧ W.cell? ⟨b, o + 11, none⟩ = some x10 ∧ W.cell? ⟨b, o + 12, none⟩ = some x11 ∧ W.cell? ⟨b, o + 13, none⟩ = some x12) (g : W.grownBy W2 (some r)) (hB : B ≠ r) (hC : C5 ≠ r) (hb : b ≠ r) : W2.cell? ⟨B, 1, none⟩ = some x0 ∧ W2.cell? ⟨B, 6, none⟩ = some x1 ∧ W2.cell? ⟨C5, 0, none⟩ = some x2 ∧ W2.cell? ⟨C5, 1, none⟩ = some x3 ∧ W2.cell? ⟨C5, 2, none⟩ = some x4 ∧ W2.cell? ⟨C5, 3, none⟩ = some x5 ∧ W2.cell? ⟨b, o + 7, none⟩ = some x6 ∧ W2.cell? ⟨b, o + 8, none⟩ = some x7 ∧ W2.cell? ⟨b, o + 9, none⟩ = some x8 ∧ W2.cell? ⟨b, o + 10, none⟩ = some x9 ∧ W2.cell? ⟨b, o + 11, none⟩ = some x10 ∧ W2.cell? ⟨b, o + 12, none⟩ = some x11 ∧ W2.cell? ⟨b, o + 13, none⟩ = some x12 :=
  have hB : some B ≠ some r := by simpa using hB
  have hC : some C5 ≠ some r := by simpa using hC
  have hb : some b ≠ some r := by simpa using hb
  ⟨g.cell h.1 hB, g.cell h.2.1 hB, g.cell h.2.2.1 hC, g.cell h.2.2.2.1 hC, g.cell h.2.2.2.2.1 hC, g.cell h.2.2.2.2.2.1 hC, g.cell h.2.2.2.2.2.2.1 hb, g.cell h.2.2.2.2.2.2.2.1 hb, g.cell h.2.2.2.2.2.2.2.2.1 hb, g.cell h.2.2.2.2.2.2.2.2.2.1 hb, g.cell h.2.2.2.2.2.2.2.2.2.2.1 hb, g.cell h.2.2.2.2.2.2.2.2.2.2.2.1 hb, g.cell h.2.2.2.2.2.2.2.2.2.2.2.2 hb⟩
theorem grown_set4 (W : World) (r : Nat) (v0 v1 v2 v3 : Value) : W.grownBy ((((W.setCell ⟨r, 0, none⟩ v0).setCell ⟨r, 1, none⟩ v1).setCell ⟨r, 2, none⟩ v2).setCell ⟨r, 3, none⟩ v3) (some r) := grown_trans (grown_trans (grown_trans (grown_set W r 0 v0) (grown_set _ r 1 v1)) (grown_set _ r 2 v2)) (grown_set _ r 3 v3)
theorem grown_put4 {w W : World} {r : Option Nat} (h : w.grownBy W r) {q : Nat} (hq : w.heap.size ≤ q) (v0 v1 v2 v3 : Value) : w.grownBy ((((W.setCell ⟨q, 0, none⟩ v0).setCell ⟨q, 1, none⟩ v1).setCell ⟨q, 2, none⟩ v2).setCell ⟨q, 3, none⟩ v3) r := by
  have g := grown_set4 W q v0 v1 v2 v3
  exact ⟨g.os.trans h.os, g.tape.trans h.tape, g.output.trans h.output, Nat.le_trans h.size g.size, fun k hk hr => (g.block k (Nat.lt_of_lt_of_le hk h.size) (by simp; omega)).trans (h.block k hk hr)⟩
theorem Rk.put4 {W : World} {R : Nat} {v : Value} {o : Bool} (h : Rk W R v o) {q : Nat} (hq : R ≠ q) (v0 v1 v2 v3 : Value) : Rk ((((W.setCell ⟨q, 0, none⟩ v0).setCell ⟨q, 1, none⟩ v1).setCell ⟨q, 2, none⟩ v2).setCell ⟨q, 3, none⟩ v3) R v o := by
  have g := grown_set4 W q v0 v1 v2 v3
  have hq' : some R ≠ some q := by simpa using hq
  exact ⟨g.cell h.c0 hq', g.cell h.c1 hq', (World.frozen?_of_block (a := ⟨R, 1, none⟩) (g.block R h.lt hq')).trans h.f1⟩
set_option maxHeartbeats 2000000 in
set_option maxRecDepth 100000 in
theorem value_two_ok (R : Nat) (nm : ByteArray) (vv : Vl) (b o : Nat) (cap : Nat) (z z2 : Xc) (v : Value) (o0 o1 o2 o3 : Bool) (a a2 u : Vl) (w : World) (hk : Kid w b o z) (hk2 : Kid w b (o + 7) z2) (hR : Rk w R v o0) (hbR : b ≠ R)
    (C : ∀ w1, Below w.heap.size w w1 → Rk w1 R v o0 → Calls Try.prog 25 #[.pointer (some ⟨R, 0, none⟩), xv z] w1 fun e w' => e = .returned (avl a) ∧ Rk w' R v o1 ∧ w1.grownBy w' (some R))
    (C2 : ∀ w1, w.grownBy w1 (some R) → Rk w1 R v o1 → Calls Try.prog 25 #[.pointer (some ⟨R, 0, none⟩), xv z2] w1 fun e w' => e = .returned (avl a2) ∧ Rk w' R v o2 ∧ w1.grownBy w' (some R))
    (D2 : ∀ w1, Rk w1 R v o2 → Calls Try.prog 37 #[.pointer (some ⟨R, 0, none⟩), .string nm, avl a, avl a2] w1 fun e w' => e = .returned (avl u) ∧ Rk w' R v o3 ∧ w1.grownBy w' (some R)) :
    Calls Try.prog 25 #[.pointer (some ⟨R, 0, none⟩), .agg #[.int .i64 3, .string nm, .int .i64 vv.k, .int .i64 vv.n, .float .f64 vv.f, .string vv.s, .slice (some ⟨b, o, none⟩) 2 cap]] w fun e w' => e = .returned (avl u) ∧ Rk w' R v o3 ∧ w.grownBy w' (some R) := by
  have hsf := run_store_float
  have Ld := Lib.hid (laid2 w 3 nm vv (some ⟨b, o, none⟩) 2 cap)
  have c0 := below_a2 w (.cells #[.int .i64 3, .string nm, .int .i64 vv.k, .int .i64 vv.n, .float .f64 vv.f, .string vv.s, .slice (some ⟨b, o, none⟩) 2 cap] 27) (.cells #[.int .i64 0, .int .i64 0, .float .f64 0, .string ⟨#[]⟩] 24)
  have n1 : w.heap.size ≠ R := by have := hR.lt; omega
  have n2 : w.heap.size + 1 ≠ R := by have := hR.lt; omega
  have ⟨p0, p1, p2, p3, p4, p5, p6⟩ := Ld.out.1.at
  have ⟨q0, q1, q2, q3, q4, q5, q6⟩ := hk.keep c0
  have HQ := Lib.hid (hk2.keep c0)
  have C1 := Lib.hid (C _ c0 (hR.keep c0))
  have hl0 : (0 : Int) < (2 : Int) := by omega
  clear C hk2
  generalize hW : (w.alloc (.cells #[.int .i64 3, .string nm, .int .i64 vv.k, .int .i64 vv.n, .float .f64 vv.f, .string vv.s, .slice (some ⟨b, o, none⟩) 2 cap] 27)).alloc (.cells #[.int .i64 0, .int .i64 0, .float .f64 0, .string ⟨#[]⟩] 24) = W0 at *
  have E1 := Lib.hid C2
  have D1 := Lib.hid D2
  clear C2 D2
  go_enter Try.func25, Try.ntmps25
  go_upto_region 1 with fail
  try rw [hW]
  clear hW
  go_wp2_with fail
  (with_reducible refine C1.out.mono ?_); rintro e w2 ⟨rfl, hr2, hg2⟩
  have X2 := Ld.out.1.grown hg2 (by simpa using n1)
  have ⟨y0, y1, y2, y3, y4, y5, y6⟩ := (X2.keep (below_a1 w2 (.cells #[.int .i64 a.k, .int .i64 a.n, .float .f64 a.f, .string a.s] 24))).at
  have V2 := Lib.hid ((Ld.out.2.grownR hg2 (by simpa using n2)).keep (below_a1 w2 (.cells #[.int .i64 a.k, .int .i64 a.n, .float .f64 a.f, .string a.s] 24)))
  have K2 := Lib.hid (hr2.keep (below_a1 w2 (.cells #[.int .i64 a.k, .int .i64 a.n, .float .f64 a.f, .string a.s] 24)))
  have G2 := Lib.hid (grown_trans (grown_trans (grown_of_below _ c0) hg2) (World.grownBy_alloc w2 (.cells #[.int .i64 a.k, .int .i64 a.n, .float .f64 a.f, .string a.s] 24) (some R)))
  have HS := hg2.size
  have HC := c0.size
  have ⟨a0, a1, a2', a3⟩ := lies_new w2 (.int .i64 a.k) (.int .i64 a.n) (.float .f64 a.f) (.string a.s) 24
  have Q2 := (HQ.out.grown hg2 (by simpa using hbR)).keep (below_a1 w2 (.cells #[.int .i64 a.k, .int .i64 a.n, .float .f64 a.f, .string a.s] 24))
  obtain ⟨s0, s1, s2, s3, s4, s5, s6⟩ := Q2
  simp only [Nat.add_assoc, Nat.reduceAdd] at s1 s2 s3 s4 s5 s6
  have hC5 : w2.heap.size ≠ R := by have := hr2.lt; omega
  have HC5 : W0.heap.size ≤ w2.heap.size := hg2.size
  clear hr2
  generalize hW2 : w2.alloc (.cells #[.int .i64 a.k, .int .i64 a.n, .float .f64 a.f, .string a.s] 24) = W5 at *
  go_upto_region 7 with fail
  try rw [hW2]
  clear hW2
  go_wp2_with fail
  have hS := Lib.hid (And.intro y1 (And.intro y6 (And.intro a0 (And.intro a1 (And.intro a2' (And.intro a3 (And.intro s0 (And.intro s1 (And.intro s2 (And.intro s3 (And.intro s4 (And.intro s5 s6))))))))))))
  have r0 := grown_of_below (some R) ((Below.refl W5.heap.size W5).drew)
  have K2d := Lib.hid (K2.out.keep ((Below.refl W5.heap.size W5).drew))
  have G2d := Lib.hid (grown_trans G2.out r0)
  go_region_held3 (fun W => W.cell? ⟨w.heap.size, 1, none⟩ = some (.string nm) ∧ W.cell? ⟨w.heap.size, 6, none⟩ = some (.slice (some ⟨b, o, none⟩) 2 cap) ∧ W.cell? ⟨w2.heap.size, 0, none⟩ = some (.int .i64 a.k) ∧ W.cell? ⟨w2.heap.size, 1, none⟩ = some (.int .i64 a.n) ∧ W.cell? ⟨w2.heap.size, 2, none⟩ = some (.float .f64 a.f) ∧ W.cell? ⟨w2.heap.size, 3, none⟩ = some (.string a.s) ∧ W.cell? ⟨b, o + 7, none⟩ = some (.int .i64 z2.kind) ∧ W.cell? ⟨b, o + 8, none⟩ = some (.string z2.name) ∧ W.cell? ⟨b, o + 9, none⟩ = some (.int .i64 z2.v.k) ∧ W.cell? ⟨b, o + 10, none⟩ = some (.int .i64 z2.v.n) ∧ W.cell? ⟨b, o + 11, none⟩ = some (.float .f64 z2.v.f) ∧ W.cell? ⟨b, o + 12, none⟩ = some (.string z2.v.s) ∧ W.cell? ⟨b, o + 13, none⟩ = some (.slice z2.ao z2.len z2.cap))
    (first | exact kp13 hS.out r0 n1 hC5 hbR | exact kp13 (kp13 hS.out r0 n1 hC5 hbR) g3 n1 hC5 hbR | exact kp13 (kp13 (kp13 hS.out r0 n1 hC5 hbR) g3 n1 hC5 hbR) g4 n1 hC5 hbR | exact kp13 (kp13 (kp13 (kp13 hS.out r0 n1 hC5 hbR) g3 n1 hC5 hbR) g4 n1 hC5 hbR) (grown_set4 _ (w.heap.size + 1) _ _ _ _) (by omega) (by have := Ld.out.2.lt; omega) (by have := hk.lt; omega))
    (first
      | ((with_reducible refine (E1.out _ G2d.out K2d.out).mono ?_); rintro e w3 ⟨rfl, k3, g3⟩)
      | ((with_reducible refine (D1.out _ k3).mono ?_); rintro e w4 ⟨rfl, k4, g4⟩; have V4 := ((V2.out.keep ((Below.refl W5.heap.size W5).drew)).grownR g3 (by simpa using n2)).grownR g4 (by simpa using n2); have ⟨⟨m0, m1, m2, m3⟩, f0, f1, f2, f3⟩ := V4.four))
  all_goals
    go_wp2_with fail
    exact ret_v rfl rfl rfl (Lies.set ⟨m0, m1, m2, m3⟩ _ _ _ _) ⟨rfl, k4.put4 (fun h => n2 h.symm) _ _ _ _, grown_put4 (grown_trans (grown_trans G2d.out g3) g4) (by omega) _ _ _ _⟩
set_option maxHeartbeats 2000000 in
set_option maxRecDepth 100000 in
theorem value_two_b (R : Nat) (nm : ByteArray) (vv : Vl) (b o : Nat) (cap : Nat) (z z2 : Xc) (v : Value) (o0 o1 : Bool) (a : Vl) (w : World) (hk : Kid w b o z) (hk2 : Kid w b (o + 7) z2) (hR : Rk w R v o0) (hbR : b ≠ R)
    (C : ∀ w1, Below w.heap.size w w1 → Rk w1 R v o0 → Calls Try.prog 25 #[.pointer (some ⟨R, 0, none⟩), xv z] w1 fun e w' => e = .returned (avl a) ∧ Rk w' R v o1 ∧ w1.grownBy w' (some R))
    (C2 : ∀ w1, w.grownBy w1 (some R) → Rk w1 R v o1 → Calls Try.prog 25 #[.pointer (some ⟨R, 0, none⟩), xv z2] w1 fun e w' => e = bad4 ∧ w1.grownBy w' (some R)) :
    Calls Try.prog 25 #[.pointer (some ⟨R, 0, none⟩), .agg #[.int .i64 3, .string nm, .int .i64 vv.k, .int .i64 vv.n, .float .f64 vv.f, .string vv.s, .slice (some ⟨b, o, none⟩) 2 cap]] w fun e w' => e = bad4 ∧ w.grownBy w' (some R) := by
  have hsf := run_store_float
  have Ld := Lib.hid (laid2 w 3 nm vv (some ⟨b, o, none⟩) 2 cap)
  have c0 := below_a2 w (.cells #[.int .i64 3, .string nm, .int .i64 vv.k, .int .i64 vv.n, .float .f64 vv.f, .string vv.s, .slice (some ⟨b, o, none⟩) 2 cap] 27) (.cells #[.int .i64 0, .int .i64 0, .float .f64 0, .string ⟨#[]⟩] 24)
  have n1 : w.heap.size ≠ R := by have := hR.lt; omega
  have n2 : w.heap.size + 1 ≠ R := by have := hR.lt; omega
  have ⟨p0, p1, p2, p3, p4, p5, p6⟩ := Ld.out.1.at
  have ⟨q0, q1, q2, q3, q4, q5, q6⟩ := hk.keep c0
  have HQ := Lib.hid (hk2.keep c0)
  have C1 := Lib.hid (C _ c0 (hR.keep c0))
  have hl0 : (0 : Int) < (2 : Int) := by omega
  clear C hk2
  generalize hW : (w.alloc (.cells #[.int .i64 3, .string nm, .int .i64 vv.k, .int .i64 vv.n, .float .f64 vv.f, .string vv.s, .slice (some ⟨b, o, none⟩) 2 cap] 27)).alloc (.cells #[.int .i64 0, .int .i64 0, .float .f64 0, .string ⟨#[]⟩] 24) = W0 at *
  have E1 := Lib.hid C2
  clear C2
  go_enter Try.func25, Try.ntmps25
  go_upto_region 1 with fail
  try rw [hW]
  clear hW
  go_wp2_with fail
  (with_reducible refine C1.out.mono ?_); rintro e w2 ⟨rfl, hr2, hg2⟩
  have X2 := Ld.out.1.grown hg2 (by simpa using n1)
  have ⟨y0, y1, y2, y3, y4, y5, y6⟩ := (X2.keep (below_a1 w2 (.cells #[.int .i64 a.k, .int .i64 a.n, .float .f64 a.f, .string a.s] 24))).at
  have V2 := Lib.hid ((Ld.out.2.grownR hg2 (by simpa using n2)).keep (below_a1 w2 (.cells #[.int .i64 a.k, .int .i64 a.n, .float .f64 a.f, .string a.s] 24)))
  have K2 := Lib.hid (hr2.keep (below_a1 w2 (.cells #[.int .i64 a.k, .int .i64 a.n, .float .f64 a.f, .string a.s] 24)))
  have G2 := Lib.hid (grown_trans (grown_trans (grown_of_below _ c0) hg2) (World.grownBy_alloc w2 (.cells #[.int .i64 a.k, .int .i64 a.n, .float .f64 a.f, .string a.s] 24) (some R)))
  have HS := hg2.size
  have HC := c0.size
  have ⟨a0, a1, a2', a3⟩ := lies_new w2 (.int .i64 a.k) (.int .i64 a.n) (.float .f64 a.f) (.string a.s) 24
  have Q2 := (HQ.out.grown hg2 (by simpa using hbR)).keep (below_a1 w2 (.cells #[.int .i64 a.k, .int .i64 a.n, .float .f64 a.f, .string a.s] 24))
  obtain ⟨s0, s1, s2, s3, s4, s5, s6⟩ := Q2
  simp only [Nat.add_assoc, Nat.reduceAdd] at s1 s2 s3 s4 s5 s6
  have hC5 : w2.heap.size ≠ R := by have := hr2.lt; omega
  have HC5 : W0.heap.size ≤ w2.heap.size := hg2.size
  clear hr2
  generalize hW2 : w2.alloc (.cells #[.int .i64 a.k, .int .i64 a.n, .float .f64 a.f, .string a.s] 24) = W5 at *
  go_upto_region 7 with fail
  try rw [hW2]
  clear hW2
  go_wp2_with fail
  have hS := Lib.hid (And.intro y1 (And.intro y6 (And.intro a0 (And.intro a1 (And.intro a2' (And.intro a3 (And.intro s0 (And.intro s1 (And.intro s2 (And.intro s3 (And.intro s4 (And.intro s5 s6))))))))))))
  have r0 := grown_of_below (some R) ((Below.refl W5.heap.size W5).drew)
  have K2d := Lib.hid (K2.out.keep ((Below.refl W5.heap.size W5).drew))
  have G2d := Lib.hid (grown_trans G2.out r0)
  refine wp_region_held_drew (S := fun W => W.cell? ⟨w.heap.size, 1, none⟩ = some (.string nm) ∧ W.cell? ⟨w.heap.size, 6, none⟩ = some (.slice (some ⟨b, o, none⟩) 2 cap) ∧ W.cell? ⟨w2.heap.size, 0, none⟩ = some (.int .i64 a.k) ∧ W.cell? ⟨w2.heap.size, 1, none⟩ = some (.int .i64 a.n) ∧ W.cell? ⟨w2.heap.size, 2, none⟩ = some (.float .f64 a.f) ∧ W.cell? ⟨w2.heap.size, 3, none⟩ = some (.string a.s) ∧ W.cell? ⟨b, o + 7, none⟩ = some (.int .i64 z2.kind) ∧ W.cell? ⟨b, o + 8, none⟩ = some (.string z2.name) ∧ W.cell? ⟨b, o + 9, none⟩ = some (.int .i64 z2.v.k) ∧ W.cell? ⟨b, o + 10, none⟩ = some (.int .i64 z2.v.n) ∧ W.cell? ⟨b, o + 11, none⟩ = some (.float .f64 z2.v.f) ∧ W.cell? ⟨b, o + 12, none⟩ = some (.string z2.v.s) ∧ W.cell? ⟨b, o + 13, none⟩ = some (.slice z2.ao z2.len z2.cap)) (by kernel_rfl) (kp13 hS.out r0 n1 hC5 hbR) (fun hHeld => ?_)
  refine wpAnyH_take (i := 0) (oi := { dst := some 32, op := _, type := _, pos := _, after := _, guard := _ }) (v := ?_) rfl (by kernel_rfl) (by kernel_rfl) (by kernel_rfl) (fun _ _ _ h => h) (Or.inl ⟨by rfl, ?_⟩) (by assumption) ?_
  rotate_left
  focus (intro W hSw; (try dsimp only at hSw); go_simp; try with_reducible rfl)
  try simp only [Act.put, List.setIfInBounds_toArray, List.set_cons_zero, List.set_cons_succ]
  refine wpAnyH_take (i := 1) (oi := { dst := some 33, op := _, type := _, pos := _, after := _, guard := _ }) (v := ?_) rfl (by kernel_rfl) (by kernel_rfl) (by kernel_rfl) (fun _ _ _ h => h) (Or.inl ⟨by rfl, ?_⟩) (by assumption) ?_
  rotate_left
  focus (intro W hSw; (try dsimp only at hSw); go_simp; try with_reducible rfl)
  try simp only [Act.put, List.setIfInBounds_toArray, List.set_cons_zero, List.set_cons_succ]
  refine wpAnyH_take (i := 2) (oi := { dst := some 34, op := _, type := _, pos := _, after := _, guard := _ }) (v := ?_) rfl (by kernel_rfl) (by kernel_rfl) (by kernel_rfl) (fun _ _ _ h => h) (Or.inl ⟨by rfl, ?_⟩) (by assumption) ?_
  rotate_left
  focus (intro W hSw; (try dsimp only at hSw); go_simp; try with_reducible rfl)
  try simp only [Act.put, List.setIfInBounds_toArray, List.set_cons_zero, List.set_cons_succ]
  refine wpAnyH_take (i := 3) (oi := { dst := some 35, op := _, type := _, pos := _, after := _, guard := _ }) (v := ?_) rfl (by kernel_rfl) (by kernel_rfl) (by kernel_rfl) (fun _ _ _ h => h) (Or.inl ⟨by rfl, ?_⟩) (by assumption) ?_
  rotate_left
  focus (intro W hSw; (try dsimp only at hSw); go_simp; try with_reducible rfl)
  try simp only [Act.put, List.setIfInBounds_toArray, List.set_cons_zero, List.set_cons_succ]
  refine wpAnyH_take (i := 4) (oi := { dst := some 36, op := _, type := _, pos := _, after := _, guard := _ }) (v := ?_) rfl (by kernel_rfl) (by kernel_rfl) (by kernel_rfl) (fun _ _ _ h => h) (Or.inl ⟨by rfl, ?_⟩) (by assumption) ?_
  rotate_left
  focus (intro W hSw; (try dsimp only at hSw); go_simp; try with_reducible rfl)
  try simp only [Act.put, List.setIfInBounds_toArray, List.set_cons_zero, List.set_cons_succ]
  refine wpAnyH_take (i := 5) (oi := { dst := some 37, op := _, type := _, pos := _, after := _, guard := _ }) (v := ?_) rfl (by kernel_rfl) (by kernel_rfl) (by kernel_rfl) (fun _ _ _ h => h) (Or.inl ⟨by rfl, ?_⟩) (by assumption) ?_
  rotate_left
  focus (intro W hSw; (try dsimp only at hSw); go_simp; try with_reducible rfl)
  try simp only [Act.put, List.setIfInBounds_toArray, List.set_cons_zero, List.set_cons_succ]
  refine wpAnyH_take (i := 6) (oi := { dst := some 38, op := _, type := _, pos := _, after := _, guard := _ }) (v := ?_) rfl (by kernel_rfl) (by kernel_rfl) (by kernel_rfl) (fun _ _ _ h => h) (Or.inl ⟨by rfl, ?_⟩) (by assumption) ?_
  rotate_left
  focus (intro W hSw; (try dsimp only at hSw); go_simp; try with_reducible rfl)
  try simp only [Act.put, List.setIfInBounds_toArray, List.set_cons_zero, List.set_cons_succ]
  refine wpAnyH_take (i := 7) (oi := { dst := some 39, op := _, type := _, pos := _, after := _, guard := _ }) (v := ?_) rfl (by kernel_rfl) (by kernel_rfl) (by kernel_rfl) (fun _ _ _ h => h) (Or.inl ⟨by rfl, ?_⟩) (by assumption) ?_
  rotate_left
  focus (intro W hSw; (try dsimp only at hSw); go_simp; try with_reducible rfl)
  try simp only [Act.put, List.setIfInBounds_toArray, List.set_cons_zero, List.set_cons_succ]
  refine wpAnyH_take (i := 8) (oi := { dst := some 40, op := _, type := _, pos := _, after := _, guard := _ }) (v := ?_) rfl (by kernel_rfl) (by kernel_rfl) (by kernel_rfl) (fun _ _ _ h => h) (Or.inl ⟨by rfl, ?_⟩) (by assumption) ?_
  rotate_left
  focus (intro W hSw; (try dsimp only at hSw); go_simp; try with_reducible rfl)
  try simp only [Act.put, List.setIfInBounds_toArray, List.set_cons_zero, List.set_cons_succ]
  refine wpAnyH_ready (rs := [9]) (by kernel_rfl) (by simp) ?_
  refine AllReadyH.cons (o := _) rfl (fun K hK => ?_) AllReadyH.nil
  go_simp
  (with_reducible refine (E1.out _ G2d.out K2d.out).mono ?_); rintro e w3 ⟨rfl, g3⟩
  exact ⟨rfl, rfl, grown_trans G2d.out g3⟩
set_option maxHeartbeats 2000000 in
set_option maxRecDepth 100000 in
theorem value_two_bad (R : Nat) (nm : ByteArray) (vv : Vl) (b o : Nat) (cap : Nat) (z z2 : Xc) (v : Value) (o0 o1 o2 : Bool) (a a2 : Vl) (w : World) (hk : Kid w b o z) (hk2 : Kid w b (o + 7) z2) (hR : Rk w R v o0) (hbR : b ≠ R)
    (C : ∀ w1, Below w.heap.size w w1 → Rk w1 R v o0 → Calls Try.prog 25 #[.pointer (some ⟨R, 0, none⟩), xv z] w1 fun e w' => e = .returned (avl a) ∧ Rk w' R v o1 ∧ w1.grownBy w' (some R))
    (C2 : ∀ w1, w.grownBy w1 (some R) → Rk w1 R v o1 → Calls Try.prog 25 #[.pointer (some ⟨R, 0, none⟩), xv z2] w1 fun e w' => e = .returned (avl a2) ∧ Rk w' R v o2 ∧ w1.grownBy w' (some R))
    (D2 : ∀ w1, Rk w1 R v o2 → Calls Try.prog 37 #[.pointer (some ⟨R, 0, none⟩), .string nm, avl a, avl a2] w1 fun e w' => e = bad4 ∧ w1.grownBy w' (some R)) :
    Calls Try.prog 25 #[.pointer (some ⟨R, 0, none⟩), .agg #[.int .i64 3, .string nm, .int .i64 vv.k, .int .i64 vv.n, .float .f64 vv.f, .string vv.s, .slice (some ⟨b, o, none⟩) 2 cap]] w fun e w' => e = bad4 ∧ w.grownBy w' (some R) := by
  have hsf := run_store_float
  have Ld := Lib.hid (laid2 w 3 nm vv (some ⟨b, o, none⟩) 2 cap)
  have c0 := below_a2 w (.cells #[.int .i64 3, .string nm, .int .i64 vv.k, .int .i64 vv.n, .float .f64 vv.f, .string vv.s, .slice (some ⟨b, o, none⟩) 2 cap] 27) (.cells #[.int .i64 0, .int .i64 0, .float .f64 0, .string ⟨#[]⟩] 24)
  have n1 : w.heap.size ≠ R := by have := hR.lt; omega
  have n2 : w.heap.size + 1 ≠ R := by have := hR.lt; omega
  have ⟨p0, p1, p2, p3, p4, p5, p6⟩ := Ld.out.1.at
  have ⟨q0, q1, q2, q3, q4, q5, q6⟩ := hk.keep c0
  have HQ := Lib.hid (hk2.keep c0)
  have C1 := Lib.hid (C _ c0 (hR.keep c0))
  have hl0 : (0 : Int) < (2 : Int) := by omega
  clear C hk2
  generalize hW : (w.alloc (.cells #[.int .i64 3, .string nm, .int .i64 vv.k, .int .i64 vv.n, .float .f64 vv.f, .string vv.s, .slice (some ⟨b, o, none⟩) 2 cap] 27)).alloc (.cells #[.int .i64 0, .int .i64 0, .float .f64 0, .string ⟨#[]⟩] 24) = W0 at *
  have E1 := Lib.hid C2
  have D1 := Lib.hid D2
  clear C2 D2
  go_enter Try.func25, Try.ntmps25
  go_upto_region 1 with fail
  try rw [hW]
  clear hW
  go_wp2_with fail
  (with_reducible refine C1.out.mono ?_); rintro e w2 ⟨rfl, hr2, hg2⟩
  have X2 := Ld.out.1.grown hg2 (by simpa using n1)
  have ⟨y0, y1, y2, y3, y4, y5, y6⟩ := (X2.keep (below_a1 w2 (.cells #[.int .i64 a.k, .int .i64 a.n, .float .f64 a.f, .string a.s] 24))).at
  have V2 := Lib.hid ((Ld.out.2.grownR hg2 (by simpa using n2)).keep (below_a1 w2 (.cells #[.int .i64 a.k, .int .i64 a.n, .float .f64 a.f, .string a.s] 24)))
  have K2 := Lib.hid (hr2.keep (below_a1 w2 (.cells #[.int .i64 a.k, .int .i64 a.n, .float .f64 a.f, .string a.s] 24)))
  have G2 := Lib.hid (grown_trans (grown_trans (grown_of_below _ c0) hg2) (World.grownBy_alloc w2 (.cells #[.int .i64 a.k, .int .i64 a.n, .float .f64 a.f, .string a.s] 24) (some R)))
  have HS := hg2.size
  have HC := c0.size
  have ⟨a0, a1, a2', a3⟩ := lies_new w2 (.int .i64 a.k) (.int .i64 a.n) (.float .f64 a.f) (.string a.s) 24
  have Q2 := (HQ.out.grown hg2 (by simpa using hbR)).keep (below_a1 w2 (.cells #[.int .i64 a.k, .int .i64 a.n, .float .f64 a.f, .string a.s] 24))
  obtain ⟨s0, s1, s2, s3, s4, s5, s6⟩ := Q2
  simp only [Nat.add_assoc, Nat.reduceAdd] at s1 s2 s3 s4 s5 s6
  have hC5 : w2.heap.size ≠ R := by have := hr2.lt; omega
  have HC5 : W0.heap.size ≤ w2.heap.size := hg2.size
  clear hr2
  generalize hW2 : w2.alloc (.cells #[.int .i64 a.k, .int .i64 a.n, .float .f64 a.f, .string a.s] 24) = W5 at *
  go_upto_region 7 with fail
  try rw [hW2]
  clear hW2
  go_wp2_with fail
  have hS := Lib.hid (And.intro y1 (And.intro y6 (And.intro a0 (And.intro a1 (And.intro a2' (And.intro a3 (And.intro s0 (And.intro s1 (And.intro s2 (And.intro s3 (And.intro s4 (And.intro s5 s6))))))))))))
  have r0 := grown_of_below (some R) ((Below.refl W5.heap.size W5).drew)
  have K2d := Lib.hid (K2.out.keep ((Below.refl W5.heap.size W5).drew))
  have G2d := Lib.hid (grown_trans G2.out r0)
  refine wp_region_held_drew (S := fun W => W.cell? ⟨w.heap.size, 1, none⟩ = some (.string nm) ∧ W.cell? ⟨w.heap.size, 6, none⟩ = some (.slice (some ⟨b, o, none⟩) 2 cap) ∧ W.cell? ⟨w2.heap.size, 0, none⟩ = some (.int .i64 a.k) ∧ W.cell? ⟨w2.heap.size, 1, none⟩ = some (.int .i64 a.n) ∧ W.cell? ⟨w2.heap.size, 2, none⟩ = some (.float .f64 a.f) ∧ W.cell? ⟨w2.heap.size, 3, none⟩ = some (.string a.s) ∧ W.cell? ⟨b, o + 7, none⟩ = some (.int .i64 z2.kind) ∧ W.cell? ⟨b, o + 8, none⟩ = some (.string z2.name) ∧ W.cell? ⟨b, o + 9, none⟩ = some (.int .i64 z2.v.k) ∧ W.cell? ⟨b, o + 10, none⟩ = some (.int .i64 z2.v.n) ∧ W.cell? ⟨b, o + 11, none⟩ = some (.float .f64 z2.v.f) ∧ W.cell? ⟨b, o + 12, none⟩ = some (.string z2.v.s) ∧ W.cell? ⟨b, o + 13, none⟩ = some (.slice z2.ao z2.len z2.cap)) (by kernel_rfl) (kp13 hS.out r0 n1 hC5 hbR) (fun hHeld => ?_)
  refine wpAnyH_take (i := 0) (oi := { dst := some 32, op := _, type := _, pos := _, after := _, guard := _ }) (v := ?_) rfl (by kernel_rfl) (by kernel_rfl) (by kernel_rfl) (fun _ _ _ h => h) (Or.inl ⟨by rfl, ?_⟩) (by assumption) ?_
  rotate_left
  focus (intro W hSw; (try dsimp only at hSw); go_simp; try with_reducible rfl)
  try simp only [Act.put, List.setIfInBounds_toArray, List.set_cons_zero, List.set_cons_succ]
  refine wpAnyH_take (i := 1) (oi := { dst := some 33, op := _, type := _, pos := _, after := _, guard := _ }) (v := ?_) rfl (by kernel_rfl) (by kernel_rfl) (by kernel_rfl) (fun _ _ _ h => h) (Or.inl ⟨by rfl, ?_⟩) (by assumption) ?_
  rotate_left
  focus (intro W hSw; (try dsimp only at hSw); go_simp; try with_reducible rfl)
  try simp only [Act.put, List.setIfInBounds_toArray, List.set_cons_zero, List.set_cons_succ]
  refine wpAnyH_take (i := 2) (oi := { dst := some 34, op := _, type := _, pos := _, after := _, guard := _ }) (v := ?_) rfl (by kernel_rfl) (by kernel_rfl) (by kernel_rfl) (fun _ _ _ h => h) (Or.inl ⟨by rfl, ?_⟩) (by assumption) ?_
  rotate_left
  focus (intro W hSw; (try dsimp only at hSw); go_simp; try with_reducible rfl)
  try simp only [Act.put, List.setIfInBounds_toArray, List.set_cons_zero, List.set_cons_succ]
  refine wpAnyH_take (i := 3) (oi := { dst := some 35, op := _, type := _, pos := _, after := _, guard := _ }) (v := ?_) rfl (by kernel_rfl) (by kernel_rfl) (by kernel_rfl) (fun _ _ _ h => h) (Or.inl ⟨by rfl, ?_⟩) (by assumption) ?_
  rotate_left
  focus (intro W hSw; (try dsimp only at hSw); go_simp; try with_reducible rfl)
  try simp only [Act.put, List.setIfInBounds_toArray, List.set_cons_zero, List.set_cons_succ]
  refine wpAnyH_take (i := 4) (oi := { dst := some 36, op := _, type := _, pos := _, after := _, guard := _ }) (v := ?_) rfl (by kernel_rfl) (by kernel_rfl) (by kernel_rfl) (fun _ _ _ h => h) (Or.inl ⟨by rfl, ?_⟩) (by assumption) ?_
  rotate_left
  focus (intro W hSw; (try dsimp only at hSw); go_simp; try with_reducible rfl)
  try simp only [Act.put, List.setIfInBounds_toArray, List.set_cons_zero, List.set_cons_succ]
  refine wpAnyH_take (i := 5) (oi := { dst := some 37, op := _, type := _, pos := _, after := _, guard := _ }) (v := ?_) rfl (by kernel_rfl) (by kernel_rfl) (by kernel_rfl) (fun _ _ _ h => h) (Or.inl ⟨by rfl, ?_⟩) (by assumption) ?_
  rotate_left
  focus (intro W hSw; (try dsimp only at hSw); go_simp; try with_reducible rfl)
  try simp only [Act.put, List.setIfInBounds_toArray, List.set_cons_zero, List.set_cons_succ]
  refine wpAnyH_take (i := 6) (oi := { dst := some 38, op := _, type := _, pos := _, after := _, guard := _ }) (v := ?_) rfl (by kernel_rfl) (by kernel_rfl) (by kernel_rfl) (fun _ _ _ h => h) (Or.inl ⟨by rfl, ?_⟩) (by assumption) ?_
  rotate_left
  focus (intro W hSw; (try dsimp only at hSw); go_simp; try with_reducible rfl)
  try simp only [Act.put, List.setIfInBounds_toArray, List.set_cons_zero, List.set_cons_succ]
  refine wpAnyH_take (i := 7) (oi := { dst := some 39, op := _, type := _, pos := _, after := _, guard := _ }) (v := ?_) rfl (by kernel_rfl) (by kernel_rfl) (by kernel_rfl) (fun _ _ _ h => h) (Or.inl ⟨by rfl, ?_⟩) (by assumption) ?_
  rotate_left
  focus (intro W hSw; (try dsimp only at hSw); go_simp; try with_reducible rfl)
  try simp only [Act.put, List.setIfInBounds_toArray, List.set_cons_zero, List.set_cons_succ]
  refine wpAnyH_take (i := 8) (oi := { dst := some 40, op := _, type := _, pos := _, after := _, guard := _ }) (v := ?_) rfl (by kernel_rfl) (by kernel_rfl) (by kernel_rfl) (fun _ _ _ h => h) (Or.inl ⟨by rfl, ?_⟩) (by assumption) ?_
  rotate_left
  focus (intro W hSw; (try dsimp only at hSw); go_simp; try with_reducible rfl)
  try simp only [Act.put, List.setIfInBounds_toArray, List.set_cons_zero, List.set_cons_succ]
  refine wpAnyH_ready (rs := [9]) (by kernel_rfl) (by simp) ?_
  refine AllReadyH.cons (o := _) rfl (fun K hK => ?_) AllReadyH.nil
  go_simp
  (with_reducible refine (E1.out _ G2d.out K2d.out).mono ?_); rintro e w3 ⟨rfl, k3, g3⟩
  try go_wp2_with fail
  refine hK.out _ _ (kp13 (kp13 hS.out r0 n1 hC5 hbR) g3 n1 hC5 hbR) (fun hHeld => ?_)
  clear hK K
  try simp only [Act.put, List.setIfInBounds_toArray, List.set_cons_zero, List.set_cons_succ]
  refine wpAnyH_ready (rs := [10]) (by kernel_rfl) (by simp) ?_
  refine AllReadyH.cons (o := _) rfl (fun K hK => ?_) AllReadyH.nil
  go_simp
  (with_reducible refine (D1.out _ k3).mono ?_); rintro e w4 ⟨rfl, g4⟩
  exact ⟨rfl, rfl, grown_trans (grown_trans G2d.out g3) g4⟩
end Go.Proofs.Ytfhnjilflffdfaa
