import Derived.Test.YtfhnjilflffdfaaEDd
namespace Go.Proofs.Ytfhnjilflffdfaa
open Go Go.RowKit
set_option linter.unusedVariables false
abbrev avl (v : Vl) : Value := .agg #[.int .i64 v.k, .int .i64 v.n, .float .f64 v.f, .string v.s]
/-- what is thrown: a wrong type -/
abbrev bad4 : Ending := .panicked [{ v := .iface 32 (.int .i64 4), recovered := false }]
abbrev vcs (v : Vl) : Array Value := #[.int .i64 v.k, .int .i64 v.n, .float .f64 v.f, .string v.s]
theorem vcs_all (v : Vl) : (vcs v).all (·.oneCell') = true := by simp [vcs, Value.oneCell']
theorem size_v : (Try.prog.info? 24).map (·.size) = some 4 := by kernel_rfl
/-- a value stored into a variable of its own -/
theorem wpList_store_v {ops : Array Oper} {rest : List Oper} {o : Oper} {a : Act} {w : World} {Q : Exit → Act → World → Prop} (v : Vl) (hgd : o.guard = none) (p y : Operand) (ho : o.op = .store 24 p y)
    {b : Nat} (hp : a.eval p = .pointer (some ⟨b, 0, none⟩)) (hy : a.eval y = avl v) {old : Array Value} (hv : Vr w b 24 old) (hold : old.size = 4)
    (h : wpList Try.prog ops Q rest (a.put o.dst undef) (w.setRow b (vcs v))) : wpList Try.prog ops Q (o :: rest) a w :=
  wpList_store_row hgd _ p y ho b (vcs v) hp hy _ old hv size_v hold (vcs_all v) h
theorem Vr.lies {w : World} {b : Nat} {e : TypeId} {v0 v1 v2 v3 : Value} (h : Vr w b e #[v0, v1, v2, v3]) : Lies w b v0 v1 v2 v3 := ⟨h.cell 0, h.cell 1, h.cell 2, h.cell 3⟩
theorem Vr.frozen {w : World} {b : Nat} {e : TypeId} {cs : Array Value} (h : Vr w b e cs) (j : Nat) : w.frozen? ⟨b, j, none⟩ = false := by simp [World.frozen?, show w.heap[b]? = _ from h]
theorem grown_of_below {w w' : World} (r : Option Nat) (h : Below w.heap.size w w') : w.grownBy w' r := ⟨h.os, h.tape, h.output, h.size, fun i hi _ => h.block i hi⟩
theorem grown_refl (w : World) (r : Option Nat) : w.grownBy w r := grown_of_below _ (Below.refl _ _)
theorem Vr.grownR {w w' : World} {b : Nat} {e : TypeId} {cs : Array Value} {r : Option Nat} (h : Vr w b e cs) (hg : w.grownBy w' r) (hr : some b ≠ r) : Vr w' b e cs := (hg.block b h.lt hr).trans h
theorem grown_set (w : World) (p j : Nat) (v : Value) : w.grownBy (w.setCell ⟨p, j, none⟩ v) (some p) := by
  refine ⟨rfl, rfl, rfl, by simp [World.setCell], fun k hk hne => ?_⟩
  simp only [World.setCell, Array.getElem?_modify]
  rw [if_neg (fun e => hne (by simp [e]))]
/-- a new block of the frame's own may be set -/
theorem grown_row {w w' : World} {r : Option Nat} {b : Nat} (h : w.grownBy w' r) (hb : w.heap.size ≤ b) (cs : Array Value) : w.grownBy (w'.setRow b cs) r :=
  ⟨h.os, h.tape, h.output, by simpa [World.setRow] using h.size, fun k hk hr => (setRow_other w' b k cs (by omega)).trans (h.block k hk hr)⟩
/-- a reckoner: its properties, and whether something has overflowed -/
structure Rk (w : World) (R : Nat) (v : Value) (o : Bool) : Prop where
  c0 : w.cell? ⟨R, 0, none⟩ = some v
  c1 : w.cell? ⟨R, 1, none⟩ = some (.bool o)
  f1 : w.frozen? ⟨R, 1, none⟩ = false
theorem Rk.lt {w : World} {R : Nat} {v : Value} {o : Bool} (h : Rk w R v o) : R < w.heap.size := block_lt_of_cell h.c0
theorem Rk.keep {w w' : World} {R : Nat} {v : Value} {o : Bool} (h : Rk w R v o) (hb : Below w.heap.size w w') : Rk w' R v o :=
  ⟨(hb.cell h.lt).trans h.c0, (hb.cell h.lt).trans h.c1, (hb.frozen h.lt).trans h.f1⟩
theorem Rk.row {w : World} {R : Nat} {v : Value} {o : Bool} (h : Rk w R v o) {b : Nat} (hb : b ≠ R) (cs : Array Value) : Rk (w.setRow b cs) R v o := by
  have e := setRow_other w b R cs (fun h => hb h.symm)
  exact ⟨(World.cell?_of_block (a := ⟨R, 0, none⟩) e).trans h.c0, (World.cell?_of_block (a := ⟨R, 1, none⟩) e).trans h.c1, (World.frozen?_of_block (a := ⟨R, 1, none⟩) e).trans h.f1⟩
theorem Rk.set {w : World} {R : Nat} {v : Value} {o : Bool} (h : Rk w R v o) (p : Bool) : Rk (w.setCell ⟨R, 1, none⟩ (.bool p)) R v p :=
  ⟨by simp [go_sem, h.c0], by simp [go_sem, h.c1], by simp [go_sem, h.f1]⟩
theorem lies_new2 (w : World) (o : Obj) (a b c d : Value) (t : TypeId) : Lies ((w.alloc o).alloc (.cells #[a, b, c, d] t)) (w.heap.size + 1) a b c d := by
  have h := lies_new (w.alloc o) a b c d t
  have e : (w.alloc o).heap.size = w.heap.size + 1 := by simp
  rw [e] at h; exact h
theorem ofE_cases (k n : Int) : ofE k n = 0 ∨ ofE k n = 4 := by
  unfold ofE; split
  · exact .inl rfl
  · split
    · exact .inl rfl
    · split
      · exact .inl rfl
      · exact .inr rfl
theorem truth_ok (u : Vl) (h : u.ofE = 0) (w : World) : Calls Try.prog 46 #[avl u] w fun e w' => e = .returned (.int .i64 u.ofI) ∧ Below w.heap.size w w' := by
  have C := Lib.hid (of_any u.k u.n u.f u.s (w.alloc (.cells #[.int .i64 u.k, .int .i64 u.n, .float .f64 u.f, .string u.s] 24)))
  have c0 := below_a1 w (.cells #[.int .i64 u.k, .int .i64 u.n, .float .f64 u.f, .string u.s] 24)
  unfold Vl.ofE at h
  unfold Vl.ofI
  simp only [ofR, h] at C
  generalize ofI u.k u.n = I at *
  clear h
  go_enter Try.func46, Try.ntmps46
  go_wp2_with fail
  (with_reducible refine C.out.mono ?_); rintro e w2 ⟨rfl, hb2⟩
  go_wp2_with fail
  go_ret
  exact ⟨rfl, Below.chain c0 hb2⟩
theorem truth_bad (u : Vl) (h : ¬ u.ofE = 0) (w : World) : Calls Try.prog 46 #[avl u] w fun e w' => e = bad4 ∧ Below w.heap.size w w' := by
  have C := Lib.hid (of_any u.k u.n u.f u.s (w.alloc (.cells #[.int .i64 u.k, .int .i64 u.n, .float .f64 u.f, .string u.s] 24)))
  have c0 := below_a1 w (.cells #[.int .i64 u.k, .int .i64 u.n, .float .f64 u.f, .string u.s] 24)
  have h4 : ofE u.k u.n = 4 := (ofE_cases u.k u.n).resolve_left h
  simp only [ofR, h4] at C
  generalize ofI u.k u.n = I at *
  clear h h4
  go_enter Try.func46, Try.ntmps46
  go_wp2_with fail
  (with_reducible refine C.out.mono ?_); rintro e w2 ⟨rfl, hb2⟩
  go_wp2_with fail
  exact ⟨rfl, rfl, Below.chain c0 hb2⟩
theorem checked_ok (R : Nat) (u : Vl) (w : World) : Calls Try.prog 50 #[.pointer (some ⟨R, 0, none⟩), avl u, .int .i64 0] w fun e w' => e = .returned (avl u) ∧ Below w.heap.size w w' := by
  have hsf := run_store_float
  go_enter Try.func50, Try.ntmps50
  go_wp2_with fail
  refine ret_v rfl rfl rfl (lies_new2 _ _ _ _ _ _ _) ?_
  exact ⟨rfl, below_a2 _ _ _⟩
theorem checked_bad (R : Nat) (u : Vl) (w : World) : Calls Try.prog 50 #[.pointer (some ⟨R, 0, none⟩), avl u, .int .i64 4] w fun e w' => e = bad4 ∧ Below w.heap.size w w' := by
  go_enter Try.func50, Try.ntmps50
  go_wp2_with fail
  exact ⟨rfl, rfl, below_a2 _ _ _⟩
theorem checked_over (R : Nat) (v : Value) (o : Bool) (u : Vl) (w : World) (hR : Rk w R v o) : Calls Try.prog 50 #[.pointer (some ⟨R, 0, none⟩), avl u, .int .i64 7] w fun e w' => e = .returned (avl u) ∧ Rk w' R v true ∧ w.grownBy w' (some R) := by
  have hsf := run_store_float
  have c0 := below_a2 w (.cells #[.int .i64 u.k, .int .i64 u.n, .float .f64 u.f, .string u.s] 24) (.cells #[.int .i64 0, .int .i64 0, .float .f64 0, .string ⟨#[]⟩] 24)
  have hn1 : w.heap.size ≠ R := by have := hR.lt; omega
  have hn2 : w.heap.size + 1 ≠ R := by have := hR.lt; omega
  have hs : (w.alloc (.cells #[.int .i64 u.k, .int .i64 u.n, .float .f64 u.f, .string u.s] 24)).heap.size = w.heap.size + 1 := by simp
  have V1 := Lib.hid ((Vr.new w 24 (vcs u)).keep (below_a1 (w.alloc (.cells #[.int .i64 u.k, .int .i64 u.n, .float .f64 u.f, .string u.s] 24)) (.cells #[.int .i64 0, .int .i64 0, .float .f64 0, .string ⟨#[]⟩] 24)))
  have V2 := Lib.hid (Vr.new (w.alloc (.cells #[.int .i64 u.k, .int .i64 u.n, .float .f64 u.f, .string u.s] 24)) 24 #[.int .i64 0, .int .i64 0, .float .f64 0, .string ⟨#[]⟩])
  rw [hs] at V2
  have K := hR.keep c0
  have W := Lib.hid (grown_of_below (some R) c0)
  clear hR hs c0
  generalize hW : (w.alloc (.cells #[.int .i64 u.k, .int .i64 u.n, .float .f64 u.f, .string u.s] 24)).alloc (.cells #[.int .i64 0, .int .i64 0, .float .f64 0, .string ⟨#[]⟩] 24) = W0 at *
  obtain ⟨k0, k1, kf⟩ := K
  obtain ⟨q0, q1, q2, q3⟩ := ((V1.out.grownR (grown_set W0 R 1 (.bool true)) (by simpa using hn1))).lies
  have VB := Lib.hid (V2.out.grownR (grown_set W0 R 1 (.bool true)) (by simpa using hn2))
  have KB := Lib.hid ((Rk.mk k0 k1 kf).set true)
  have WB := Lib.hid (grown_trans W.out (grown_set W0 R 1 (.bool true)))
  go_enter Try.func50, Try.ntmps50
  go_upto_region 1 with fail
  try rw [hW]
  clear hW
  go_wp2_with (refine wpList_store_v u rfl _ _ rfl rfl rfl VB.out rfl ?_)
  refine ret_v rfl rfl rfl (VB.out.set (vcs u)).lies ?_
  exact ⟨rfl, KB.out.row hn2 _, grown_row WB.out (by omega) _⟩
end Go.Proofs.Ytfhnjilflffdfaa
