import Derived.Test.YtlnmjbheohkanaaK0
import Derived.Test.YtlnmjbheohkanaaGR
import Derived.Test.YtlnmjbheohkanaaET
import Derived.Laws.StructEq
namespace Go.Proofs.Ytlnmjbheohkanaa
open Go Go.RowKit
set_option linter.unusedVariables false
/-- an expression's own cells -/
structure Xc where
  kind : Int
  name : ByteArray
  v : Vl
  ao : Option Addr
  len : Nat
  cap : Nat
def encX : Enc Xc 7 where
  enc x := [.int .i64 x.kind, .string x.name, .int .i64 x.v.k, .int .i64 x.v.n, .float .f64 x.v.f, .string x.v.s, .slice x.ao x.len x.cap]
  len x := rfl
  one x u hu := by
    simp only [List.mem_cons, List.not_mem_nil, or_false] at hu
    rcases hu with rfl | rfl | rfl | rfl | rfl | rfl | rfl <;> rfl
theorem info_x : (Try.prog.info? 28).map (fun i => (i.zero, i.size, i.bytes)) = some (some (.agg #[.int .i64 0, .string ⟨#[]⟩, .int .i64 0, .int .i64 0, .float .f64 0, .string ⟨#[]⟩, .slice none 0 0]), 7, 88) := by kernel_rfl
abbrev OwX := Ow encX 28
abbrev RwX := Rw encX
/-- an expression's value -/
abbrev xv (x : Xc) : Value := .agg #[.int .i64 x.kind, .string x.name, .int .i64 x.v.k, .int .i64 x.v.n, .float .f64 x.v.f, .string x.v.s, .slice x.ao x.len x.cap]
/-- an expression in memory, by its own cells -/
def Tx (w : World) (t : Ex) (x : Xc) : Prop := Tr w t (encX.enc x)
theorem Tx.keep {w w' : World} {t : Ex} {x : Xc} (h : Tx w t x) (hb : Below w.heap.size w w') : Tx w' t x := Tr.keep h hb
/-- many of them -/
def Txs (w : World) (l : List Ex) (xs : List Xc) : Prop := l.length = xs.length ∧ ∀ i (h : i < l.length) (h' : i < xs.length), Tx w l[i] xs[i]
theorem Txs.keep {w w' : World} {l : List Ex} {xs : List Xc} (h : Txs w l xs) (hb : Below w.heap.size w w') : Txs w' l xs := ⟨h.1, fun i hi hi' => (h.2 i hi hi').keep hb⟩
theorem Txs.nil (w : World) : Txs w [] [] := ⟨rfl, fun i h => by simp at h⟩
theorem Txs.app {w : World} {l m : List Ex} {xs ys : List Xc} (h : Txs w l xs) (k : Txs w m ys) : Txs w (l ++ m) (xs ++ ys) := by
  refine ⟨by simp [h.1, k.1], fun i hi hi' => ?_⟩
  by_cases hl : i < l.length
  · have := h.2 i hl (by rw [← h.1]; exact hl)
    rw [List.getElem_append_left hl, List.getElem_append_left (by rw [← h.1]; exact hl)]; exact this
  · have hi2 : i < l.length + m.length := by simpa using hi
    rw [List.getElem_append_right (by omega), List.getElem_append_right (by rw [← h.1]; omega)]
    have := k.2 (i - l.length) (by omega) (by rw [← k.1]; omega)
    simpa [h.1] using this
theorem Txs.one {w : World} {t : Ex} {x : Xc} (h : Tx w t x) : Txs w [t] [x] := ⟨rfl, fun i hi hi' => by
  have : i = 0 := by simpa using hi
  subst this; exact h⟩
/-- an expression's cells are an expression's -/
theorem Tr.shape {w : World} {t : Ex} {cs : List Value} (h : Tr w t cs) : ∃ x : Xc, cs = encX.enc x := by
  cases h with
  | mk kind name v kids ao cap => exact ⟨⟨kind, name, v, ao, kids.length, cap⟩, rfl⟩
/-- an expression out of a slice of kids -/
theorem Tx.mk {w : World} {kind : Int} {name : ByteArray} {v : Vl} {kids : List Ex} {xs : List Xc} {ao : Option Addr} {len cap : Nat} (hv : v.Ok) (hr : RwX w (.slice ao len cap) xs) (hk : Txs w kids xs) : Tx w (.node kind name v kids) ⟨kind, name, v, ao, len, cap⟩ := by
  obtain ⟨ao', cap', he, h2, h3, h4, h5⟩ := hr
  cases he
  have e := hk.1
  have := Tr.mk (w := w) kind name v kids ao cap (fun i => if h : i < xs.length then encX.enc xs[i] else []) hv (by omega) h3 h4 (fun i hi => by
    obtain ⟨b, o, ha, hc⟩ := h5 i (by omega)
    refine ⟨b, o, ha, ?_, fun j hj => ?_⟩
    · rw [dif_pos (by omega)]; rfl
    · rw [dif_pos (by omega)]; exact hc j hj) (fun i hi => by rw [dif_pos (by omega)]; exact hk.2 i hi (by omega))
  rw [e] at this
  exact this
theorem zero_ok : Vl.Ok ⟨0, 0, 0, ⟨#[]⟩⟩ := ⟨by decide, by decide, by decide⟩
/-- the kids of an expression, as a slice -/
theorem Tx.inv {w : World} {kind : Int} {name : ByteArray} {v : Vl} {kids : List Ex} {x : Xc} (h : Tx w (.node kind name v kids) x) :
    x.kind = kind ∧ x.name = name ∧ x.v = v ∧ v.Ok ∧ ∃ xs, RwX w (.slice x.ao x.len x.cap) xs ∧ Txs w kids xs := by
  obtain ⟨k0, n0, ⟨a1, a2, a3, a4⟩, ao, len, cap⟩ := x
  have hi := Tr.inv h
  obtain ⟨ao', cap', he, hv, hcap, hm, hn, hk⟩ := hi
  simp only [encX, List.cons.injEq, Value.int.injEq, Value.string.injEq, Value.float.injEq, Value.slice.injEq, and_true, true_and] at he
  obtain ⟨rfl, rfl, e1, e2, e3, e4, rfl, rfl, rfl⟩ := he
  subst e1 e2 e3 e4
  refine ⟨rfl, rfl, rfl, hv, ?_⟩
  have key : ∀ i, i < kids.length → ∃ y : Xc, (∃ b o, ao = some ⟨b, o, none⟩ ∧ ∀ j, j < 7 → w.cell? ⟨b, o + i * 7 + j, none⟩ = (encX.enc y)[j]?) ∧ ∀ h : i < kids.length, Tx w kids[i] y := by
    intro i hi
    obtain ⟨b, o, c0, c1, c2, c3, c4, c5, c6, ha, q0, q1, q2, q3, q4, q5, q6, hT⟩ := hk i hi
    obtain ⟨y, hy⟩ := hT.shape
    refine ⟨y, ⟨b, o, ha, fun j hj => ?_⟩, fun _ => by unfold Tx; rw [← hy]; exact hT⟩
    rw [← hy]
    match j, hj with
    | 0, _ => exact q0
    | 1, _ => exact q1
    | 2, _ => exact q2
    | 3, _ => exact q3
    | 4, _ => exact q4
    | 5, _ => exact q5
    | 6, _ => exact q6
  obtain ⟨F, hF⟩ := @Go.Deep.choose_lt Xc ⟨⟨0, ⟨#[]⟩, default, none, 0, 0⟩⟩ _ _ key
  have hll : ((List.range kids.length).map F).length = kids.length := by simp
  refine ⟨(List.range kids.length).map F, ⟨ao, cap, by rw [hll], by omega, hm, hn, fun i hi => ?_⟩, ⟨hll.symm, fun i hi hi' => ?_⟩⟩
  · rw [hll] at hi
    have := (hF i hi).1
    simpa using this
  · have := (hF i hi).2 hi
    simpa using this
/-- seven cells of a variable -/
def Lies7 (w : World) (b : Nat) (x : Xc) : Prop := ∀ j, j < 7 → w.cell? ⟨b, j, none⟩ = (encX.enc x)[j]?
theorem load7 {w : World} {b : Nat} {x : Xc} (h : Lies7 w b x) : (loadVar 28 ⟨b, 0, none⟩).run Try.prog w = .ok (xv x) w := by
  have h0 : w.cell? ⟨b, 0, none⟩ = some (.int .i64 x.kind) := h 0 (by omega)
  have h1 : w.cell? ⟨b, 1, none⟩ = some (.string x.name) := h 1 (by omega)
  have h2 : w.cell? ⟨b, 2, none⟩ = some (.int .i64 x.v.k) := h 2 (by omega)
  have h3 : w.cell? ⟨b, 3, none⟩ = some (.int .i64 x.v.n) := h 3 (by omega)
  have h4 : w.cell? ⟨b, 4, none⟩ = some (.float .f64 x.v.f) := h 4 (by omega)
  have h5 : w.cell? ⟨b, 5, none⟩ = some (.string x.v.s) := h 5 (by omega)
  have h6 : w.cell? ⟨b, 6, none⟩ = some (.slice x.ao x.len x.cap) := h 6 (by omega)
  go_simp
theorem ret_x {fn : Func} {p : Tmp} {R : Ending → World → Prop} {a : Act} {w : World} {b : Nat} (x : Xc) (h : fn.results = #[.cell p 28]) (hp : a.tmps.getD p undef = .pointer (some ⟨b, 0, none⟩)) (hd : a.defers = [])
    (hc : Lies7 w b x) (hR : R (.returned (xv x)) w) : bodyPost Try.prog fn R .ret a w := by
  refine bodyPost_ret ?_ hd hR
  have hp' : a.tmps[p]?.getD undef = .pointer (some ⟨b, 0, none⟩) := by simpa using hp
  simp [results, h, hp', asAddr, load7 hc]
theorem lies7_new (w : World) (x : Xc) (t : TypeId) (cs : Array Value) (h : cs.toList = encX.enc x) : Lies7 (w.alloc (.cells cs t)) w.heap.size x := by
  intro j hj
  rw [cell_of_row _ w.heap.size j _ t _ (heap_alloc_new w _), ← Array.getElem?_toList, h]
theorem Lies7.at {w : World} {b : Nat} {x : Xc} (h : Lies7 w b x) : w.cell? ⟨b, 0, none⟩ = some (.int .i64 x.kind) ∧ w.cell? ⟨b, 1, none⟩ = some (.string x.name) ∧ w.cell? ⟨b, 2, none⟩ = some (.int .i64 x.v.k) ∧ w.cell? ⟨b, 3, none⟩ = some (.int .i64 x.v.n) ∧ w.cell? ⟨b, 4, none⟩ = some (.float .f64 x.v.f) ∧ w.cell? ⟨b, 5, none⟩ = some (.string x.v.s) ∧ w.cell? ⟨b, 6, none⟩ = some (.slice x.ao x.len x.cap) :=
  ⟨h 0 (by omega), h 1 (by omega), h 2 (by omega), h 3 (by omega), h 4 (by omega), h 5 (by omega), h 6 (by omega)⟩
theorem Lies7.mk' {w : World} {b : Nat} {x : Xc} (h0 : w.cell? ⟨b, 0, none⟩ = some (.int .i64 x.kind)) (h1 : w.cell? ⟨b, 1, none⟩ = some (.string x.name)) (h2 : w.cell? ⟨b, 2, none⟩ = some (.int .i64 x.v.k)) (h3 : w.cell? ⟨b, 3, none⟩ = some (.int .i64 x.v.n)) (h4 : w.cell? ⟨b, 4, none⟩ = some (.float .f64 x.v.f)) (h5 : w.cell? ⟨b, 5, none⟩ = some (.string x.v.s)) (h6 : w.cell? ⟨b, 6, none⟩ = some (.slice x.ao x.len x.cap)) : Lies7 w b x := by
  intro j hj
  match j, hj with
  | 0, _ => exact h0
  | 1, _ => exact h1
  | 2, _ => exact h2
  | 3, _ => exact h3
  | 4, _ => exact h4
  | 5, _ => exact h5
  | 6, _ => exact h6
theorem Lies7.keepB {w w' : World} {b B : Nat} {x : Xc} (h : Lies7 w b x) (hb : Below B w w') (hB : b < B) : Lies7 w' b x := fun j hj => (hb.cell (p := ⟨b, j, none⟩) hB).trans (h j hj)
theorem Lies7.lt {w : World} {b : Nat} {x : Xc} (h : Lies7 w b x) : b < w.heap.size := block_lt_of_cell h.at.1
theorem Lies7.keep {w w' : World} {b : Nat} {x : Xc} (h : Lies7 w b x) (hb : Below w.heap.size w w') : Lies7 w' b x := h.keepB hb h.lt
/-- a variable's block -/
def Vr (w : World) (b : Nat) (e : TypeId) (cs : Array Value) : Prop := w.heap[b]? = some (.cells cs e (0, 0))
theorem Vr.new (w : World) (e : TypeId) (cs : Array Value) : Vr (w.alloc (.cells cs e)) w.heap.size e cs := heap_alloc_new w _
theorem Vr.lt {w : World} {b : Nat} {e : TypeId} {cs : Array Value} (h : Vr w b e cs) : b < w.heap.size := (Array.getElem?_eq_some_iff.1 h).1
theorem Vr.keepB {w w' : World} {b B : Nat} {e : TypeId} {cs : Array Value} (h : Vr w b e cs) (hb : Below B w w') (hB : b < B) : Vr w' b e cs := (hb.block b hB).trans h
theorem Vr.keep {w w' : World} {b : Nat} {e : TypeId} {cs : Array Value} (h : Vr w b e cs) (hb : Below w.heap.size w w') : Vr w' b e cs := h.keepB hb h.lt
theorem Vr.set {w : World} {b : Nat} {e : TypeId} {cs : Array Value} (h : Vr w b e cs) (cs' : Array Value) : Vr (w.setRow b cs') b e cs' := setRow_heap w b cs cs' e _ h
theorem Vr.cell {w : World} {b : Nat} {e : TypeId} {cs : Array Value} (h : Vr w b e cs) (j : Nat) : w.cell? ⟨b, j, none⟩ = cs[j]? := cell_of_row w b j cs e _ h
theorem Vr.lies7 {w : World} {b : Nat} {e : TypeId} {cs : Array Value} {x : Xc} (h : Vr w b e cs) (hx : cs.toList = encX.enc x) : Lies7 w b x := fun j hj => by
  rw [h.cell j, ← Array.getElem?_toList, hx]
theorem below_setRow {n : Nat} {w w' : World} {b : Nat} (h : Below n w w') (hb : n ≤ b) (cs : Array Value) : Below n w (w'.setRow b cs) := by
  refine h.trans ?_
  exact ⟨rfl, rfl, rfl, by simp [World.setRow], fun k hk => setRow_other w' b k cs (by omega)⟩
theorem Ow.setRow {α : Type} {sz : Nat} {E : Enc α sz} {e : TypeId} {w : World} {base : Nat} {v : Value} {l : List α} (h : Ow E e w base v l) {b : Nat} (hb : v.ownBlock ≠ some b) (cs : Array Value) : Ow E e (w.setRow b cs) base v l := by
  refine ⟨h.1, ?_⟩
  rcases h.2 with h0 | ⟨g, cap, cur, rfl, hbg, hg, rest⟩
  · exact .inl h0
  · refine .inr ⟨g, cap, cur, rfl, hbg, ?_, rest⟩
    rw [setRow_other w b g cs (fun e => hb (by simp [Value.ownBlock, e]))]; exact hg
abbrev xcs (x : Xc) : Array Value := #[.int .i64 x.kind, .string x.name, .int .i64 x.v.k, .int .i64 x.v.n, .float .f64 x.v.f, .string x.v.s, .slice x.ao x.len x.cap]
theorem xcs_all (x : Xc) : (xcs x).all (·.oneCell') = true := by simp [xcs, Value.oneCell']
theorem size_x : (Try.prog.info? 28).map (·.size) = some 7 := by kernel_rfl
/-- an expression stored into a variable of its own -/
theorem wpList_store_x {ops : Array Oper} {rest : List Oper} {o : Oper} {a : Act} {w : World} {Q : Exit → Act → World → Prop} (x : Xc) (hgd : o.guard = none) (p y : Operand) (ho : o.op = .store 28 p y)
    {b : Nat} (hp : a.eval p = .pointer (some ⟨b, 0, none⟩)) (hy : a.eval y = xv x) {old : Array Value} (hv : Vr w b 28 old) (hold : old.size = 7)
    (h : wpList Try.prog ops Q rest (a.put o.dst undef) (w.setRow b (xcs x))) : wpList Try.prog ops Q (o :: rest) a w :=
  wpList_store_row hgd _ p y ho b (xcs x) hp hy _ old hv size_x hold (xcs_all x) h
theorem Vr.cells7 {w : World} {b : Nat} {e : TypeId} {x : Xc} (h : Vr w b e (xcs x)) : w.cell? ⟨b, 0, none⟩ = some (.int .i64 x.kind) ∧ w.cell? ⟨b, 1, none⟩ = some (.string x.name) ∧ w.cell? ⟨b, 2, none⟩ = some (.int .i64 x.v.k) ∧ w.cell? ⟨b, 3, none⟩ = some (.int .i64 x.v.n) ∧ w.cell? ⟨b, 4, none⟩ = some (.float .f64 x.v.f) ∧ w.cell? ⟨b, 5, none⟩ = some (.string x.v.s) ∧ w.cell? ⟨b, 6, none⟩ = some (.slice x.ao x.len x.cap) :=
  ⟨h.cell 0, h.cell 1, h.cell 2, h.cell 3, h.cell 4, h.cell 5, h.cell 6⟩
theorem Vr.thaw {w : World} {b : Nat} {e : TypeId} {cs : Array Value} (h : Vr w b e cs) (j : Nat) : w.frozen? ⟨b, j, none⟩ = false := by
  have h' : w.heap[b]? = some (.cells cs e (0, 0)) := h
  simp [World.frozen?, h']
theorem Vr.grown {w w' : World} {b : Nat} {e : TypeId} {cs : Array Value} {r : Option Nat} (h : Vr w b e cs) (hg : w.grownBy w' r) (hne : some b ≠ r) : Vr w' b e cs := (hg.block b h.lt hne).trans h
theorem Vr.at' (w : World) (e : TypeId) (cs : Array Value) (g : Nat) (hg : g = w.heap.size) : Vr (w.alloc (.cells cs e)) g e cs := by subst hg; exact Vr.new w e cs
theorem Vr.al {w : World} {b : Nat} {e : TypeId} {cs : Array Value} {o : Obj} (h : Vr w b e cs) : Vr (w.alloc o) b e cs := h.keep (below_a1 _ _)
theorem Vr.dr {w : World} {b : Nat} {e : TypeId} {cs : Array Value} (h : Vr w b e cs) : Vr w.drew b e cs := h
theorem bl_al {W w : World} {o : Obj} (h : Below W.heap.size W w) : Below W.heap.size W (w.alloc o) := h.alloc h.size o
theorem bl_dr {W w : World} (h : Below W.heap.size W w) : Below W.heap.size W w.drew := h.drew
theorem grown_of_below {w w' : World} (r : Option Nat) (h : Below w.heap.size w w') : w.grownBy w' r := ⟨h.os, h.tape, h.output, h.size, fun i hi _ => h.block i hi⟩
theorem grown_refl (w : World) (r : Option Nat) : w.grownBy w r := grown_of_below _ (Below.refl _ _)
theorem grown_set (w : World) (p j : Nat) (v : Value) : w.grownBy (w.setCell ⟨p, j, none⟩ v) (some p) := by
  refine ⟨rfl, rfl, rfl, by simp [World.setCell], fun k hk hne => ?_⟩
  simp only [World.setCell, Array.getElem?_modify]
  rw [if_neg (fun e => hne (by simp [e]))]
theorem grown_rowS (W : World) (b : Nat) (cs : Array Value) : W.grownBy (W.setRow b cs) (some b) := ⟨rfl, rfl, rfl, by simp [World.setRow], fun k hk hr => setRow_other W b k cs (fun e => hr (by simp [e]))⟩
/-- the cells of a kid -/
def Kid (w : World) (b o : Nat) (z : Xc) : Prop := w.cell? ⟨b, o, none⟩ = some (.int .i64 z.kind) ∧ w.cell? ⟨b, o + 1, none⟩ = some (.string z.name) ∧ w.cell? ⟨b, o + 2, none⟩ = some (.int .i64 z.v.k) ∧ w.cell? ⟨b, o + 3, none⟩ = some (.int .i64 z.v.n) ∧ w.cell? ⟨b, o + 4, none⟩ = some (.float .f64 z.v.f) ∧ w.cell? ⟨b, o + 5, none⟩ = some (.string z.v.s) ∧ w.cell? ⟨b, o + 6, none⟩ = some (.slice z.ao z.len z.cap)
theorem Kid.lt {w : World} {b o : Nat} {z : Xc} (h : Kid w b o z) : b < w.heap.size := block_lt_of_cell h.1
theorem Kid.keep {w w' : World} {b o : Nat} {z : Xc} (h : Kid w b o z) (hb : Below w.heap.size w w') : Kid w' b o z :=
  ⟨(hb.cell h.lt).trans h.1, (hb.cell h.lt).trans h.2.1, (hb.cell h.lt).trans h.2.2.1, (hb.cell h.lt).trans h.2.2.2.1, (hb.cell h.lt).trans h.2.2.2.2.1, (hb.cell h.lt).trans h.2.2.2.2.2.1, (hb.cell h.lt).trans h.2.2.2.2.2.2⟩
theorem feq0 (f : Nat) (hf : f < 18446744073709551616) (d : Nat) (w : World) : (Op.equalIn (d + 1) 23 (.float .f64 f) (.float .f64 0)).run Try.prog w = .ok (decide (f = 0 ∨ f = 9223372036854775808)) w := by
  simp [Op.equalIn, run_underlying Try.underlying23]
  show (FloatKind.f64.format.order f 0 == some Ordering.eq) = _
  rw [Flt.ord_eq hf (by decide)]
  have k0 : Flt.key 0 = 0 := by decide
  have n0 : Flt.isNan 0 = false := by decide
  rw [k0, n0]
  unfold Flt.isNan Flt.key Flt.rung
  rw [Bool.eq_iff_iff]
  simp
  split <;> omega
abbrev xcs2 (x y : Xc) : Array Value := #[.int .i64 x.kind, .string x.name, .int .i64 x.v.k, .int .i64 x.v.n, .float .f64 x.v.f, .string x.v.s, .slice x.ao x.len x.cap, .int .i64 y.kind, .string y.name, .int .i64 y.v.k, .int .i64 y.v.n, .float .f64 y.v.f, .string y.v.s, .slice y.ao y.len y.cap]
theorem ten (w : World) (x y : Xc) (t u : Ex) (hx : Tx w t x) (hy : Tx w u y) : RwX (w.alloc (.cells (xcs2 x y) 28)) (.slice (some ⟨w.heap.size, 0, none⟩) 2 2) [x, y] ∧ Txs (w.alloc (.cells (xcs2 x y) 28)) [t, u] [x, y] := by
  refine ⟨(Ow.lit (E := encX) (e := 28) w w.heap.size [x, y] (Nat.le_refl _) (by simp) _ rfl).rw, ?_⟩
  exact (Txs.app (Txs.one hx) (Txs.one hy)).keep (below_a1 _ _)
theorem Lies.keep {w w' : World} {b : Nat} {v0 v1 v2 v3 : Value} (h : Lies w b v0 v1 v2 v3) (hb : Below w.heap.size w w') : Lies w' b v0 v1 v2 v3 := h.below hb
theorem node_ok {w : World} {t : Ex} {x : Xc} (h : Tx w t x) : ∀ kind name v kids, t = .node kind name v kids → v.Ok := by
  rintro kind name v kids rfl
  exact h.inv.2.2.2.1
end Go.Proofs.Ytlnmjbheohkanaa
