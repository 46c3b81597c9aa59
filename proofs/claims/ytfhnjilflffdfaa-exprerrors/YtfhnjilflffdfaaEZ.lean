import Derived.Test.YtfhnjilflffdfaaEY
import Derived.Deep.RegionHeld3
import Derived.Deep.Cut
namespace Go.Proofs.Ytfhnjilflffdfaa
open Go Go.RowKit
set_option linter.unusedVariables false
theorem Vr.at' (w : World) (e : TypeId) (cs : Array Value) (g : Nat) (hg : g = w.heap.size) : Vr (w.alloc (.cells cs e)) g e cs := by subst hg; exact Vr.new w e cs
theorem Vr.al {w : World} {b : Nat} {e : TypeId} {cs : Array Value} {o : Obj} (h : Vr w b e cs) : Vr (w.alloc o) b e cs := h.keep (below_a1 _ _)
theorem Vr.dr {w : World} {b : Nat} {e : TypeId} {cs : Array Value} (h : Vr w b e cs) : Vr w.drew b e cs := h
theorem bl_al {W w : World} {o : Obj} (h : Below W.heap.size W w) : Below W.heap.size W (w.alloc o) := h.alloc h.size o
theorem bl_dr {W w : World} (h : Below W.heap.size W w) : Below W.heap.size W w.drew := h.drew
theorem Vr.rw1 {w : World} {g : Nat} {x : Xc} (h : Vr w g 27 (xcs x)) : RwX w (.slice (some ⟨g, 0, none⟩) 1 1) [x] :=
  ⟨some ⟨g, 0, none⟩, 1, rfl, Nat.le_refl _, by simp [maxLen], fun h => (by cases h), fun i hi => ⟨g, 0, rfl, fun j hj => by
    have : i = 0 := by simpa using hi
    subst this
    have := h.lies7 rfl j hj
    simpa using this⟩⟩
theorem Vr.rw2 {w : World} {g : Nat} {x y : Xc} (h : Vr w g 27 (xcs2 x y)) : RwX w (.slice (some ⟨g, 0, none⟩) 2 2) [x, y] :=
  ⟨some ⟨g, 0, none⟩, 2, rfl, Nat.le_refl _, by simp [maxLen], fun h => (by cases h), fun i hi => ⟨g, 0, rfl, fun j hj => by
    have hi2 : i < 2 := by simpa using hi
    have hc := h.cell (i * 7 + j)
    rw [Nat.zero_add, hc]
    match i, hi2 with
    | 0, _ => match j, hj with
      | 0, _ => rfl
      | 1, _ => rfl
      | 2, _ => rfl
      | 3, _ => rfl
      | 4, _ => rfl
      | 5, _ => rfl
      | 6, _ => rfl
    | 1, _ => match j, hj with
      | 0, _ => rfl
      | 1, _ => rfl
      | 2, _ => rfl
      | 3, _ => rfl
      | 4, _ => rfl
      | 5, _ => rfl
      | 6, _ => rfl⟩⟩
theorem op1 (s : ByteArray) (t : Ex) (x : Xc) (w : World) {g : Nat} (hv : Vr w g 27 (xcs x)) (h : Tx w t x) :
    Calls Try.prog 17 #[.string s, .slice (some ⟨g, 0, none⟩) 1 1] w fun e w' => ∃ y, e = .returned (xv y) ∧ Tx w' (opE s [t]) y ∧ Below w.heap.size w w' :=
  op_any s _ [t] [x] w hv.rw1 (Txs.one h) (by simp)
theorem op2 (s : ByteArray) (t u : Ex) (x y : Xc) (w : World) {g : Nat} (hv : Vr w g 27 (xcs2 x y)) (h : Tx w t x) (h' : Tx w u y) :
    Calls Try.prog 17 #[.string s, .slice (some ⟨g, 0, none⟩) 2 2] w fun e w' => ∃ y, e = .returned (xv y) ∧ Tx w' (opE s [t, u]) y ∧ Below w.heap.size w w' :=
  op_any s _ [t, u] [x, y] w hv.rw2 (Txs.app (Txs.one h) (Txs.one h')) (by simp)
theorem Vr.cells4 {w : World} {b : Nat} {e : TypeId} {v0 v1 v2 v3 : Value} (h : Vr w b e #[v0, v1, v2, v3]) : w.cell? ⟨b, 0, none⟩ = some v0 ∧ w.cell? ⟨b, 1, none⟩ = some v1 ∧ w.cell? ⟨b, 2, none⟩ = some v2 ∧ w.cell? ⟨b, 3, none⟩ = some v3 := ⟨h.cell 0, h.cell 1, h.cell 2, h.cell 3⟩
/-- fourteen cells, later -/
theorem k14 {W w : World} {b c : Nat} {x y : Xc} (h : Vr W b 27 (xcs x)) (k : Vr W c 27 (xcs y)) (hb : Below W.heap.size W w) :
    (w.cell? ⟨b, 0, none⟩ = some (.int .i64 x.kind) ∧ w.cell? ⟨b, 1, none⟩ = some (.string x.name) ∧ w.cell? ⟨b, 2, none⟩ = some (.int .i64 x.v.k) ∧ w.cell? ⟨b, 3, none⟩ = some (.int .i64 x.v.n) ∧ w.cell? ⟨b, 4, none⟩ = some (.float .f64 x.v.f) ∧ w.cell? ⟨b, 5, none⟩ = some (.string x.v.s) ∧ w.cell? ⟨b, 6, none⟩ = some (.slice x.ao x.len x.cap)) ∧
    w.cell? ⟨c, 0, none⟩ = some (.int .i64 y.kind) ∧ w.cell? ⟨c, 1, none⟩ = some (.string y.name) ∧ w.cell? ⟨c, 2, none⟩ = some (.int .i64 y.v.k) ∧ w.cell? ⟨c, 3, none⟩ = some (.int .i64 y.v.n) ∧ w.cell? ⟨c, 4, none⟩ = some (.float .f64 y.v.f) ∧ w.cell? ⟨c, 5, none⟩ = some (.string y.v.s) ∧ w.cell? ⟨c, 6, none⟩ = some (.slice y.ao y.len y.cap) :=
  ⟨(h.keep hb).cells7, (k.keep hb).cells7⟩
/-- seven cells, later -/
theorem k7 {W w : World} {b : Nat} {x : Xc} (h : Vr W b 27 (xcs x)) (hb : Below W.heap.size W w) :
    w.cell? ⟨b, 0, none⟩ = some (.int .i64 x.kind) ∧ w.cell? ⟨b, 1, none⟩ = some (.string x.name) ∧ w.cell? ⟨b, 2, none⟩ = some (.int .i64 x.v.k) ∧ w.cell? ⟨b, 3, none⟩ = some (.int .i64 x.v.n) ∧ w.cell? ⟨b, 4, none⟩ = some (.float .f64 x.v.f) ∧ w.cell? ⟨b, 5, none⟩ = some (.string x.v.s) ∧ w.cell? ⟨b, 6, none⟩ = some (.slice x.ao x.len x.cap) := (h.keep hb).cells7
end Go.Proofs.Ytfhnjilflffdfaa
