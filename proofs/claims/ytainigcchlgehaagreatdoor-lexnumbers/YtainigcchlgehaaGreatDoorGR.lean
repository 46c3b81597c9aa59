import Derived.Test.YtainigcchlgehaaGreatDoorRows
import Derived.WalkKit
import Derived.WalkSpells
import Derived.OwnWalk
import Derived.Laws.OwnMore
import Derived.Lib.Hide
import Derived.Lib.AppendZeros
import Derived.DataElems
import Derived.Maps.AppendAt
import Derived.OneCell
import Derived.Deep.RegionLaw
namespace Go.Proofs.YtainigcchlgehaaGreatDoor
open Go Go.RowKit
set_option linter.unusedVariables false
/-- how an element lies in sz cells -/
structure Enc (α : Type) (sz : Nat) where
  enc : α → List Value
  len : ∀ x, (enc x).length = sz
  one : ∀ x, ∀ u ∈ enc x, u.oneCell' = true
variable {α : Type} {sz : Nat}
def Enc.cells (E : Enc α sz) (l : List α) : List Value := l.flatMap E.enc
theorem Enc.cells_len (E : Enc α sz) (l : List α) : (E.cells l).length = l.length * sz := by
  induction l with
  | nil => simp [Enc.cells]
  | cons x l ih =>
    have e : E.cells (x :: l) = E.enc x ++ E.cells l := rfl
    rw [e, List.length_append, ih, E.len, List.length_cons, Nat.succ_mul]; omega
theorem Enc.cells_app (E : Enc α sz) (l m : List α) : E.cells (l ++ m) = E.cells l ++ E.cells m := by simp [Enc.cells]
theorem Enc.cells_one (E : Enc α sz) (l : List α) : ∀ u ∈ E.cells l, u.oneCell' = true := by
  intro u hu
  obtain ⟨x, _, hx⟩ := List.mem_flatMap.1 hu
  exact E.one x u hx
theorem Enc.cells_get (E : Enc α sz) (l : List α) (i j : Nat) (h : i < l.length) (hj : j < sz) : (E.cells l)[i * sz + j]? = (E.enc l[i])[j]? := by
  induction l generalizing i with
  | nil => simp at h
  | cons x l ih =>
    have e : E.cells (x :: l) = E.enc x ++ E.cells l := rfl
    cases i with
    | zero => rw [e, List.getElem?_append_left (by rw [E.len]; omega)]; simp
    | succ i =>
      have h' : i < l.length := by simpa using h
      rw [e, List.getElem?_append_right (by rw [E.len, Nat.succ_mul]; omega), E.len]
      have := ih i h'
      rw [show (i + 1) * sz + j - sz = i * sz + j by rw [Nat.succ_mul]; omega]
      simpa using this
/-- a slice that lies somewhere in memory -/
def Rw (E : Enc α sz) (w : World) (v : Value) (l : List α) : Prop :=
  ∃ ao cap, v = .slice ao l.length cap ∧ l.length ≤ cap ∧ cap ≤ maxLen ∧ (ao = none → cap = 0) ∧ ∀ i (h : i < l.length), ∃ b o, ao = some ⟨b, o, none⟩ ∧ ∀ j, j < sz → w.cell? ⟨b, o + i * sz + j, none⟩ = (E.enc l[i])[j]?
/-- a slice that the call itself made, from block 'base' on -/
def Ow (E : Enc α sz) (e : TypeId) (w : World) (base : Nat) (v : Value) (l : List α) : Prop := w.ownsRow base e sz v l.length (E.cells l)
variable {E : Enc α sz} {e : TypeId}
theorem Rw.nil (w : World) : Rw E w (.slice none 0 0) [] := ⟨none, 0, rfl, Nat.le_refl _, by simp [maxLen], fun _ => rfl, fun j h => by simp at h⟩
theorem Rw.shape {w : World} {v : Value} {l : List α} (h : Rw E w v l) : ∃ ao cap, v = .slice ao l.length cap := let ⟨ao, cap, h1, _⟩ := h; ⟨ao, cap, h1⟩
theorem Rw.keep {w w' : World} {v : Value} {l : List α} (h : Rw E w v l) (hb : Below w.heap.size w w') : Rw E w' v l := by
  obtain ⟨ao, cap, h1, h2, h3, h4, h5⟩ := h
  refine ⟨ao, cap, h1, h2, h3, h4, fun i hi => ?_⟩
  obtain ⟨b, o, ha, hc⟩ := h5 i hi
  refine ⟨b, o, ha, fun j hj => ?_⟩
  have hcj := hc j hj
  rw [List.getElem?_eq_getElem (by rw [E.len]; exact hj)] at hcj ⊢
  exact (hb.cell (block_lt_of_cell hcj)).trans hcj
theorem Ow.nil (w : World) (base : Nat) : Ow E e w base (.slice none 0 0) [] := World.ownsRow_nil w base _ _
theorem Ow.row {w : World} {base : Nat} {v : Value} {l : List α} (h : Ow E e w base v l) : ∀ k, v.ownBlock = some k → base ≤ k := fun k hk => (World.ownsRow.lt h k hk).1
theorem Ow.below {w w' : World} {base : Nat} {v : Value} {l : List α} (h : Ow E e w base v l) (hb : Below w.heap.size w w') : Ow E e w' base v l := by
  refine ⟨h.1, ?_⟩
  rcases h.2 with h0 | ⟨g, cap, cur, rfl, hbg, hg, rest⟩
  · exact .inl h0
  · exact .inr ⟨g, cap, cur, rfl, hbg, (hb.block g (Array.getElem?_eq_some_iff.1 hg).1).trans hg, rest⟩
theorem Ow.base {w : World} {b b' : Nat} {v : Value} {l : List α} (h : Ow E e w b v l) (hb : b' ≤ b) : Ow E e w b' v l := by
  refine ⟨h.1, ?_⟩
  rcases h.2 with h0 | ⟨g, cap, cur, rfl, hbg, rest⟩
  · exact .inl h0
  · exact .inr ⟨g, cap, cur, rfl, Nat.le_trans hb hbg, rest⟩
theorem Ow.lit (w : World) (base : Nat) (l : List α) (hb : base ≤ w.heap.size) (hl : l.length ≤ 1000000) (cs : Array Value) (hcs : cs.toList = E.cells l) :
    Ow E e (w.alloc (.cells cs e)) base (.slice (some ⟨w.heap.size, 0, none⟩) l.length l.length) l := by
  have := World.ownsRow_lit (base := base) (e := e) (size := sz) w cs l.length hb (by simp only [maxLen]; omega) (by rw [← Array.length_toList, hcs, E.cells_len])
  rw [hcs] at this; exact this
theorem Ow.rw {w : World} {base : Nat} {v : Value} {l : List α} (h : Ow E e w base v l) : Rw E w v l := by
  have h' := h
  rcases h.2 with ⟨rfl, hn⟩ | ⟨g, cap, cur, rfl, hb, hg, hnc, hcm, hcs, htake⟩
  · have : l = [] := List.eq_nil_of_length_eq_zero hn
    subst this; exact Rw.nil _
  · refine ⟨some ⟨g, 0, none⟩, cap, rfl, hnc, hcm, fun h => (by cases h), fun i hi => ⟨g, 0, rfl, fun j hj => ?_⟩⟩
    have hlt : i * sz + j < l.length * sz := by
      have : (i + 1) * sz ≤ l.length * sz := Nat.mul_le_mul_right _ hi
      rw [Nat.succ_mul] at this; omega
    have := World.ownsRow.cellAt h' (i * sz + j) hlt
    rw [E.cells_get l i j hi hj] at this
    rw [Nat.zero_add]; exact this
theorem Ow.shape {w : World} {base : Nat} {v : Value} {l : List α} (h : Ow E e w base v l) : ∃ ao cap, v = .slice ao l.length cap := h.rw.shape
theorem Ow.set {w : World} {base : Nat} {v : Value} {l : List α} (h : Ow E e w base v l) {a : Addr} (ha : v.ownBlock ≠ some a.block) (u : Value) : Ow E e (w.setCell a u) base v l := ownsRow_setCell_other h ha u
theorem Ow.far {w : World} {base : Nat} {v : Value} {l : List α} (h : Ow E e w base v l) {B : Nat} (hB : w.heap.size ≤ B) : v.ownBlock ≠ some B := fun hk => by
  have := (World.ownsRow.lt h B hk).2; omega
/-- two slices that lie in different blocks -/
def Apart (u v : Value) : Prop := ∀ k, u.ownBlock = some k → v.ownBlock ≠ some k
theorem Apart.symm {u v : Value} (h : Apart u v) : Apart v u := fun k hk hu => h k hu hk
theorem Ow.beside {w w' : World} {base : Nat} {u v : Value} {l : List α} (h : Ow E e w base v l) (hg : w.grownBy w' u.ownBlock) (ha : Apart u v) : Ow E e w' base v l :=
  World.ownsRow.kept h hg (by
    cases hv : v.ownBlock with
    | none => exact .inl rfl
    | some k => exact .inr fun e => ha k e.symm hv)
theorem Apart.grow {w : World} {base : Nat} {u u' v : Value} {l : List α} (h : Apart u v) (hv : Ow E e w base v l) (hat : u'.ownBlock = u.ownBlock ∨ u'.ownBlock = some w.heap.size) : Apart u' v := by
  intro k hk hv'
  rcases hat with e | e
  · exact h k (e.symm.trans hk) hv'
  · have := (World.ownsRow.lt hv k hv').2
    rw [e] at hk
    simp at hk
    omega
theorem below_of_grown {w w' : World} {r : Option Nat} (h : w.grownBy w' r) {B : Nat} (hB : B ≤ w.heap.size) (hr : ∀ k, r = some k → B ≤ k) : Below B w w' := (Below.refl B w).grown h hB hr
theorem Rw.cellsAt {w : World} {a : Addr} {n cap : Nat} {l : List α} (hsz : 0 < sz) (h : Rw E w (.slice (some a) n cap) l) : ∀ j u, (E.cells l)[j]? = some u → w.cell? (a.add j) = some u := by
  intro j u hu
  obtain ⟨ao, cap', he, h2, h3, h4, h5⟩ := h
  have hj : j < l.length * sz := by have := (List.getElem?_eq_some_iff.1 hu).1; rwa [E.cells_len] at this
  have hi : j / sz < l.length := Nat.div_lt_of_lt_mul (by rw [Nat.mul_comm]; exact hj)
  obtain ⟨b, o, ha, hc⟩ := h5 (j / sz) hi
  cases he
  cases ha
  have hm := hc (j % sz) (Nat.mod_lt _ hsz)
  rw [← E.cells_get l _ _ hi (Nat.mod_lt _ hsz)] at hm
  have ej : j / sz * sz + j % sz = j := by rw [Nat.mul_comm]; exact Nat.div_add_mod j sz
  rw [ej, hu] at hm
  rw [Addr.add_lit, ← hm]
  rw [Nat.add_assoc, ej]
/-- append to a slice of the call's own, of elements that lie anywhere -/
theorem run_append_rw {P : Program} {w : World} {base : Nat} {v x : Value} {l m : List α} (t ty : TypeId) {z : Value} {bytes : Nat} (ht : P.underlying t = some (.slice e)) (hinfo : (P.info? e).map (fun i => (i.zero, i.size, i.bytes)) = some (some z, sz, bytes)) (hzs : z.cells.size = sz) (hsz : 0 < sz) (hby : bytes ≤ 10000)
    (h : Ow E e w base v l) (hx : Rw E w x m) (hlen : l.length + m.length ≤ 1000000) (hbase : base ≤ w.heap.size) :
    ∃ v' w', (Builtin.append_ #[t, t] ty #[v, x]).run P w = .ok v' w' ∧ Ow E e w' base v' (l ++ m) ∧ w.grownBy w' v.ownBlock ∧ (v'.ownBlock = v.ownBlock ∨ v'.ownBlock = some w.heap.size) := by
  obtain ⟨i, hi, hz, hs, hb⟩ := info_parts hinfo
  have hx' := hx
  obtain ⟨ao, cap, rfl, h2, h3, h4, h5⟩ := hx
  cases ao with
  | none =>
    have hc := h4 rfl
    have hm : m = [] := List.eq_nil_of_length_eq_zero (by omega)
    subst hm
    subst hc
    have hr := run_append_owned_none (P := P) w base t ty e i sz ht hi v l.length (E.cells l) h
    exact ⟨v, w, hr, by rw [List.append_nil]; exact h, ⟨rfl, rfl, rfl, Nat.le_refl _, fun _ _ _ => rfl⟩, .inl rfl⟩
  | some a =>
    obtain ⟨v', w', hr, ho, hg, _, hat⟩ := run_append_own_at (P := P) w base t ty e i z sz bytes ht hi hz hs hb hzs hsz v l.length (E.cells l) h a m.length cap (E.cells m) (E.cells_len m) (hx'.cellsAt hsz) (E.cells_one m) (by simp only [maxLen]; omega)
      (by
        have : (l.length + m.length) * bytes ≤ 1000000 * 10000 := Nat.mul_le_mul hlen hby
        omega) hbase
    refine ⟨v', w', hr, ?_, hg, hat⟩
    unfold Ow
    rw [List.length_append, E.cells_app]; exact ho
theorem wpList_append_rw {P : Program} {w : World} {ops : Array Oper} {rest : List Oper} {o : Oper} {a : Act} {Q : Exit → Act → World → Prop} (hgd : o.guard = none) (s x : Operand) (t : TypeId)
    (ho : o.op = .call { callee := .builtin .append, args := #[s, x], argTypes := #[t, t] }) {base : Nat} {v vx z : Value} {bytes : Nat} {l m : List α} (ht : P.underlying t = some (.slice e)) (hinfo : (P.info? e).map (fun i => (i.zero, i.size, i.bytes)) = some (some z, sz, bytes)) (hzs : z.cells.size = sz) (hsz : 0 < sz) (hby : bytes ≤ 10000) (hs : a.eval s = v) (hx : a.eval x = vx)
    (h : Ow E e w base v l) (hm : Rw E w vx m) (hlen : l.length + m.length ≤ 1000000) (hbase : base ≤ w.heap.size)
    (hk : ∀ v' w', Ow E e w' base v' (l ++ m) → w.grownBy w' v.ownBlock → (v'.ownBlock = v.ownBlock ∨ v'.ownBlock = some w.heap.size) → wpList P ops Q rest (a.put o.dst v') w') : wpList P ops Q (o :: rest) a w := by
  obtain ⟨v', w', hr, h1, h2, h3⟩ := run_append_rw (E := E) t o.type ht hinfo hzs hsz hby h hm hlen hbase
  exact Lib.wpList_append_run w hgd s x t t ho v vx hs hx v' w' hr (hk v' w' h1 h2 h3)
theorem step_append_rw {P : Program} {w : World} {ops : Array Oper} {o : Oper} {a : Act} {K : Act → World → Prop} {Q : Exit → Act → World → Prop} {F : Prop} (hgd : o.guard = none) (s x : Operand) (t : TypeId)
    (ho : o.op = .call { callee := .builtin .append, args := #[s, x], argTypes := #[t, t] }) {base : Nat} {v vx z : Value} {bytes : Nat} {l m : List α} (ht : P.underlying t = some (.slice e)) (hinfo : (P.info? e).map (fun i => (i.zero, i.size, i.bytes)) = some (some z, sz, bytes)) (hzs : z.cells.size = sz) (hsz : 0 < sz) (hby : bytes ≤ 10000) (hs : a.eval s = v) (hx : a.eval x = vx)
    (h : Ow E e w base v l) (hm : Rw E w vx m) (hlen : l.length + m.length ≤ 1000000) (hbase : base ≤ w.heap.size)
    (hk : ∀ v' w', Ow E e w' base v' (l ++ m) → w.grownBy w' v.ownBlock → (v'.ownBlock = v.ownBlock ∨ v'.ownBlock = some w.heap.size) → K (a.put o.dst v') w') : if Region.wanted o (yielded ops a.tmps) = true then Oper.wp P o a w K Q else F := by
  have hw : Region.wanted o (yielded ops a.tmps) = true := by simp [Region.wanted, hgd]
  rw [if_pos hw]
  obtain ⟨v', w', hr, h1, h2, h3⟩ := run_append_rw (E := E) t o.type ht hinfo hzs hsz hby h hm hlen hbase
  exact Lib.wp_append_run w s x t t ho v vx hs hx v' w' hr (hk v' w' h1 h2 h3)
/-- a piece of a slice -/
theorem Rw.sliced {w : World} {ao : Option Addr} {len cap : Nat} {l : List α} (h : Rw E w (.slice ao len cap) l) (lo hi mx : Nat) (h1 : lo ≤ hi) (h2 : hi ≤ l.length) (h3 : hi ≤ mx) (h4 : mx ≤ cap) :
    Rw E w (Go.sliced ao lo hi mx sz) ((l.take hi).drop lo) := by
  obtain ⟨ao', cap', he, k2, k3, k4, k5⟩ := h
  cases he
  have hlen : ((l.take hi).drop lo).length = hi - lo := by simp; omega
  refine ⟨_, mx - lo, by unfold Go.sliced; rw [hlen], by omega, by omega, ?_, fun i hi' => ?_⟩
  · split
    · intro _; omega
    · cases ao with
      | none => intro _; have := k4 rfl; omega
      | some a => intro h; cases h
  · rw [hlen] at hi'
    obtain ⟨b, o, ha, hc⟩ := k5 (lo + i) (by omega)
    subst ha
    rw [if_neg (by omega)]
    refine ⟨b, o + lo * sz, by simp only [Option.map_some]; rw [Addr.add_lit], fun j hj => ?_⟩
    have := hc j hj
    have e2 : ((l.take hi).drop lo)[i] = l[lo + i] := by simp
    rw [e2, ← this]
    congr 2
    rw [Nat.add_mul]; omega
theorem Rw.head {w : World} {ao : Option Addr} {len cap : Nat} {l : List α} (h : Rw E w (.slice ao len cap) l) (c : Nat) (hc : c ≤ l.length) : Rw E w (.slice ao c cap) (l.take c) := by
  obtain ⟨ao', cap', he, k2, k3, k4, k5⟩ := h
  cases he
  have hlen : (l.take c).length = c := by simp; omega
  refine ⟨ao, cap, by rw [hlen], by omega, k3, k4, fun i hi => ?_⟩
  rw [hlen] at hi
  obtain ⟨b, o, ha, hcc⟩ := k5 i (by omega)
  refine ⟨b, o, ha, fun j hj => ?_⟩
  have e2 : (l.take c)[i] = l[i] := by simp
  rw [e2]; exact hcc j hj
end Go.Proofs.YtainigcchlgehaaGreatDoor



