import Derived.Test.YtdoefndppoglfaaHA
import Derived.Test.YtdoefndppoglfaaH8
import Derived.Test.YtdoefndppoglfaaFRI
namespace Go.Proofs.Ytdoefndppoglfaa
open Go Go.ChangeShapes Go.WideShapes Go.ChangeAt Go.RowKit
open Go.Joins
open Go.Shelf
set_option linter.unusedVariables false
theorem info_l : (Try.prog.info? 88).map (fun i => (i.zero, i.size, i.bytes)) = some (some (.agg #[.int .i64 0, .int .i64 0, .int .i64 0]), 3, 24) := by kernel_rfl
abbrev OwL := Ow encL 88
theorem Vr.apart {w : World} {b b' : Nat} {e e' : TypeId} {cs cs' : Array Value} (h : Vr w b e cs) (h' : Vr w b' e' cs') (hne : e ≠ e') : b ≠ b' := by
  intro eb
  subst eb
  have h1 : w.heap[b]? = some (.cells cs e (0, 0)) := h
  have h2 : w.heap[b]? = some (.cells cs' e' (0, 0)) := h'
  rw [h1] at h2
  simp only [Option.some.injEq, Obj.cells.injEq] at h2
  exact hne h2.2.1
theorem Vr.setCell {w : World} {b : Nat} {e : TypeId} {cs : Array Value} (h : Vr w b e cs) (j : Nat) (u : Value) : Vr (w.setCell ⟨b, j, none⟩ u) b e (cs.setIfInBounds j u) := by
  have hb : w.heap[b]? = some (.cells cs e (0, 0)) := h
  show (w.setCell ⟨b, j, none⟩ u).heap[b]? = _
  simp only [World.setCell, Array.getElem?_modify, if_true, hb, Option.map_some]
  simp
/-- each node's leads so far, in memory of one's own; the row that holds them is block q -/
structure RowsAt (W0 : World) (q L : Nat) (pre : List Yd) (W : World) (rows : List Sl) : Prop where
  len : rows.length = L
  row : Vr W q 89 (rows.map Sl.v).toArray
  own : ∀ k (h : k < rows.length), OwL W W0.heap.size rows[k].v (rowOf pre k)
  apart : ∀ j k (hj : j < rows.length) (hk : k < rows.length), j ≠ k → Apart rows[j].v rows[k].v
  grown : W0.grownBy W (some q)
def Rows (W0 : World) (q L : Nat) (pre : List Yd) (W : World) : Prop := ∃ rows, RowsAt W0 q L pre W rows
theorem Ow.cellsAt {α : Type} {sz : Nat} {E : Enc α sz} {e : TypeId} {w : World} {base : Nat} {v : Value} {l : List α} (h : Ow E e w base v l) {b : Nat} (hb : v.ownBlock = some b) : ∃ cur, w.heap[b]? = some (.cells cur e (0, 0)) := by
  rcases h.2 with ⟨rfl, _⟩ | ⟨g, cap, cur, rfl, hbg, hg, _⟩
  · cases hb
  · simp only [Value.ownBlock, Option.some.injEq] at hb
    subst hb
    exact ⟨cur, hg⟩
theorem Ow.kept {α : Type} {sz : Nat} {E : Enc α sz} {e : TypeId} {w w' : World} {base : Nat} {v : Value} {l : List α} {r : Option Nat} (h : Ow E e w base v l) (hg : w.grownBy w' r) (hne : ∀ b, v.ownBlock = some b → r ≠ some b) : Ow E e w' base v l :=
  World.ownsRow.kept h hg (by
    cases hv : v.ownBlock with
    | none => exact .inl rfl
    | some k => exact .inr fun e => hne k hv e.symm)
theorem grown_trans' {a b c : World} {q : Nat} {r : Option Nat} (h : a.grownBy b (some q)) (k : b.grownBy c r) (hr : ∀ x, r = some x → a.heap.size ≤ x ∨ x = q) : a.grownBy c (some q) := by
  obtain ⟨h1, h2, h3, h4, h5⟩ := h
  obtain ⟨k1, k2, k3, k4, k5⟩ := k
  refine ⟨k1.trans h1, k2.trans h2, k3.trans h3, Nat.le_trans h4 k4, fun i hi hne => (k5 i (by omega) (fun e => ?_)).trans (h5 i hi hne)⟩
  rcases hr i e.symm with h | h
  · omega
  · exact hne (by rw [h])
theorem rows_own (W0 : World) (q L : Nat) (f : List (YdL L) → List Yd) : OwnFrom W0.heap.size (fun pre W => Rows W0 q L (f pre) W) := by
  rintro pre W W' r ⟨rows, h⟩ hg hr
  refine ⟨rows, h.len, h.row.grown hg (fun e => ?_), fun k hk => (h.own k hk).kept hg (fun b hb e => ?_), h.apart, grown_trans' h.grown hg (fun x e => .inl (hr x e).1)⟩
  · obtain ⟨_, o, ho, hc⟩ := hr q e.symm
    have : W.heap[q]? = some (.cells _ _ _) := h.row
    rw [ho] at this
    cases this
    cases hc
  · obtain ⟨_, o, ho, hc⟩ := hr b e
    obtain ⟨cur, hcu⟩ := (h.own k hk).cellsAt hb
    rw [ho] at hcu
    cases hcu
    cases hc
theorem rows_start (W0 : World) (q L : Nat) (hq : Vr W0 q 89 (Array.replicate L (.slice none 0 0))) : RowsAt W0 q L [] W0 (List.replicate L ⟨none, 0, 0⟩) := by
  refine ⟨by simp, ?_, fun k hk => ?_, fun j k hj hk hne b hb => ?_, grown_refl _ _⟩
  · have e : (List.replicate L (⟨none, 0, 0⟩ : Sl)).map Sl.v = List.replicate L (.slice none 0 0) := by simp
    rw [e]
    have e2 : (List.replicate L (Value.slice none 0 0)).toArray = Array.replicate L (.slice none 0 0) := by simp
    rw [e2]
    exact hq
  · rw [List.getElem_replicate]
    exact Ow.nil _ _
  · rw [List.getElem_replicate] at hb
    cases hb
/-- one step more -/
theorem rows_next {W0 W u : World} {q L : Nat} {pre : List Yd} {rows : List Sl} (h : RowsAt W0 q L pre W rows) (hq : q < W0.heap.size) {k : Nat} (hk : k < rows.length) (ld : Ld) (s : Sl) (hB : W.grownBy u rows[k].v.ownBlock)
    (hs : OwL u W0.heap.size s.v (rowOf pre k ++ [ld])) (hat : s.v.ownBlock = rows[k].v.ownBlock ∨ ∀ b, s.v.ownBlock = some b → W.heap.size ≤ b) :
    RowsAt W0 q L (pre ++ [((k : Int), ld)]) (u.setCell ⟨q, k, none⟩ s.v) (rows.set k s) ∧ KpE W0.heap.size q W (u.setCell ⟨q, k, none⟩ s.v) ∧ KeepsFrom W0.heap.size W (u.setCell ⟨q, k, none⟩ s.v) := by
  have hob : ∀ b, rows[k].v.ownBlock = some b → W0.heap.size ≤ b := (h.own k hk).row
  have hqob : some q ≠ rows[k].v.ownBlock := fun e => by have := hob q e.symm; omega
  have hsq : ∀ b, s.v.ownBlock = some b → b ≠ q := fun b hb e => by have := hs.row b hb; omega
  have hset := grown_set u q k s.v
  have hru := h.row.grown hB hqob
  refine ⟨⟨by simp [h.len], ?_, fun j hj => ?_, fun j1 j2 h1 h2 hne => ?_, ?_⟩, ⟨⟨?_, fun b hb hne => ?_⟩, fun b cs hv => ?_⟩, ⟨?_, fun b o hb ho hc => ?_⟩⟩
  · have := hru.setCell k s.v
    rw [List.setIfInBounds_toArray, ← List.map_set] at this
    exact this
  · have hj' : j < rows.length := by simpa using hj
    rw [rowOf_app, rowOf_one]
    by_cases hjk : k = j
    · subst hjk
      rw [List.getElem_set_self, if_pos rfl]
      exact hs.set (fun e => hsq q e rfl) _
    · have hne : ¬ ((k : Int) = (j : Int)) := by omega
      rw [List.getElem_set_ne hjk, if_neg hne, List.append_nil]
      have := (h.own j hj').kept hB (fun b hb e => h.apart k j hk hj' hjk b e hb)
      exact this.set (fun e => by have := (h.own j hj').row q e; omega) _
  · have h1' : j1 < rows.length := by simpa using h1
    have h2' : j2 < rows.length := by simpa using h2
    have key : ∀ j (hj : j < rows.length), k ≠ j → Apart s.v rows[j].v := by
      intro j hj hkj b hb hb2
      rcases hat with e | e
      · exact h.apart k j hk hj hkj b (e.symm.trans hb) hb2
      · have := e b hb
        have := (World.ownsRow.lt (h.own j hj) b hb2).2
        omega
    by_cases e1 : k = j1
    · subst e1
      rw [List.getElem_set_self, List.getElem_set_ne hne]
      exact key j2 h2' hne
    · by_cases e2 : k = j2
      · subst e2
        rw [List.getElem_set_self, List.getElem_set_ne e1]
        exact (key j1 h1' e1).symm
      · rw [List.getElem_set_ne e1, List.getElem_set_ne e2]
        exact h.apart j1 j2 h1' h2' hne
  · exact grown_trans' (grown_trans' h.grown hB (fun x e => .inl (hob x e))) hset (fun x e => by cases e; exact .inr rfl)
  · exact Nat.le_trans hB.size hset.size
  · have hW : b < W.heap.size := by have := h.grown.size; omega
    rw [hset.block b (Nat.lt_of_lt_of_le hW hB.size) (fun e => hne (by cases e; rfl)), hB.block b hW (fun e => by have := hob b e.symm; omega)]
  · have hbq : b ≠ q := hv.apart h.row (by decide)
    have hbo : some b ≠ rows[k].v.ownBlock := fun e => by
      obtain ⟨cur, hc⟩ := (h.own k hk).cellsAt e.symm
      have h1 : W.heap[b]? = some (.cells cs 45 (0, 0)) := hv
      rw [hc] at h1
      simp only [Option.some.injEq, Obj.cells.injEq] at h1
      exact absurd h1.2.1 (by decide)
    exact (hv.grown hB hbo).setOther hbq _
  · exact Nat.le_trans hB.size hset.size
  · have hlt := (Array.getElem?_eq_some_iff.1 ho).1
    have hbq : b ≠ q := fun e => by omega
    have hbo : some b ≠ rows[k].v.ownBlock := fun e => by
      obtain ⟨cur, hcu⟩ := (h.own k hk).cellsAt e.symm
      rw [ho] at hcu
      cases hcu
      cases hc
    rw [hset.block b (Nat.lt_of_lt_of_le hlt hB.size) (fun e => hbq (by cases e; rfl)), hB.block b hlt hbo]
    exact ho
/-- what stands in the slots of the round's region: x's variable bx, the index c, the row q, node k, its slice s, what leads so far, one lead more -/
def VB (c q L k : Nat) (base wsz : Nat) (s : Sl) (l : List Ld) (ld : Ld) (i : Nat) (v : Value) (w : World) : Prop := match i with
  | 0 => v = .pointer (some ⟨c, 0, none⟩)
  | 1 => v = .pointer (some ⟨c, 0, none⟩)
  | 2 => v = .pointer (some ⟨c, 4, none⟩)
  | 3 => v = .slice (some ⟨q, 0, none⟩) L L
  | 4 => v = .int .i64 k
  | 5 => v = .pointer (some ⟨c, 0, none⟩)
  | 6 => v = .pointer (some ⟨c, 0, none⟩)
  | 7 => v = .pointer (some ⟨c, 4, none⟩)
  | 8 => v = .slice (some ⟨q, 0, none⟩) L L
  | 9 => v = .int .i64 k
  | 10 => v = .pointer (some ⟨q, k, none⟩)
  | 11 => v = s.v
  | 12 => v = .agg #[.int .i64 ld.1, .int .i64 ld.2.1, .int .i64 ld.2.2]
  | 13 => ∃ b, v = .slice (some ⟨b, 0, none⟩) 1 1 ∧ s.v.ownBlock ≠ some b ∧ Vr w b 88 #[.int .i64 ld.1, .int .i64 ld.2.1, .int .i64 ld.2.2]
  | 14 => OwL w base v (l ++ [ld]) ∧ (v.ownBlock = s.v.ownBlock ∨ ∀ b, v.ownBlock = some b → wsz ≤ b)
  | _ => True
/-- how each operation may turn the world -/
def RB (s : Sl) (k : Nat) (a b : World) : Prop := if k = 14 then a.grownBy b s.v.ownBlock else Below a.heap.size a b
theorem VB.keep {c q L k0 base wsz : Nat} {s : Sl} {l : List Ld} {ld : Ld} (k i : Nat) (v : Value) (a b : World) (hki : k ≠ i) (h : VB c q L k0 base wsz s l ld i v a) (hr : RB s k a b) : VB c q L k0 base wsz s l ld i v b := by
  unfold VB at h ⊢
  split at h
  all_goals first
    | exact h
    | trivial
    | skip
  · obtain ⟨x, e, h1, h2⟩ := h
    refine ⟨x, e, h1, ?_⟩
    unfold RB at hr
    split at hr
    · exact h2.grown hr (fun e => h1 e.symm)
    · exact h2.keep hr
  · unfold RB at hr
    rw [if_neg hki] at hr
    exact ⟨h.1.below hr, h.2⟩
/-- what holds from the round's start till operation i is done -/
def BB (s : Sl) (i : Nat) (a b : World) : Prop := if i = 14 then Below a.heap.size a b else a.grownBy b s.v.ownBlock
theorem RB.base {s : Sl} (i k : Nat) (a b c : World) (hki : k ≠ i) (h : BB s i a b) (hr : RB s k b c) : BB s i a c := by
  unfold BB at h ⊢
  unfold RB at hr
  split at h
  · rename_i hi
    subst hi
    rw [if_neg hki] at hr
    rw [if_pos rfl]
    exact Below.chain h hr
  · rename_i hi
    rw [if_neg hi]
    split at hr
    · exact World.grownBy.trans h hr
    · exact World.grownBy.trans h (grown_of_below _ hr)
theorem BB.refl {s : Sl} (i : Nat) (a : World) : BB s i a a := by
  unfold BB
  split
  · exact Below.refl _ _
  · exact grown_refl _ _
theorem BB.grown {s : Sl} {i : Nat} {a b : World} (h : BB s i a.drew b) : a.grownBy b s.v.ownBlock := by
  unfold BB at h
  split at h
  · exact grown_of_below _ ⟨h.os, h.tape, h.output, h.size, h.block⟩
  · obtain ⟨h1, h2, h3, h4, h5⟩ := h
    exact ⟨h1, h2, h3, h4, h5⟩
theorem BB.below {s : Sl} {a b : World} (h : BB s 14 a.drew b) : Below a.heap.size a b := by
  unfold BB at h
  rw [if_pos rfl] at h
  exact ⟨h.os, h.tape, h.output, h.size, h.block⟩
theorem RB.of {s : Sl} {k : Nat} {a b : World} (hk : k ≠ 14) (h : Below a.heap.size a b) : RB s k a b := by
  unfold RB
  rw [if_neg hk]
  exact h
/-- no slice of row q lies in block b -/
def Clear (q : Nat) (W : World) (b : Nat) : Prop := q < W.heap.size ∧ ∀ j v, W.cell? ⟨q, j, none⟩ = some v → v.ownBlock ≠ some b
theorem Clear.step {q b : Nat} {W W' : World} {r : Option Nat} (h : Clear q W b) (hg : W.grownBy W' r) (hr : ∀ x, r = some x → x ≠ q) : Clear q W' b := by
  refine ⟨Nat.lt_of_lt_of_le h.1 hg.size, fun j v hv => h.2 j v ?_⟩
  rw [← hv]
  exact (World.cell?_of_block (w := W) (hg.block q h.1 (fun e => hr q e.symm rfl))).symm
theorem rows_clear {W0 W : World} {q L : Nat} {pre : List Yd} {rows : List Sl} (h : RowsAt W0 q L pre W rows) (o : Obj) : Clear q (W.alloc o) W.heap.size := by
  have hq := h.row.lt
  refine ⟨by simp; omega, fun j v hv => ?_⟩
  have hr := h.row.al (o := o)
  rw [hr.cell j] at hv
  simp only [List.getElem?_toArray, List.getElem?_map] at hv
  obtain ⟨s, hs, rfl⟩ := Option.map_eq_some_iff.1 hv
  obtain ⟨hj, e⟩ := List.getElem?_eq_some_iff.1 hs
  intro hb
  have := (World.ownsRow.lt (h.own j hj) W.heap.size (by rw [e]; exact hb)).2
  omega
theorem RB.refl {s : Sl} (k : Nat) (a : World) : RB s k a a := by
  unfold RB
  split
  · exact grown_refl _ _
  · exact Below.refl _ _
end Go.Proofs.Ytdoefndppoglfaa
