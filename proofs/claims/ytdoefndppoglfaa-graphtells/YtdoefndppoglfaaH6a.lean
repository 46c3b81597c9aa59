import Derived.Test.YtdoefndppoglfaaH5
namespace Go.Proofs.Ytdoefndppoglfaa
open Go Go.ChangeShapes Go.WideShapes Go.ChangeAt Go.RowKit
open Go.Joins
set_option linter.unusedVariables false
/-! ### rows of one's own, written in place -/
section
variable {α : Type} {sz : Nat} {E : Enc α sz} {e : TypeId}
theorem cells_set (l : List α) (i j : Nat) (u : Value) (x' : α) (hi : i < l.length) (hj : j < sz) (he : E.enc x' = (E.enc l[i]).set j u) : (E.cells l).set (i * sz + j) u = E.cells (l.set i x') := by
  induction l generalizing i with
  | nil => simp at hi
  | cons x l ih =>
    have e1 : ∀ (y : α) (m : List α), E.cells (y :: m) = E.enc y ++ E.cells m := fun _ _ => rfl
    cases i with
    | zero =>
      rw [List.set_cons_zero, e1, e1, he, List.set_append_left _ _ (by rw [E.len]; omega)]
      simp
    | succ i =>
      have hi' : i < l.length := by simpa using hi
      rw [List.set_cons_succ, e1, e1, List.set_append_right _ _ (by rw [E.len, Nat.succ_mul]; omega), E.len, show (i + 1) * sz + j - sz = i * sz + j by rw [Nat.succ_mul]; omega, ih i hi' (by simpa using he)]
theorem Ow.put {w : World} {base : Nat} {g n cap : Nat} {l : List α} (h : Ow E e w base (.slice (some ⟨g, 0, none⟩) n cap) l) (i j : Nat) (u : Value) (x' : α) (hi : i < l.length) (hj : j < sz) (he : E.enc x' = (E.enc l[i]).set j u) :
    Ow E e (w.setCell ⟨g, i * sz + j, none⟩ u) base (.slice (some ⟨g, 0, none⟩) n cap) (l.set i x') := by
  have hn : l.length = n := by
    rcases h.2 with ⟨h0, _⟩ | ⟨_, _, _, h0, _⟩
    · cases h0
    · cases h0; rfl
  subst hn
  unfold Ow at h ⊢
  rw [← cells_set l i j u x' hi hj he, List.length_set]
  exact (World.ownsRow.stored h (i * sz + j) u).1
theorem Ow.own {w : World} {base : Nat} {v : Value} {l : List α} (h : Ow E e w base v l) (hl : 0 < l.length) : ∃ g cap, v = .slice (some ⟨g, 0, none⟩) l.length cap ∧ base ≤ g ∧ g < w.heap.size := by
  rcases h.2 with ⟨_, h0⟩ | ⟨g, cap, cur, rfl, hbg, hg, _⟩
  · omega
  · exact ⟨g, cap, rfl, hbg, (Array.getElem?_eq_some_iff.1 hg).1⟩
theorem Ow.at' {w : World} {base : Nat} {g n cap : Nat} {l : List α} (h : Ow E e w base (.slice (some ⟨g, 0, none⟩) n cap) l) (i : Nat) (hi : i < l.length) : ∀ j, j < sz → w.cell? ⟨g, i * sz + j, none⟩ = (E.enc l[i])[j]? := by
  intro j hj
  have hn : l.length = n := by
    rcases h.2 with ⟨h0, _⟩ | ⟨_, _, _, h0, _⟩
    · cases h0
    · cases h0; rfl
  subst hn
  have hlt : i * sz + j < l.length * sz := by
    have : (i + 1) * sz ≤ l.length * sz := Nat.mul_le_mul_right _ hi
    rw [Nat.succ_mul] at this; omega
  rw [World.ownsRow.cellAt h (i * sz + j) hlt, E.cells_get l i j hi hj]
theorem Ow.thaw {w : World} {base : Nat} {g n cap : Nat} {l : List α} (h : Ow E e w base (.slice (some ⟨g, 0, none⟩) n cap) l) (j : Nat) : w.frozen? ⟨g, j, none⟩ = false := by
  have hn : l.length = n := by
    rcases h.2 with ⟨h0, _⟩ | ⟨_, _, _, h0, _⟩
    · cases h0
    · cases h0; rfl
  subst hn
  exact World.ownsRow.frozenAt h j
/-- a row and a variable of another type lie apart -/
theorem Ow.notVr {w : World} {base : Nat} {v : Value} {l : List α} (h : Ow E e w base v l) {b : Nat} {e' : TypeId} {cs : Array Value} (hv : Vr w b e' cs) (hne : e ≠ e') : v.ownBlock ≠ some b := by
  rcases h.2 with ⟨rfl, _⟩ | ⟨g, cap, cur, rfl, hbg, hg, _⟩
  · intro h; cases h
  · intro hb
    simp only [Value.ownBlock, Option.some.injEq] at hb
    subst hb
    have : w.heap[g]? = some (.cells cs e' (0, 0)) := hv
    rw [hg] at this
    cases this
    exact hne rfl
theorem Ow.notOw {β : Type} {sz' : Nat} {E' : Enc β sz'} {w : World} {base base' : Nat} {v v' : Value} {l : List α} {l' : List β} {e' : TypeId} (h : Ow E e w base v l) (h' : Ow E' e' w base' v' l') (hne : e ≠ e') : ∀ k, v.ownBlock = some k → v'.ownBlock ≠ some k := by
  intro k hk hk'
  rcases h.2 with ⟨rfl, _⟩ | ⟨g, cap, cur, rfl, hbg, hg, _⟩
  · cases hk
  · rcases h'.2 with ⟨rfl, _⟩ | ⟨g', cap', cur', rfl, hbg', hg', _⟩
    · cases hk'
    · simp only [Value.ownBlock, Option.some.injEq] at hk hk'
      subst hk hk'
      rw [hg] at hg'
      cases hg'
      exact hne rfl
theorem Vr.setOther {w : World} {b : Nat} {cs : Array Value} (h : Vr w b e cs) {a : Addr} (ha : b ≠ a.block) (u : Value) : Vr (w.setCell a u) b e cs := (Below.heap_setCell w a u b ha).trans h
end
/-! ### what is no slice stays -/
def isSl : Value → Bool
  | .slice _ _ _ => true
  | _ => false
/-- every cell that is no slice stays as it is -/
def KS (w w' : World) : Prop := ∀ p u, w.cell? p = some u → isSl u = false → w'.cell? p = some u
theorem KS.refl (w : World) : KS w w := fun _ _ h _ => h
theorem KS.trans {a b c : World} (h : KS a b) (k : KS b c) : KS a c := fun p u hu hs => k p u (h p u hu hs) hs
theorem KS.of {w w' : World} (h : Below w.heap.size w w') : KS w w' := fun p u hu _ => (h.cell (block_lt_of_cell hu)).trans hu
theorem KS.set {w : World} {a : Addr} {x : Option Addr} {n c : Nat} (h : w.cell? a = some (.slice x n c)) (u : Value) : KS w (w.setCell a u) := by
  intro p v hv hs
  by_cases hp : a = p
  · subst hp
    rw [h] at hv
    cases hv
    cases hs
  · rw [World.cell?_setCell_other _ _ _ _ hp]; exact hv
theorem Rw.turn {α : Type} {sz : Nat} {E : Enc α sz} (hE : ∀ x, ∀ u ∈ E.enc x, isSl u = false) {w w' : World} {v : Value} {l : List α} (h : Rw E w v l) (hk : KS w w') : Rw E w' v l := by
  obtain ⟨ao, cap, h1, h2, h3, h4, h5⟩ := h
  refine ⟨ao, cap, h1, h2, h3, h4, fun i hi => ?_⟩
  obtain ⟨b, o, ha, hc⟩ := h5 i hi
  refine ⟨b, o, ha, fun j hj => ?_⟩
  have hcj := hc j hj
  rw [List.getElem?_eq_getElem (by rw [E.len]; exact hj)] at hcj ⊢
  exact hk _ _ hcj (hE _ _ (List.getElem_mem _))
theorem noS (x : ByteArray) : ∀ u ∈ encS.enc x, isSl u = false := by
  intro u hu
  simp only [encS, List.mem_cons, List.not_mem_nil, or_false] at hu
  subst hu; rfl
theorem noP (x : Pr) : ∀ u ∈ encP.enc x, isSl u = false := by
  intro u hu
  simp only [encP, List.mem_cons, List.not_mem_nil, or_false] at hu
  rcases hu with rfl | rfl | rfl | rfl | rfl <;> rfl
theorem Nz.turn {w w' : World} {d : Nd} {x : Nx} (h : Nz w d x) (hk : KS w w') : Nz w' d x := ⟨h.1, h.2.1.turn noS hk, h.2.2.1.turn noP hk, h.2.2.2⟩
theorem Dz.turn {w w' : World} {d : Ed} {x : Dx} (h : Dz w d x) (hk : KS w w') : Dz w' d x := ⟨h.1, h.2.1, h.2.2.1, h.2.2.2.1, h.2.2.2.2.1, h.2.2.2.2.2.1, h.2.2.2.2.2.2.1.turn noS hk, h.2.2.2.2.2.2.2.1.turn noP hk, h.2.2.2.2.2.2.2.2⟩
/-- a node's lists, an edge's lists, stored anew -/
theorem putN {w : World} {base g n cap : Nat} {l : List Nx} {i : Nat} (h : OwN w base (.slice (some ⟨g, 0, none⟩) n cap) l) (hi : i < l.length) (s1 s2 : Sl) :
    OwN ((w.setCell ⟨g, i * 3 + 1, none⟩ s1.v).setCell ⟨g, i * 3 + 2, none⟩ s2.v) base (.slice (some ⟨g, 0, none⟩) n cap) (l.set i ⟨l[i].name, s1, s2⟩) ∧ KS w ((w.setCell ⟨g, i * 3 + 1, none⟩ s1.v).setCell ⟨g, i * 3 + 2, none⟩ s2.v) ∧
    (∀ b e cs, 43 ≠ e → Vr w b e cs → Vr ((w.setCell ⟨g, i * 3 + 1, none⟩ s1.v).setCell ⟨g, i * 3 + 2, none⟩ s2.v) b e cs) ∧
    (∀ base' v ys, OwD w base' v ys → OwD ((w.setCell ⟨g, i * 3 + 1, none⟩ s1.v).setCell ⟨g, i * 3 + 2, none⟩ s2.v) base' v ys) := by
  have h1 := h.put i 1 s1.v ⟨l[i].name, s1, l[i].p⟩ hi (by omega) rfl
  have hl : i < (l.set i ⟨l[i].name, s1, l[i].p⟩).length := by simpa using hi
  have h2 := h1.put i 2 s2.v ⟨l[i].name, s1, s2⟩ hl (by omega) (by simp [encN])
  rw [List.set_set] at h2
  have c1 := h.at' i hi 1 (by omega)
  have c2 := h1.at' i hl 2 (by omega)
  simp only [encN, List.getElem?_cons_zero, List.getElem?_cons_succ] at c1 c2
  refine ⟨h2, (KS.set c1 _).trans (KS.set c2 _), fun b e cs hne hv => ?_, fun base' v ys hy => ?_⟩
  · have hb : b ≠ g := fun eq => h.notVr hv hne (by simp [Value.ownBlock, eq])
    exact (hv.setOther hb _).setOther hb _
  · have hb := h.notOw hy (by decide) g rfl
    exact (hy.set hb _).set hb _
theorem putD {w : World} {base g n cap : Nat} {l : List Dx} {i : Nat} (h : OwD w base (.slice (some ⟨g, 0, none⟩) n cap) l) (hi : i < l.length) (s1 s2 : Sl) :
    OwD ((w.setCell ⟨g, i * 6 + 4, none⟩ s1.v).setCell ⟨g, i * 6 + 5, none⟩ s2.v) base (.slice (some ⟨g, 0, none⟩) n cap) (l.set i ⟨l[i].name, l[i].fro, l[i].to, l[i].dir, s1, s2⟩) ∧ KS w ((w.setCell ⟨g, i * 6 + 4, none⟩ s1.v).setCell ⟨g, i * 6 + 5, none⟩ s2.v) ∧
    (∀ b e cs, 45 ≠ e → Vr w b e cs → Vr ((w.setCell ⟨g, i * 6 + 4, none⟩ s1.v).setCell ⟨g, i * 6 + 5, none⟩ s2.v) b e cs) ∧
    (∀ base' v ys, OwN w base' v ys → OwN ((w.setCell ⟨g, i * 6 + 4, none⟩ s1.v).setCell ⟨g, i * 6 + 5, none⟩ s2.v) base' v ys) := by
  have h1 := h.put i 4 s1.v ⟨l[i].name, l[i].fro, l[i].to, l[i].dir, s1, l[i].p⟩ hi (by omega) rfl
  have hl : i < (l.set i ⟨l[i].name, l[i].fro, l[i].to, l[i].dir, s1, l[i].p⟩).length := by simpa using hi
  have h2 := h1.put i 5 s2.v ⟨l[i].name, l[i].fro, l[i].to, l[i].dir, s1, s2⟩ hl (by omega) (by simp [encD])
  rw [List.set_set] at h2
  have c1 := h.at' i hi 4 (by omega)
  have c2 := h1.at' i hl 5 (by omega)
  simp only [encD, List.getElem?_cons_zero, List.getElem?_cons_succ] at c1 c2
  refine ⟨h2, (KS.set c1 _).trans (KS.set c2 _), fun b e cs hne hv => ?_, fun base' v ys hy => ?_⟩
  · have hb : b ≠ g := fun eq => h.notVr hv hne (by simp [Value.ownBlock, eq])
    exact (hv.setOther hb _).setOther hb _
  · have hb := h.notOw hy (by decide) g rfl
    exact (hy.set hb _).set hb _
end Go.Proofs.Ytdoefndppoglfaa
