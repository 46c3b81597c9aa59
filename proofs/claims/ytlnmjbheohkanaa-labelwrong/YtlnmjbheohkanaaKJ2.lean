import Derived.Test.YtlnmjbheohkanaaKJ
import Derived.Lib.OwnBridge
import Derived.Sort.OwnSorted
namespace Go.Proofs.Ytlnmjbheohkanaa
open Go Go.RowKit
open Go.Sort (Holds grow putRow holds_putRow holds_ahead holds_grow putCells)
set_option linter.unusedVariables false
abbrev clo (p q : Nat) : Value := .func (.func 31) #[] #[.pointer (some ⟨p, 0, none⟩), .pointer (some ⟨q, 0, none⟩)]
theorem gather_any (w0 : World) (p q : Nat) (hp0 : w0.heap.size ≤ p) (hqp : q ≠ p) : ∀ (t : Ex) (x : Xc) (w : World) (v : Value) (l : List ByteArray), Tx w0 t x → Below w0.heap.size w0 w → OwS w w0.heap.size v l → Vr w p 22 #[v] → Vr w q 51 #[clo p q] → v.ownBlock ≠ some p → v.ownBlock ≠ some q → (l ++ namesT t).length ≤ 1000 →
    Calls Try.prog 31 #[xv x, .pointer (some ⟨p, 0, none⟩), .pointer (some ⟨q, 0, none⟩)] w fun e w' => e = .returned (.tuple #[]) ∧ ∃ v', OwS w' w0.heap.size v' (l ++ namesT t) ∧ Vr w' p 22 #[v'] ∧ Kept w0.heap.size p w v w' v' := by
  refine fun t => ex_ind (P := fun t => ∀ (x : Xc) (w : World) (v : Value) (l : List ByteArray), Tx w0 t x → Below w0.heap.size w0 w → OwS w w0.heap.size v l → Vr w p 22 #[v] → Vr w q 51 #[clo p q] → v.ownBlock ≠ some p → v.ownBlock ≠ some q → (l ++ namesT t).length ≤ 1000 →
    Calls Try.prog 31 #[xv x, .pointer (some ⟨p, 0, none⟩), .pointer (some ⟨q, 0, none⟩)] w fun e w' => e = .returned (.tuple #[]) ∧ ∃ v', OwS w' w0.heap.size v' (l ++ namesT t) ∧ Vr w' p 22 #[v'] ∧ Kept w0.heap.size p w v w' v') ?_ t
  intro kind name vl kids ih x w v l h hB hO hP hQ hvp hvq hn
  obtain ⟨rfl, rfl, rfl, hv, xs, hr, hk⟩ := Tx.inv h
  have hL : kids.length = x.len := by
    obtain ⟨a, c, e, -⟩ := hr
    simp only [Value.slice.injEq] at e
    exact hk.1.trans e.2.1.symm
  rw [namesT_node] at hn ⊢
  by_cases k4 : x.kind = 4
  · rw [if_pos k4] at hn ⊢
    have := gather_4 x.name x.v x.ao x.len x.cap kids xs w0 w p q v l hL hr hk hp0 hqp hn hB hO hP hQ hvp hvq ih
    rw [← k4] at this
    exact this
  · rw [if_neg k4, List.nil_append] at hn ⊢
    exact gather_o x.kind (by simp [k4]) x.name x.v x.ao x.len x.cap kids xs w0 w p q v l hL hr hk hp0 hqp hn hB hO hP hQ hvp hvq ih
theorem encS_cells (l : List ByteArray) : encS.cells l = (l.map byt).map encStr := by
  rw [Lib.map_encStr]
  unfold Enc.cells
  induction l with
  | nil => rfl
  | cons x l ih => rw [List.flatMap_cons, ih]; rfl
theorem encS_cellsB (l : List By) : encS.cells (l.map fun x => ⟨x.toArray⟩) = l.map encStr := by rw [encS_cells, byt_sizes]
theorem ows_iff (w : World) (B : Nat) (v : Value) (l : List ByteArray) : OwS w B v l ↔ w.ownsRow B 9 1 v l.length ((l.map byt).map encStr) := by
  show w.ownsRow B 9 1 v l.length (encS.cells l) ↔ _
  rw [encS_cells]
theorem ows_mk {w : World} {B : Nat} {v : Value} {l : List By} (h : w.ownsRow B 9 1 v l.length (l.map encStr)) : OwS w B v (l.map fun x => ⟨x.toArray⟩) := by
  rw [ows_iff, byt_sizes, List.length_map]; exact h
theorem lsort_any (w : World) (B : Nat) (v : Value) (l : List ByteArray) (hO : OwS w B v l) (hB : B ≤ w.heap.size) (hl : l.length ≤ 1000) :
    Calls Try.prog 32 #[v] w fun e w' => e = .returned (.tuple #[]) ∧ ∃ m, OwS w' B v m ∧ m.map byt = (l.map byt).mergeSort (fun x y => decide (x ≤ y)) ∧ w.grownBy w' v.ownBlock := by
  have hO' : w.ownsRow B 9 1 v l.length ((l.map byt).map encStr) := (ows_iff w B v l).1 hO
  by_cases hv : v = .slice none 0 0
  · subst hv
    have hl0 : l = [] := by
      rcases hO.2 with ⟨_, h0⟩ | ⟨g, cap, cur, e, _⟩
      · exact List.eq_nil_of_length_eq_zero h0
      · cases e
    subst hl0
    refine (Try.slices_Sort_string_none none 0 w).mono fun e w' hh => ?_
    obtain ⟨rfl, rfl⟩ := hh
    exact ⟨rfl, [], hO, by simp, grown_refl _ _⟩
  · obtain ⟨g, cap, rfl, hbg, hgl, hnc, hcm, hlen, hH⟩ := Lib.holds_of_ownsRow hO' hv
    have hs := Try.slices_Sort_string g 0 cap (l.map byt) w hH hgl (by simp; omega)
    rw [hlen] at hs
    refine hs.mono fun e w' hh => ?_
    obtain ⟨rfl, nn, os, rfl⟩ := hh
    have hl2 : ((l.map byt).mergeSort fun x y => decide (x ≤ y)).length = (l.map byt).length := List.length_mergeSort _
    refine ⟨rfl, ((l.map byt).mergeSort fun x y => decide (x ≤ y)).map fun x => ⟨x.toArray⟩, ?_, byt_sizes _, grownBy_sorted _⟩
    rcases hO'.2 with ⟨h0, _⟩ | ⟨g', cap', cur, hvv, hbase, hb, h1, h2, h3, h4⟩
    · cases h0
    cases hvv
    have key := ownsRow_sorted (n := nn) (os := os) (ts := (l.map byt).mergeSort fun x y => decide (x ≤ y)) hl2 hbase hb (by rw [hlen]; exact h1) h2 h3
    refine ows_mk ?_
    rw [hl2]
    rw [hlen] at key ⊢
    exact key
theorem lcompact_any (w : World) (B : Nat) (v : Value) (l : List ByteArray) (hO : OwS w B v l) (hB : B ≤ w.heap.size) (hl : l.length ≤ 1000) :
    Calls Try.prog 33 #[v] w fun e w' => ∃ u, e = .returned u ∧ ∃ m, OwS w' B u m ∧ m.map byt = Lib.compact (l.map byt) ∧ Below B w w' := by
  have hO' : w.ownsRow B 9 1 v l.length ((l.map byt).map encStr) := (ows_iff w B v l).1 hO
  by_cases hv : v = .slice none 0 0
  · subst hv
    have hl0 : l = [] := by
      rcases hO.2 with ⟨_, h0⟩ | ⟨g, cap, cur, e, _⟩
      · exact List.eq_nil_of_length_eq_zero h0
      · cases e
    subst hl0
    refine (Try.slices_Compact_string_empty none 0 w).mono fun e w' hh => ?_
    obtain ⟨rfl, rfl⟩ := hh
    exact ⟨_, rfl, [], hO, by simp [Lib.compact, Lib.compactUpTo], Below.refl _ _⟩
  · obtain ⟨g, cap, rfl, hbg, hgl, hnc, hcm, hlen, hH⟩ := Lib.holds_of_ownsRow hO' hv
    simp only [maxLen] at hcm
    have hs := Try.slices_Compact_string g 0 cap (l.map byt) w hH (by simp; omega) (by rw [hlen]; exact hnc)
    rw [hlen] at hs
    refine hs.mono fun e w' hh => ?_
    obtain ⟨rfl, q, rfl⟩ := hh
    have hle : (Lib.compact (l.map byt)).length ≤ l.length := by
      have := Lib.compact_length_le (l.map byt)
      rw [hlen] at this; exact this
    refine ⟨_, rfl, (Lib.compact (l.map byt)).map fun x => ⟨x.toArray⟩, ?_, byt_sizes _, Lib.below_putRow (Below.refl _ _) hbg⟩
    have key := Lib.ownsRow_putRow (q := q) (k := (Lib.compact (l.map byt)).length) (ys := Lib.compact (l.map byt) ++ List.replicate (l.length - (Lib.compact (l.map byt)).length) []) hO' (by simp; omega) hle
    rw [List.take_left] at key
    exact ows_mk key
end Go.Proofs.Ytlnmjbheohkanaa
