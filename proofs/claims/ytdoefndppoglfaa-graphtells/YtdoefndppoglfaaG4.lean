import Derived.Test.YtdoefndppoglfaaG3
import Derived.ProofKit
import Derived.OpenShut
import Derived.Carry
import Derived.ChangeSlices
import Derived.Lib.SmallJoins
import Derived.Laws.Cover2
import Derived.Deep.Slices
namespace Go.Proofs.Ytdoefndppoglfaa
open Go Go.ChangeShapes Go.WideShapes Go.ChangeAt Go.RowKit
open Go.Joins
set_option linter.unusedVariables false
/-- the first place of a name, or -1 -/
def findB (l : List ByteArray) (s : ByteArray) : Int := match l.findIdx? (fun x => decide (byt x = byt s)) with
  | some i => i
  | none => -1
theorem findB_at {l : List ByteArray} {s : ByteArray} {i : Nat} (hi : i < l.length) (h : byt l[i] = byt s) (hn : ∀ j (hj : j < i), ¬ byt (l[j]'(by omega)) = byt s) : findB l s = i := by
  have : l.findIdx? (fun x => decide (byt x = byt s)) = some i := by
    rw [List.findIdx?_eq_some_iff_getElem]
    exact ⟨hi, by simpa using h, fun j hj => by simpa using hn j hj⟩
  unfold findB
  rw [this]
theorem findB_no {l : List ByteArray} {s : ByteArray} (hn : ∀ j (hj : j < l.length), ¬ byt l[j] = byt s) : findB l s = -1 := by
  have : l.findIdx? (fun x => decide (byt x = byt s)) = none := by
    rw [List.findIdx?_eq_none_iff]
    intro x hx
    obtain ⟨j, hj, rfl⟩ := List.mem_iff_getElem.1 hx
    simpa using hn j hj
  unfold findB
  rw [this]
theorem findB_cases (l : List ByteArray) (s : ByteArray) : (findB l s = -1 ∧ ∀ j (hj : j < l.length), ¬ byt l[j] = byt s) ∨ ∃ i, ∃ hi : i < l.length, findB l s = i ∧ byt l[i] = byt s ∧ ∀ j (hj : j < i), ¬ byt (l[j]'(by omega)) = byt s := by
  unfold findB
  cases h : l.findIdx? (fun x => decide (byt x = byt s)) with
  | none =>
    refine .inl ⟨rfl, fun j hj => ?_⟩
    have := List.findIdx?_eq_none_iff.1 h l[j] (List.getElem_mem hj)
    simpa using this
  | some i =>
    obtain ⟨hi, h1, h2⟩ := List.findIdx?_eq_some_iff_getElem.1 h
    exact .inr ⟨i, hi, rfl, by simpa using h1, fun j hj => by simpa using h2 j hj⟩
/-- a slice's head -/
theorem Rw.hd {α : Type} {sz : Nat} {E : Enc α sz} {w : World} {s : Sl} {l : List α} (h : Rw E w s.v l) : l.length = s.n ∧ s.n ≤ 9223372036854775807 := by
  obtain ⟨a, c, e, e1, e2, -⟩ := h
  simp only [maxLen] at e2
  simp only [Value.slice.injEq] at e
  obtain ⟨-, e, -⟩ := e
  omega
theorem RwN.at {w : World} {ao : Option Addr} {n cap : Nat} {l : List Nx} (h : RwN w (.slice ao n cap) l) (i : Nat) (hi : i < l.length) :
    ∃ b o, ao = some ⟨b, o, none⟩ ∧ ∀ j (hj : j < l.length), w.cell? ⟨b, o + j * 3, none⟩ = some (.string l[j].name) ∧ w.cell? ⟨b, o + j * 3 + 1, none⟩ = some l[j].l.v ∧ w.cell? ⟨b, o + j * 3 + 2, none⟩ = some l[j].p.v := by
  obtain ⟨ao', cap', he, -, -, -, h5⟩ := h
  cases he
  obtain ⟨b, o, ha, -⟩ := h5 i hi
  refine ⟨b, o, ha, fun j hj => ?_⟩
  obtain ⟨b', o', ha', hc⟩ := h5 j hj
  rw [ha] at ha'
  cases ha'
  exact ⟨hc 0 (by omega), hc 1 (by omega), hc 2 (by omega)⟩
theorem RwD.at {w : World} {ao : Option Addr} {n cap : Nat} {l : List Dx} (h : RwD w (.slice ao n cap) l) (i : Nat) (hi : i < l.length) :
    ∃ b o, ao = some ⟨b, o, none⟩ ∧ ∀ j (hj : j < l.length), w.cell? ⟨b, o + j * 6, none⟩ = some (.string l[j].name) ∧ w.cell? ⟨b, o + j * 6 + 1, none⟩ = some (.int .i64 l[j].fro) ∧ w.cell? ⟨b, o + j * 6 + 2, none⟩ = some (.int .i64 l[j].to) ∧ w.cell? ⟨b, o + j * 6 + 3, none⟩ = some (.bool l[j].dir) ∧ w.cell? ⟨b, o + j * 6 + 4, none⟩ = some l[j].l.v ∧ w.cell? ⟨b, o + j * 6 + 5, none⟩ = some l[j].p.v := by
  obtain ⟨ao', cap', he, -, -, -, h5⟩ := h
  cases he
  obtain ⟨b, o, ha, -⟩ := h5 i hi
  refine ⟨b, o, ha, fun j hj => ?_⟩
  obtain ⟨b', o', ha', hc⟩ := h5 j hj
  rw [ha] at ha'
  cases ha'
  exact ⟨hc 0 (by omega), hc 1 (by omega), hc 2 (by omega), hc 3 (by omega), hc 4 (by omega), hc 5 (by omega)⟩
/-- the names of a graph's nodes and edges -/
def namesN (g : Gd) : List ByteArray := g.nodes.map Nd.name
def namesD (g : Gd) : List ByteArray := g.edges.map Ed.name
theorem Ns.names {w : World} {l : List Nd} {xs : List Nx} (h : Ns w l xs) : xs.map Nx.name = l.map Nd.name := by
  apply List.ext_getElem
  · simp [h.1]
  · intro i h1 h2
    simp only [List.length_map] at h1 h2
    simpa using (h.2 i h2 h1).1
theorem Ds.names {w : World} {l : List Ed} {xs : List Dx} (h : Ds w l xs) : xs.map Dx.name = l.map Ed.name := by
  apply List.ext_getElem
  · simp [h.1]
  · intro i h1 h2
    simp only [List.length_map] at h1 h2
    simpa using (h.2 i h2 h1).1
set_option maxRecDepth 100000 in
set_option maxHeartbeats 4000000 in
theorem rfindNX (xs : List Nx) (ns es : Sl) (nm : ByteArray) (w : World) (h : RwN w ns.v xs) :
    Calls Try.prog 18 #[.agg #[ns.v, es.v], .string nm] w fun e w' => e = .returned (.int .i64 (findB (xs.map Nx.name) nm)) ∧ Below w.heap.size w w' := by
  obtain ⟨ao, L, cap⟩ := ns
  have B0 := below_a1 w (.cells #[(Sl.v ⟨ao, L, cap⟩), es.v] 25)
  have HV := Lib.hid (Vr.new w 25 #[(Sl.v ⟨ao, L, cap⟩), es.v])
  have HR := Lib.hid (h.keep B0)
  have HL := Lib.hid h.hd.1
  have hLm := h.hd.2
  clear h
  dsimp only [Sl.v] at hLm HL HR HV B0
  go_enter Try.func18, Try.ntmps18
  go_wp2_with fail
  go_loopg [5] L (fun g s5 wr => ∃ i : Nat, g + i = L ∧ s5 = .int .i64 i ∧ (∀ j (hj : j < i) (hj' : j < xs.length), ¬ byt xs[j].name = byt nm) ∧ Below (w.alloc (.cells #[(.slice ao L cap), (.slice es.a es.n es.c)] 25)).heap.size (w.alloc (.cells #[(.slice ao L cap), (.slice es.a es.n es.c)] 25)) wr)
  case atStart => exact ⟨0, rfl, rfl, fun j hj => absurd hj (Nat.not_lt_zero j), Below.refl _ _⟩
  case round =>
    obtain ⟨i, hg, rfl, hy, hb⟩ := hrel
    have qg := (HV.out.keep hb).cell 0
    simp only [List.getElem?_toArray, List.getElem?_cons_zero] at qg
    by_cases hlt : i < L
    · have ii : (i : Int) < (L : Int) := by omega
      have hi : i < xs.length := by rw [HL.out]; exact hlt
      obtain ⟨b, o, rfl, hc⟩ := RwN.at (HR.out.keep hb) i hi
      have q0 := (hc i hi).1
      have HT := Lib.hid (show xs[i].name.toList = nm.toList → findB (xs.map Nx.name) nm = i by
        intro e
        rw [tl_byt, tl_byt] at e
        exact findB_at (by simpa using hi) (by simpa using e) (fun j hj => by simpa using hy j hj (by omega)))
      have HF := Lib.hid (show ¬ xs[i].name.toList = nm.toList → ∀ j (hj : j < i + 1) (hj' : j < xs.length), ¬ byt xs[j].name = byt nm by
        intro e j hj hj'
        rw [tl_byt, tl_byt] at e
        by_cases hji : j = i
        · subst hji
          exact e
        · exact hy j (by omega) hj')
      clear hc hy
      generalize xs[i] = z at *
      cases hz : z.name.toList == nm.toList
      · have HF2 := Lib.hid (HF.out (by simpa using hz))
        go_wp2_with fail
        go_roundg (L - (i + 1))
        case rel => exact ⟨i + 1, by omega, by go_num, HF2.out, hb⟩
        case measure => omega
      · have HT2 := Lib.hid (HT.out (by simpa using hz))
        go_wp2_with fail
        go_ret
        exact ⟨by rw [HT2.out]; rfl, Below.chain B0 hb⟩
    · obtain rfl : L = i := by omega
      have ii : ¬ ((L : Int) < (L : Int)) := by omega
      have HY := Lib.hid (show findB (xs.map Nx.name) nm = -1 from findB_no (fun j hj => by
        simp only [List.length_map] at hj
        simpa using hy j (by rw [← HL.out]; exact hj) hj))
      clear hy
      go_wp2_with fail
      go_ret
      exact ⟨by rw [HY.out]; rfl, Below.chain B0 hb⟩
set_option maxRecDepth 100000 in
set_option maxHeartbeats 4000000 in
theorem rfindDX (xs : List Dx) (ns es : Sl) (nm : ByteArray) (w : World) (h : RwD w es.v xs) :
    Calls Try.prog 19 #[.agg #[ns.v, es.v], .string nm] w fun e w' => e = .returned (.int .i64 (findB (xs.map Dx.name) nm)) ∧ Below w.heap.size w w' := by
  obtain ⟨ao, L, cap⟩ := es
  have B0 := below_a1 w (.cells #[ns.v, (Sl.v ⟨ao, L, cap⟩)] 25)
  have HV := Lib.hid (Vr.new w 25 #[ns.v, (Sl.v ⟨ao, L, cap⟩)])
  have HR := Lib.hid (h.keep B0)
  have HL := Lib.hid h.hd.1
  have hLm := h.hd.2
  clear h
  dsimp only [Sl.v] at hLm HL HR HV B0
  go_enter Try.func19, Try.ntmps19
  go_wp2_with fail
  go_loopg [5] L (fun g s5 wr => ∃ i : Nat, g + i = L ∧ s5 = .int .i64 i ∧ (∀ j (hj : j < i) (hj' : j < xs.length), ¬ byt xs[j].name = byt nm) ∧ Below (w.alloc (.cells #[(.slice ns.a ns.n ns.c), (.slice ao L cap)] 25)).heap.size (w.alloc (.cells #[(.slice ns.a ns.n ns.c), (.slice ao L cap)] 25)) wr)
  case atStart => exact ⟨0, rfl, rfl, fun j hj => absurd hj (Nat.not_lt_zero j), Below.refl _ _⟩
  case round =>
    obtain ⟨i, hg, rfl, hy, hb⟩ := hrel
    have qg := (HV.out.keep hb).cell 1
    simp only [List.getElem?_toArray, List.getElem?_cons_zero, List.getElem?_cons_succ] at qg
    by_cases hlt : i < L
    · have ii : (i : Int) < (L : Int) := by omega
      have hi : i < xs.length := by rw [HL.out]; exact hlt
      obtain ⟨b, o, rfl, hc⟩ := RwD.at (HR.out.keep hb) i hi
      have q0 := (hc i hi).1
      have HT := Lib.hid (show xs[i].name.toList = nm.toList → findB (xs.map Dx.name) nm = i by
        intro e
        rw [tl_byt, tl_byt] at e
        exact findB_at (by simpa using hi) (by simpa using e) (fun j hj => by simpa using hy j hj (by omega)))
      have HF := Lib.hid (show ¬ xs[i].name.toList = nm.toList → ∀ j (hj : j < i + 1) (hj' : j < xs.length), ¬ byt xs[j].name = byt nm by
        intro e j hj hj'
        rw [tl_byt, tl_byt] at e
        by_cases hji : j = i
        · subst hji
          exact e
        · exact hy j (by omega) hj')
      clear hc hy
      generalize xs[i] = z at *
      cases hz : z.name.toList == nm.toList
      · have HF2 := Lib.hid (HF.out (by simpa using hz))
        go_wp2_with fail
        go_roundg (L - (i + 1))
        case rel => exact ⟨i + 1, by omega, by go_num, HF2.out, hb⟩
        case measure => omega
      · have HT2 := Lib.hid (HT.out (by simpa using hz))
        go_wp2_with fail
        go_ret
        exact ⟨by rw [HT2.out]; rfl, Below.chain B0 hb⟩
    · obtain rfl : L = i := by omega
      have ii : ¬ ((L : Int) < (L : Int)) := by omega
      have HY := Lib.hid (show findB (xs.map Dx.name) nm = -1 from findB_no (fun j hj => by
        simp only [List.length_map] at hj
        simpa using hy j (by rw [← HL.out]; exact hj) hj))
      clear hy
      go_wp2_with fail
      go_ret
      exact ⟨by rw [HY.out]; rfl, Below.chain B0 hb⟩
/-- Find and FindEdge of a graph -/
theorem rfind_any {g : Gd} {x : Gx} {w : World} (h : Gz w g x) (nm : ByteArray) :
    Calls Try.prog 18 #[gv x, .string nm] w fun e w' => e = .returned (.int .i64 (findB (namesN g) nm)) ∧ Below w.heap.size w w' := by
  obtain ⟨⟨xs, h1, h2⟩, -⟩ := h
  have := rfindNX xs x.ns x.es nm w h1
  rw [h2.names] at this
  exact this
theorem rfinde_any {g : Gd} {x : Gx} {w : World} (h : Gz w g x) (nm : ByteArray) :
    Calls Try.prog 19 #[gv x, .string nm] w fun e w' => e = .returned (.int .i64 (findB (namesD g) nm)) ∧ Below w.heap.size w w' := by
  obtain ⟨-, ⟨xs, h1, h2⟩, -⟩ := h
  have := rfindDX xs x.ns x.es nm w h1
  rw [h2.names] at this
  exact this
end Go.Proofs.Ytdoefndppoglfaa
