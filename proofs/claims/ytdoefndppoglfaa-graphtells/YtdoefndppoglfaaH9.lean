import Derived.Test.YtdoefndppoglfaaH7
import Derived.Deep.QuietTactic
import Derived.BigQuiet
import Derived.Maps.OwnSet
namespace Go.Proofs.Ytdoefndppoglfaa
open Go Go.ChangeShapes Go.WideShapes Go.ChangeAt Go.RowKit
open Go.Joins
open Go.Maps
set_option linter.unusedVariables false
/-! ### an index in memory -/
abbrev RwL := Rw encL
def encR : Enc Sl 1 where
  enc s := [s.v]
  len s := rfl
  one s u hu := by
    simp only [List.mem_cons, List.not_mem_nil, or_false] at hu
    subst hu; rfl
abbrev RwR := Rw encR
/-- each node's leads -/
def Lrows (w : World) (g : Gd) (v : Value) : Prop := ∃ rows : List Sl, RwR w v rows ∧ rows.length = g.nodes.length ∧ ∀ i (h : i < rows.length), RwL w rows[i].v (rowOf (seqN g.edges g.edges.length) i)
theorem Lrows.keep {w w' : World} {g : Gd} {v : Value} (h : Lrows w g v) (hb : Below w.heap.size w w') : Lrows w' g v := by
  obtain ⟨rows, h1, h2, h3⟩ := h
  exact ⟨rows, h1.keep hb, h2, fun i hi => (h3 i hi).keep hb⟩
/-- an index of a graph, in block p -/
def Ix (w : World) (p : Nat) (g : Gd) : Prop := ∃ (x : Gx) (m1 m2 : Nat) (ls : Sl), Vr w p 83 #[x.ns.v, x.es.v, .map (some m1), .map (some m2), ls.v] ∧ Gz w g x ∧
  Mp w m1 g.nodes.length (Dn (namesN g) g.nodes.length) ∧ Mp w m2 g.edges.length (Dn (namesD g) g.edges.length) ∧ Lrows w g ls.v ∧ ls.n = g.nodes.length
theorem Ix.keep {w w' : World} {p : Nat} {g : Gd} (h : Ix w p g) (hb : Below w.heap.size w w') : Ix w' p g := by
  obtain ⟨x, m1, m2, ls, h1, h2, h3, h4, h5, h6⟩ := h
  exact ⟨x, m1, m2, ls, h1.keep hb, h2.keep hb, ownsMap_keep h3 hb, ownsMap_keep h4 hb, h5.keep hb, h6⟩
abbrev pv (p : Nat) : Value := .pointer (some ⟨p, 0, none⟩)
/-! ### places of names -/
theorem right_dist {g : Gd} (h : rightG g = 0) : Dist (namesN g) g.nodes.length ∧ Dist (namesD g) g.edges.length := by
  have h1 := (right_parts h).2.2.1
  have h2 := (right_parts h).2.2.2
  rw [nodesB_eq, Bool.and_eq_true] at h1
  rw [edgesB_eq, Bool.and_eq_true] at h2
  have l1 : (namesN g).length = g.nodes.length := by simp [namesN]
  have l2 : (namesD g).length = g.edges.length := by simp [namesD]
  have a1 := h1.2
  have a2 := h2.2
  unfold distB at a1 a2
  rw [decide_eq_true_eq, Dn_size] at a1 a2
  rw [l1] at a1
  rw [l2] at a2
  exact ⟨a1, a2⟩
theorem find_dn (l : List ByteArray) (s : ByteArray) (hd : Dist l l.length) (c : Int) (hc : (Dn l l.length).atKey (ky s) (.lit (.int .i64 0)) = .lit (.int .i64 c)) :
    c = max (findB l s) 0 ∧ Maps.has (Dn l l.length) (ky s) = decide (0 ≤ findB l s) := by
  rcases findB_cases l s with ⟨h1, h2⟩ | ⟨i, hi, h1, h2, h3⟩
  · have hn : Maps.has (Dn l l.length) (ky s) = false := by
      rw [Bool.eq_false_iff]
      intro h
      obtain ⟨j, hj, he⟩ := (Dn_has l s l.length).1 h
      rw [getElem!_pos l j hj] at he
      exact h2 j hj he
    rw [atKey_of_not_has hn] at hc
    simp only [DataW.lit.injEq, Lit.int.injEq, true_and] at hc
    rw [h1, hn, ← hc]
    exact ⟨rfl, rfl⟩
  · have hy : Maps.has (Dn l l.length) (ky s) = true := (Dn_has l s l.length).2 ⟨i, hi, by rw [getElem!_pos l i hi]; exact h2⟩
    rw [Dn_at l s _ l.length hd i hi (by rw [getElem!_pos l i hi]; exact h2)] at hc
    simp only [DataW.lit.injEq, Lit.int.injEq, true_and] at hc
    rw [h1, hy, ← hc]
    refine ⟨by omega, ?_⟩
    have : (0 : Int) ≤ (i : Int) := by omega
    simp [this]
/-- Find -/
theorem find7_any {g : Gd} {p : Nat} {w : World} (h : Ix w p g) (hr : rightG g = 0) (s : ByteArray) (hs : s.size ≤ maxLen) :
    Calls Try.prog 16 #[pv p, .string s] w fun e w' => e = .returned (.tuple #[.int .i64 (max (findB (namesN g) s) 0), .bool (decide (0 ≤ findB (namesN g) s))]) ∧ Below w.heap.size w w' := by
  obtain ⟨x, m1, m2, ls, hv, -, h3, h4, -, -⟩ := h
  have HD := Lib.hid (right_dist hr).1
  have HM := Lib.hid h3
  have q := hv.cell 2
  simp only [List.getElem?_toArray, List.getElem?_cons_zero, List.getElem?_cons_succ] at q
  have hkey : keyOf Try.prog 9 (.string s) = some (ky s) := Go.WideMaps.keyOf_string_mk Try.underlying9 hs
  have HL := Lib.hid (show (namesN g).length = g.nodes.length by simp [namesN])
  clear hv h3 h4 hs hr
  have HF := Lib.hid (fun c hc => find_dn (namesN g) s (by rw [HL.out]; exact HD.out) c (by rw [HL.out]; exact hc))
  rw [HL.out] at HF
  generalize findB (namesN g) s = fb at *
  go_enter Try.func16, Try.ntmps16
  go_wp2_with (at_lookup; refine wpList_lookup_own_ok_int _ rfl _ _ 76 rfl 9 3 .i64 lawS Try.underlying76 Try.underlying3 (Try.zeroValue3 _) m1 _ _ rfl HM.out _ _ rfl hkey ?_; intro c hat hwf; obtain ⟨e1, e2⟩ := HF.out c hat; clear hat hwf; subst e1)
  all_goals
    go_ret2
    exact ⟨rfl, Below.refl _ _⟩
/-- FindEdge -/
theorem finde7_any {g : Gd} {p : Nat} {w : World} (h : Ix w p g) (hr : rightG g = 0) (s : ByteArray) (hs : s.size ≤ maxLen) :
    Calls Try.prog 17 #[pv p, .string s] w fun e w' => e = .returned (.tuple #[.int .i64 (max (findB (namesD g) s) 0), .bool (decide (0 ≤ findB (namesD g) s))]) ∧ Below w.heap.size w w' := by
  obtain ⟨x, m1, m2, ls, hv, -, h3, h4, -, -⟩ := h
  have HD := Lib.hid (right_dist hr).2
  have HM := Lib.hid h4
  have q := hv.cell 3
  simp only [List.getElem?_toArray, List.getElem?_cons_zero, List.getElem?_cons_succ] at q
  have hkey : keyOf Try.prog 9 (.string s) = some (ky s) := Go.WideMaps.keyOf_string_mk Try.underlying9 hs
  have HL := Lib.hid (show (namesD g).length = g.edges.length by simp [namesD])
  clear hv h3 h4 hs hr
  have HF := Lib.hid (fun c hc => find_dn (namesD g) s (by rw [HL.out]; exact HD.out) c (by rw [HL.out]; exact hc))
  rw [HL.out] at HF
  generalize findB (namesD g) s = fb at *
  go_enter Try.func17, Try.ntmps17
  go_wp2_with (at_lookup; refine wpList_lookup_own_ok_int _ rfl _ _ 76 rfl 9 3 .i64 lawS Try.underlying76 Try.underlying3 (Try.zeroValue3 _) m2 _ _ rfl HM.out _ _ rfl hkey ?_; intro c hat hwf; obtain ⟨e1, e2⟩ := HF.out c hat; clear hat hwf; subst e1)
  all_goals
    go_ret2
    exact ⟨rfl, Below.refl _ _⟩
end Go.Proofs.Ytdoefndppoglfaa
