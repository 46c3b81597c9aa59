import Derived.Test.YtdoefndppoglfaaG9
import Derived.ProofKit
import Derived.OpenShut
import Derived.Carry
import Derived.ChangeSlices
import Derived.Lib.SmallJoins
import Derived.Laws.Cover2
import Derived.Deep.Slices
import Derived.WalkLawsBesides
namespace Go.Proofs.Ytdoefndppoglfaa
open Go Go.ChangeShapes Go.WideShapes Go.ChangeAt Go.RowKit
open Go.Joins
set_option linter.unusedVariables false
/-- the value of a name among properties -/
def lookV (l : List Pr) (s : ByteArray) : Vl := ((l.find? fun p => decide (byt p.1 = byt s)).map Prod.snd).getD ⟨0, 0, 0, ⟨#[]⟩⟩
theorem lookV_at {l : List Pr} {s : ByteArray} {i : Nat} (hi : i < l.length) (h : byt l[i].1 = byt s) (hn : ∀ j (hj : j < i), ¬ byt (l[j]'(by omega)).1 = byt s) : lookV l s = l[i].2 := by
  have : (l.find? fun p => decide (byt p.1 = byt s)) = some l[i] := by
    rw [List.find?_eq_some_iff_getElem]
    exact ⟨by simpa using h, i, hi, rfl, fun j hj => by simpa using hn j hj⟩
  unfold lookV
  rw [this]
  rfl
theorem lookV_no {l : List Pr} {s : ByteArray} (hn : ∀ j (hj : j < l.length), ¬ byt l[j].1 = byt s) : lookV l s = ⟨0, 0, 0, ⟨#[]⟩⟩ := by
  have : (l.find? fun p => decide (byt p.1 = byt s)) = none := by
    rw [List.find?_eq_none]
    intro x hx
    obtain ⟨j, hj, rfl⟩ := List.mem_iff_getElem.1 hx
    simpa using hn j hj
  unfold lookV
  rw [this]
  rfl
abbrev vv (v : Vl) : Value := .agg #[.int .i64 v.k, .int .i64 v.n, .float .f64 v.f, .string v.s]
theorem Lies.set {w : World} {b : Nat} {u0 u1 u2 u3 : Value} (h : Lies w b u0 u1 u2 u3) (v0 v1 v2 v3 : Value) :
    Lies ((((w.setCell ⟨b, 0, none⟩ v0).setCell ⟨b, 1, none⟩ v1).setCell ⟨b, 2, none⟩ v2).setCell ⟨b, 3, none⟩ v3) b v0 v1 v2 v3 := by
  obtain ⟨h0, h1, h2, h3⟩ := h
  refine ⟨?_, ?_, ?_, ?_⟩ <;> go_simp
theorem below_set4 {n : Nat} {w w' : World} {b : Nat} (h : Below n w w') (hb : n ≤ b) (v0 v1 v2 v3 : Value) :
    Below n w ((((w'.setCell ⟨b, 0, none⟩ v0).setCell ⟨b, 1, none⟩ v1).setCell ⟨b, 2, none⟩ v2).setCell ⟨b, 3, none⟩ v3) := (((h.setCell hb _).setCell hb _).setCell hb _).setCell hb _
theorem Vr.lies {w : World} {b : Nat} {e : TypeId} {v0 v1 v2 v3 : Value} (h : Vr w b e #[v0, v1, v2, v3]) : Lies w b v0 v1 v2 v3 := ⟨h.cell 0, h.cell 1, h.cell 2, h.cell 3⟩
set_option maxRecDepth 100000 in
set_option maxHeartbeats 4000000 in
theorem rprop_any {g : Gd} {x : Gx} {w : World} (h : Gz w g x) (edge : Bool) (id : Int) (nm : ByteArray) :
    Calls Try.prog 22 #[gv x, .agg #[.bool edge, .int .i64 id], .string nm] w fun e w' => e = .returned (vv (lookV (propsG g edge id) nm)) ∧ Below w.heap.size w w' := by
  have hsf := run_store_float
  obtain ⟨⟨na, nn, nc⟩, ⟨ea, en, ec⟩⟩ := x
  have B0 := (below_a1 w (.cells #[(Sl.v ⟨na, nn, nc⟩), (Sl.v ⟨ea, en, ec⟩)] 25))
  have B1 := (Below.chain B0 (below_a1 _ (.cells #[.bool edge, .int .i64 id] 27)))
  have B2 := Lib.hid (Below.chain B1 (below_a1 _ (.cells #[.int .i64 0, .int .i64 0, .float .f64 0, .string ⟨#[]⟩] 52)))
  have C := Lib.hid (rhas7_any (h.keep B2.out) edge id)
  have VR := Lib.hid (Vr.new ((w.alloc (.cells #[(Sl.v ⟨na, nn, nc⟩), (Sl.v ⟨ea, en, ec⟩)] 25)).alloc (.cells #[.bool edge, .int .i64 id] 27)) 52 #[.int .i64 0, .int .i64 0, .float .f64 0, .string ⟨#[]⟩])
  clear B0 B1
  dsimp only [Sl.v, gv] at B2 C VR ⊢
  generalize propsG g edge id = l at *
  go_enter Try.func22, Try.ntmps22
  go_wp2_with fail
  (with_reducible refine C.out.mono ?_); rintro e w2 ⟨s, p, rfl, h1, h2, hb2⟩
  have hv2 := VR.out.keep hb2
  simp only [World.size_alloc] at hv2
  have VR2 := Lib.hid hv2
  clear hv2
  have HB := Lib.hid (Below.chain B2.out hb2)
  have HR := Lib.hid h2
  have HL := Lib.hid h2.hd.1
  have hLm := h2.hd.2
  obtain ⟨ao, L, cap⟩ := p
  dsimp only [Sl.v] at HR HL hLm
  clear hb2 h1 h2
  go_wp2_with fail
  go_loopg [9] L (fun gg s9 wr => ∃ i : Nat, gg + i = L ∧ s9 = .int .i64 i ∧ (∀ j (hj : j < i) (hj' : j < l.length), ¬ byt l[j].1 = byt nm) ∧ Below w2.heap.size w2 wr)
  case atStart => exact ⟨0, rfl, rfl, fun j hj => absurd hj (Nat.not_lt_zero j), Below.refl _ _⟩
  case round =>
    obtain ⟨i, hg, rfl, hy, hb⟩ := hrel
    have HY := Lib.hid (VR2.out.keep hb)
    obtain ⟨y0, y1, y2, y3⟩ := HY.out.lies
    have t0 := HY.out.thaw 0
    have t1 := HY.out.thaw 1
    have t2 := HY.out.thaw 2
    have t3 := HY.out.thaw 3
    by_cases hlt : i < L
    · have ii : (i : Int) < (L : Int) := by omega
      have hi : i < l.length := by rw [HL.out]; exact hlt
      obtain ⟨b, o, rfl, q0, q1, q2, q3, q4⟩ := RwP.at (HR.out.keep hb) i hi
      have HT := Lib.hid (show l[i].1.toList = nm.toList → lookV l nm = l[i].2 by
        intro e
        rw [tl_byt, tl_byt] at e
        exact lookV_at hi e (fun j hj => hy j hj (by omega)))
      have HF := Lib.hid (show ¬ l[i].1.toList = nm.toList → ∀ j (hj : j < i + 1) (hj' : j < l.length), ¬ byt l[j].1 = byt nm by
        intro e j hj hj'
        rw [tl_byt, tl_byt] at e
        by_cases hji : j = i
        · subst hji
          exact e
        · exact hy j (by omega) hj')
      clear hy
      generalize l[i] = z at *
      obtain ⟨zn, ⟨zk, zm, zf, zs⟩⟩ := z
      dsimp only at q0 q1 q2 q3 q4 HT HF
      cases hz : zn.toList == nm.toList
      · have HF2 := Lib.hid (HF.out (by simpa using hz))
        clear HT HF
        go_wp2_with fail
        go_roundg (L - (i + 1))
        case rel => exact ⟨i + 1, by omega, by go_num, HF2.out, hb⟩
        case measure => omega
      · have HT2 := Lib.hid (HT.out (by simpa using hz))
        clear HT HF
        go_wp2_with fail
        refine ret_v rfl rfl rfl (Lies.set HY.out.lies _ _ _ _) ?_
        exact ⟨by rw [HT2.out], below_set4 (HB.out.trans (hb.mono HB.out.size)) (by omega) _ _ _ _⟩
    · obtain rfl : L = i := by omega
      have ii : ¬ ((L : Int) < (L : Int)) := by omega
      have HX := Lib.hid (show lookV l nm = ⟨0, 0, 0, ⟨#[]⟩⟩ from lookV_no (fun j hj => hy j (by rw [← HL.out]; exact hj) hj))
      clear hy
      go_wp2_with fail
      refine ret_v rfl rfl rfl (Lies.set HY.out.lies _ _ _ _) ?_
      exact ⟨by rw [HX.out], below_set4 (HB.out.trans (hb.mono HB.out.size)) (by omega) _ _ _ _⟩
end Go.Proofs.Ytdoefndppoglfaa
