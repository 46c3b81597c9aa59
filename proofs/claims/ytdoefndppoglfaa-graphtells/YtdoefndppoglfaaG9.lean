import Derived.Test.YtdoefndppoglfaaG8
import Derived.ProofKit
import Derived.OpenShut
import Derived.Carry
import Derived.ChangeSlices
import Derived.Lib.SmallJoins
import Derived.Laws.Cover2
import Derived.Deep.Slices
import Derived.WalkLawsBesides
namespace Go.Proofs.Ytdoefndppoglfaa
open Go Go.ChangeShapes Go.WideShapes Go.ChangeAt Go.RowKit
open Go.Joins
set_option linter.unusedVariables false
/-- an element's labels and properties -/
def labelsG (g : Gd) (edge : Bool) (id : Int) : List ByteArray :=
  if edge = true then (if 0 ≤ id ∧ id < g.edges.length then g.edges[id.toNat]!.labels else []) else (if 0 ≤ id ∧ id < g.nodes.length then g.nodes[id.toNat]!.labels else [])
def propsG (g : Gd) (edge : Bool) (id : Int) : List Pr :=
  if edge = true then (if 0 ≤ id ∧ id < g.edges.length then g.edges[id.toNat]!.props else []) else (if 0 ≤ id ∧ id < g.nodes.length then g.nodes[id.toNat]!.props else [])
set_option maxRecDepth 100000 in
set_option maxHeartbeats 4000000 in
theorem rhas_core (g : Gd) (xs : List Nx) (ys : List Dx) (ns es : Sl) (edge : Bool) (id : Int) (w : World) (h : RwN w ns.v xs) (h' : RwD w es.v ys) (k : Ns w g.nodes xs) (k' : Ds w g.edges ys) :
    Calls Try.prog 46 #[.agg #[ns.v, es.v], .agg #[.bool edge, .int .i64 id]] w fun e w' => ∃ s p : Sl, e = .returned (.tuple #[s.v, p.v]) ∧ RwS w' s.v (labelsG g edge id) ∧ RwP w' p.v (propsG g edge id) ∧ Below w.heap.size w w' := by
  have l1 := h.hd
  have l2 := h'.hd
  have n1 := k.1
  have n2 := k'.1
  obtain ⟨ao, L, cap⟩ := ns
  obtain ⟨bo, M, cbp⟩ := es
  dsimp only at l1 l2
  have B0 := (below_a1 w (.cells #[(Sl.v ⟨ao, L, cap⟩), (Sl.v ⟨bo, M, cbp⟩)] 25))
  have B1 := Lib.hid (Below.chain B0 (below_a1 _ (.cells #[.bool edge, .int .i64 id] 27)))
  have HR := Lib.hid (h.keep B1.out)
  have HK := Lib.hid (k.keep B1.out)
  have HR2 := Lib.hid (h'.keep B1.out)
  have HK2 := Lib.hid (k'.keep B1.out)
  have HL := Lib.hid l1.1
  have HM := Lib.hid l2.1
  have HN := Lib.hid n1
  have HN2 := Lib.hid n2
  clear h k h' k' l1 l2 n1 n2 B0
  dsimp only [Sl.v] at HR HR2 B1 HK HK2 ⊢
  cases edge
  · by_cases hid : 0 ≤ id ∧ id < (L : Int)
    · obtain ⟨i, rfl⟩ : ∃ i : Nat, id = (i : Int) := ⟨id.toNat, by omega⟩
      have i0 : ((i : Int) ≥ 0) := by omega
      have i1 : ((i : Int) < (L : Int)) := hid.2
      have hi : i < xs.length := by have := HL.out; omega
      have hi' : i < g.nodes.length := by rw [HN.out]; exact hi
      obtain ⟨b, o, rfl, hc⟩ := RwN.at HR.out i hi
      obtain ⟨q0, q1, q2⟩ := hc i hi
      obtain ⟨z0, z1, z2, z3, z4, z5⟩ := HK.out.2 i hi' hi
      have EL := Lib.hid (show labelsG g false (i : Int) = g.nodes[i].labels by
        unfold labelsG
        rw [if_neg (by simp), if_pos ⟨i0, by rw [HN.out, HL.out]; exact i1⟩, Int.toNat_natCast, getElem!_pos g.nodes i hi'])
      have EP := Lib.hid (show propsG g false (i : Int) = g.nodes[i].props by
        unfold propsG
        rw [if_neg (by simp), if_pos ⟨i0, by rw [HN.out, HL.out]; exact i1⟩, Int.toNat_natCast, getElem!_pos g.nodes i hi'])
      have Z1 := Lib.hid z1
      have Z2 := Lib.hid z2
      clear hc z0 z1 z2 z3 z4 z5
      generalize xs[i] = x at *
      obtain ⟨xn, ⟨xla, xln, xlc⟩, ⟨xpa, xpn, xpc⟩⟩ := x
      dsimp only [Sl.v] at q0 q1 q2 Z1 Z2
      go_enter Try.func46, Try.ntmps46
      go_wp2_with fail
      go_region
      all_goals
        go_wp2_with fail
        go_ret2
        exact ⟨⟨xla, xln, xlc⟩, ⟨xpa, xpn, xpc⟩, rfl, by rw [EL.out]; exact Z1.out.keep (Below.refl _ _).drew, by rw [EP.out]; exact Z2.out.keep (Below.refl _ _).drew, B1.out.drew⟩
    · have EL := Lib.hid (show labelsG g false id = [] by
        unfold labelsG
        rw [if_neg (by simp), if_neg (by rw [HN.out, HL.out]; exact hid)])
      have EP := Lib.hid (show propsG g false id = [] by
        unfold propsG
        rw [if_neg (by simp), if_neg (by rw [HN.out, HL.out]; exact hid)])
      go_enter Try.func46, Try.ntmps46
      go_wp2_with fail
      all_goals first
        | (exfalso; omega)
        | (go_ret2
           exact ⟨⟨none, 0, 0⟩, ⟨none, 0, 0⟩, rfl, by rw [EL.out]; exact Rw.nil _, by rw [EP.out]; exact Rw.nil _, B1.out⟩)
  · by_cases hid : 0 ≤ id ∧ id < (M : Int)
    · obtain ⟨i, rfl⟩ : ∃ i : Nat, id = (i : Int) := ⟨id.toNat, by omega⟩
      have i0 : ((i : Int) ≥ 0) := by omega
      have i1 : ((i : Int) < (M : Int)) := hid.2
      have hi : i < ys.length := by have := HM.out; omega
      have hi' : i < g.edges.length := by rw [HN2.out]; exact hi
      obtain ⟨b, o, rfl, hc⟩ := RwD.at HR2.out i hi
      obtain ⟨q0, q1, q2, q3, q4, q5⟩ := hc i hi
      obtain ⟨z0, z1, z2, z3, z4, z5, z6, z7, z8, z9, zA⟩ := HK2.out.2 i hi' hi
      have EL := Lib.hid (show labelsG g true (i : Int) = g.edges[i].labels by
        unfold labelsG
        rw [if_pos rfl, if_pos ⟨i0, by rw [HN2.out, HM.out]; exact i1⟩, Int.toNat_natCast, getElem!_pos g.edges i hi'])
      have EP := Lib.hid (show propsG g true (i : Int) = g.edges[i].props by
        unfold propsG
        rw [if_pos rfl, if_pos ⟨i0, by rw [HN2.out, HM.out]; exact i1⟩, Int.toNat_natCast, getElem!_pos g.edges i hi'])
      have Z1 := Lib.hid z6
      have Z2 := Lib.hid z7
      clear hc z0 z1 z2 z3 z4 z5 z6 z7 z8 z9 zA
      generalize ys[i] = x at *
      obtain ⟨xn, xf, xt, xd, ⟨xla, xln, xlc⟩, ⟨xpa, xpn, xpc⟩⟩ := x
      dsimp only [Sl.v] at q0 q1 q2 q3 q4 q5 Z1 Z2
      go_enter Try.func46, Try.ntmps46
      go_wp2_with fail
      go_region
      all_goals
        go_wp2_with fail
        go_ret2
        exact ⟨⟨xla, xln, xlc⟩, ⟨xpa, xpn, xpc⟩, rfl, by rw [EL.out]; exact Z1.out.keep (Below.refl _ _).drew, by rw [EP.out]; exact Z2.out.keep (Below.refl _ _).drew, B1.out.drew⟩
    · have EL := Lib.hid (show labelsG g true id = [] by
        unfold labelsG
        rw [if_pos rfl, if_neg (by rw [HN2.out, HM.out]; exact hid)])
      have EP := Lib.hid (show propsG g true id = [] by
        unfold propsG
        rw [if_pos rfl, if_neg (by rw [HN2.out, HM.out]; exact hid)])
      go_enter Try.func46, Try.ntmps46
      go_wp2_with fail
      all_goals first
        | (exfalso; omega)
        | (go_ret2
           exact ⟨⟨none, 0, 0⟩, ⟨none, 0, 0⟩, rfl, by rw [EL.out]; exact Rw.nil _, by rw [EP.out]; exact Rw.nil _, B1.out⟩)
theorem rhas7_any {g : Gd} {x : Gx} {w : World} (h : Gz w g x) (edge : Bool) (id : Int) :
    Calls Try.prog 46 #[gv x, .agg #[.bool edge, .int .i64 id]] w fun e w' => ∃ s p : Sl, e = .returned (.tuple #[s.v, p.v]) ∧ RwS w' s.v (labelsG g edge id) ∧ RwP w' p.v (propsG g edge id) ∧ Below w.heap.size w w' := by
  obtain ⟨⟨xs, h1, h2⟩, ⟨ys, h3, h4⟩, -⟩ := h
  exact rhas_core g xs ys x.ns x.es edge id w h1 h3 h2 h4
set_option maxRecDepth 100000 in
set_option maxHeartbeats 4000000 in
theorem rlabels_any {g : Gd} {x : Gx} {w : World} (h : Gz w g x) (edge : Bool) (id : Int) :
    Calls Try.prog 25 #[gv x, .agg #[.bool edge, .int .i64 id]] w fun e w' => ∃ s : Sl, e = .returned s.v ∧ RwS w' s.v (labelsG g edge id) ∧ Below w.heap.size w w' := by
  obtain ⟨⟨na, nn, nc⟩, ⟨ea, en, ec⟩⟩ := x
  have B0 := (below_a1 w (.cells #[(Sl.v ⟨na, nn, nc⟩), (Sl.v ⟨ea, en, ec⟩)] 25))
  have B1 := Lib.hid (Below.chain B0 (below_a1 _ (.cells #[.bool edge, .int .i64 id] 27)))
  have C := Lib.hid (rhas7_any (h.keep B1.out) edge id)
  clear B0
  dsimp only [Sl.v, gv] at B1 C ⊢
  go_enter Try.func25, Try.ntmps25
  go_wp2_with fail
  (with_reducible refine C.out.mono ?_); rintro e w2 ⟨s, p, rfl, h1, h2, hb2⟩
  go_wp2_with fail
  go_ret
  exact ⟨s, rfl, h1, Below.chain B1.out hb2⟩
end Go.Proofs.Ytdoefndppoglfaa
