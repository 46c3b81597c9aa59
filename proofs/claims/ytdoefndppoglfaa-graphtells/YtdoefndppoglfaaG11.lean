import Derived.Test.YtdoefndppoglfaaG10
import Derived.ProofKit
import Derived.OpenShut
import Derived.Carry
import Derived.ChangeSlices
import Derived.Lib.SmallJoins
import Derived.Laws.Cover2
import Derived.Deep.Slices
import Derived.WalkLawsBesides
namespace Go.Proofs.Ytdoefndppoglfaa
open Go Go.ChangeShapes Go.WideShapes Go.ChangeAt Go.RowKit
open Go.Joins
set_option linter.unusedVariables false
theorem same2_refl (v : Vl) (hv : v.Ok) (w : World) : Calls Try.prog 20 #[vv v, vv v] w fun e w' => e = .returned (.bool true) ∧ Below w.heap.size w w' := by
  refine (rsame_any v.k v.n v.k v.n v.f v.f hv.f2 hv.f2 v.s v.s w).mono fun e w' h => ret_bool' ?_ h
  simp [idB]
set_option maxRecDepth 100000 in
set_option maxHeartbeats 4000000 in
theorem samep_core (l : List Pr) (ao bo : Option Addr) (L cap cbp : Nat) (w : World) (h : RwP w (.slice ao L cap) l) (h' : RwP w (.slice bo L cbp) l) (hok : ∀ q ∈ l, q.2.Ok) :
    Calls Try.prog 48 #[.slice ao L cap, .slice bo L cbp] w fun e w' => e = .returned (.bool true) ∧ Below w.heap.size w w' := by
  have hL : l.length = L ∧ L ≤ 9223372036854775807 := by obtain ⟨a, c, e, e1, e2, -⟩ := h; cases e; simp only [maxLen] at e2; exact ⟨rfl, by omega⟩
  have HR := Lib.hid h
  have HR2 := Lib.hid h'
  have HL := Lib.hid hL.1
  have HO := Lib.hid hok
  obtain ⟨-, hLm⟩ := hL
  have en : ((L : Int) != (L : Int)) = false := by simp
  clear h h' hok
  go_enter Try.func48, Try.ntmps48
  go_wp2_with fail
  go_loopg [5, 6] L (fun gg s5 s6 wr => ∃ i : Nat, gg + i = L ∧ s5 = .int .i64 i ∧ Below w.heap.size w wr)
  case atStart => exact ⟨0, rfl, rfl, Below.refl _ _⟩
  case round =>
    obtain ⟨i, hg, rfl, hb⟩ := hrel
    by_cases hlt : i < L
    · have ii : (i : Int) < (L : Int) := by omega
      have hi : i < l.length := by rw [HL.out]; exact hlt
      obtain ⟨b, o, rfl, q0, q1, q2, q3, q4⟩ := RwP.at (HR.out.keep hb) i hi
      obtain ⟨b2, o2, rfl, p0, p1, p2, p3, p4⟩ := RwP.at (HR2.out.keep hb) i hi
      have hok := HO.out _ (List.getElem_mem hi)
      generalize l[i] = z at *
      obtain ⟨zn, ⟨zk, zm, zf, zs⟩⟩ := z
      dsimp only at q0 q1 q2 q3 q4 p0 p1 p2 p3 p4
      have D := Lib.hid (fun w' => same2_refl ⟨zk, zm, zf, zs⟩ hok w')
      have nn : (zn.toList != zn.toList) = false := by simp
      have HB := Lib.hid hb
      clear hok hb
      go_wp2_with fail
      go_region_with (go_at_call 20; refine (D.out _).mono ?_; rintro e w1 ⟨rfl, hb1⟩)
      all_goals
        have hb2 := Below.chain (Below.refl _ wr).drew hb1
        have k0 := (hb2.cell (block_lt_of_cell q0)).trans q0
        have k1 := (hb2.cell (block_lt_of_cell p0)).trans p0
        have HB2 := Lib.hid (HB.out.trans (hb2.mono HB.out.size))
        clear q0 q1 q2 q3 q4 p0 p1 p2 p3 p4 D HB hb2 hb1
        simp [Act.put]
        go_wp2_with fail
        go_region
        all_goals
          go_wp2_with fail
          go_roundg (L - (i + 1))
          case rel => exact ⟨i + 1, by omega, by go_num, HB2.out.drew⟩
          case measure => omega
    · obtain rfl : L = i := by omega
      have ii : ¬ ((L : Int) < (L : Int)) := by omega
      go_wp2_with fail
      go_ret
      exact ⟨rfl, hb⟩
theorem samep_any (l : List Pr) (v u : Value) (w : World) (h : RwP w v l) (h' : RwP w u l) (hok : ∀ q ∈ l, q.2.Ok) :
    Calls Try.prog 48 #[v, u] w fun e w' => e = .returned (.bool true) ∧ Below w.heap.size w w' := by
  obtain ⟨ao, cap, rfl⟩ := h.shape
  obtain ⟨bo, cbp, rfl⟩ := h'.shape
  exact samep_core l ao bo _ cap cbp w h h' hok
end Go.Proofs.Ytdoefndppoglfaa
