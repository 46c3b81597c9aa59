import Derived.Test.YtlnmjbheohkanaaK7
import Derived.Deep.Strs
namespace Go.Proofs.Ytlnmjbheohkanaa
open Go Go.ChangeShapes Go.WideShapes Go.ChangeAt Go.RowKit
open Go.Joins
set_option linter.unusedVariables false
section
variable {H : Type} {enc : TypeId × Value → H} {w : World} {base : Nat} {spare : Nat → Bool} {held : Bool}
theorem laid_out : laidOutB Try.prog = true := by kernel_rfl
theorem cells_str : Try.prog.cellsOf 9 = 1 := by kernel_rfl
set_option maxRecDepth 100000 in
/-- an expression that came in, by its own cells -/
theorem open_ex' {r : Reach} {b0 : Nat} {v : Value} {d : DataW H} {p : List MemPlace} (hv : Value.okWide Try.prog w r b0 28 v) (h : DataW.Trod enc Try.prog w base spare held 28 v d p) :
    ∃ t x, v = xv x ∧ Tx w t x := by
  obtain ⟨t, cs, rfl, ht⟩ := open_ex hv h
  obtain ⟨x, hx⟩ := ht.shape
  refine ⟨t, x, ?_, by unfold Tx; rw [← hx]; exact ht⟩
  obtain ⟨l⟩ := cs
  have e : l = encX.enc x := hx
  rw [e]
  rfl
/-- a slice of texts that came in -/
theorem open_rws {r : Reach} {b0 : Nat} {v : Value} {d : DataW H} {p : List MemPlace} (hval : Value.okWide Try.prog w r b0 22 v) (h : DataW.Trod enc Try.prog w base spare held 22 v d p) : ∃ l, RwS w v l := by
  obtain ⟨a1, len, cap, rfl⟩ := okWide_slice Try.underlying22 hval
  obtain ⟨fuel, hf⟩ := h
  rcases Go.Deep.open_strs Try.underlying22 Try.underlying9 cells_str hf with ⟨hcs, hx⟩ | ⟨a, len', cap', m, Sx, hcs, _, hl, hm, hmm, hx, hcell⟩
  · simp [Value.cells] at hcs
    obtain ⟨rfl, rfl, rfl⟩ := hcs
    exact ⟨[], Rw.nil _⟩
  · simp [Value.cells] at hcs
    obtain ⟨rfl, rfl, rfl⟩ := hcs
    have hlm : len ≤ m := by rw [hmm]; split <;> omega
    have hlen : ((List.range len).map Sx).length = len := by simp
    refine ⟨(List.range len).map Sx, some a, cap, by rw [hlen], by rw [hlen]; exact hl, hm, fun h => (by cases h), fun i hi => ?_⟩
    rw [hlen] at hi
    have hc := (hcell i (by omega)).1
    obtain ⟨b, o, spot⟩ := a
    have hsp : spot = none := by
      have hc0 := (hcell 0 (by omega)).1
      simpa [Addr.add] using World.cell?_spot hc0
    subst hsp
    refine ⟨b, o, rfl, fun j hj => ?_⟩
    match j, hj with
    | 0, _ =>
      rw [Addr.add_lit] at hc
      simp only [encS, Nat.mul_one, Nat.add_zero, List.getElem?_cons_zero]
      rw [hc]; simp
end
end Go.Proofs.Ytlnmjbheohkanaa
