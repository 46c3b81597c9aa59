import Derived.Test.YtcbogapnhabhkaaPLF
import Derived.Deep.Strs
namespace Go.Proofs.Ytcbogapnhabhkaa
open Go Go.ChangeShapes Go.WideShapes Go.ChangeAt Go.RowKit
set_option linter.unusedVariables false
variable {H : Type} {enc : TypeId × Value → H}
/-- a slice of numbers, of texts, that came in -/
def Ns (w : World) (v : Value) (l : List Nat) : Prop := ∃ ao cap, v = .slice ao l.length cap ∧ (∀ x ∈ l, x < 18446744073709551616) ∧ ∀ j (h : j < l.length), ∃ a, ao = some a ∧ a.block < w.heap.size ∧ w.cell? (a.add j) = some (.int .u64 (l[j] : Int))
def Ss (w : World) (v : Value) (l : List ByteArray) : Prop := ∃ ao cap, v = .slice ao l.length cap ∧ ∀ j (h : j < l.length), ∃ a, ao = some a ∧ a.block < w.heap.size ∧ w.cell? (a.add j) = some (.string l[j])
theorem cells23 : Try.prog.cellsOf 23 = 1 := by kernel_rfl
theorem cells9 : Try.prog.cellsOf 9 = 1 := by kernel_rfl
theorem open_u64s {W : World} {base : Nat} {v : Value} {d : DataW H} {p : List MemPlace} (hval : Value.okWide Try.prog W .any base 52 v) (h : DataW.Trod enc Try.prog W 0 (fun _ => true) true 52 v d p) : ∃ l, Ns W v l := by
  obtain ⟨a1, len, cap, rfl⟩ := okWide_slice Try.underlying52 hval
  obtain ⟨fuel, hf⟩ := h
  rcases open_ints Try.underlying52 Try.underlying23 cells23 hf with ⟨hcs, hx⟩ | ⟨a, len', cap', zs, hcs, _, hl, hm, hz, hx, hcell, hwz⟩
  · simp [Value.cells] at hcs
    obtain ⟨rfl, rfl, rfl⟩ := hcs
    exact ⟨[], none, 0, rfl, fun x hx => by simp at hx, fun j h => by simp at h⟩
  · simp [Value.cells] at hcs
    obtain ⟨rfl, rfl, rfl⟩ := hcs
    simp only [if_true] at hz
    have hlen : ((zs.take len).map fun z => z.toNat).length = len := by simp; omega
    have hbd : ∀ z ∈ zs, 0 ≤ z ∧ z < 18446744073709551616 := fun z hzm => by
      have hw := hwz z hzm
      simp [Lit.wf, IntKind.min, IntKind.max, IntKind.signed, IntKind.bits] at hw
      omega
    refine ⟨(zs.take len).map fun z => z.toNat, some a, cap, by rw [hlen], ?_, fun j hj => ?_⟩
    · intro x hxm
      simp only [List.mem_map] at hxm
      obtain ⟨z, hzm, rfl⟩ := hxm
      have := hbd z (List.mem_of_mem_take hzm)
      omega
    · rw [hlen] at hj
      have hjz : j < zs.length := by omega
      have hc := hcell j hjz
      have hb := hbd zs[j] (List.getElem_mem hjz)
      refine ⟨a, rfl, ?_, ?_⟩
      · have := block_lt_of_cell hc
        rwa [add_block] at this
      · rw [hc, List.getD_eq_getElem?_getD, List.getElem?_eq_getElem hjz]
        simp
        omega
theorem open_strs' {W : World} {base : Nat} {v : Value} {d : DataW H} {p : List MemPlace} (hval : Value.okWide Try.prog W .any base 53 v) (h : DataW.Trod enc Try.prog W 0 (fun _ => true) true 53 v d p) : ∃ l, Ss W v l := by
  obtain ⟨a1, len, cap, rfl⟩ := okWide_slice Try.underlying53 hval
  obtain ⟨fuel, hf⟩ := h
  rcases Go.Deep.open_strs Try.underlying53 Try.underlying9 cells9 hf with ⟨hcs, hx⟩ | ⟨a, len', cap', m, Sx, hcs, _, hl, hm, hmm, hx, hcell⟩
  · simp [Value.cells] at hcs
    obtain ⟨rfl, rfl, rfl⟩ := hcs
    exact ⟨[], none, 0, rfl, fun j h => by simp at h⟩
  · simp [Value.cells] at hcs
    obtain ⟨rfl, rfl, rfl⟩ := hcs
    simp only [if_true] at hmm
    have hlen : ((List.range len).map Sx).length = len := by simp
    refine ⟨(List.range len).map Sx, some a, cap, by rw [hlen], fun j hj => ?_⟩
    rw [hlen] at hj
    have hc := (hcell j (by omega)).1
    refine ⟨a, rfl, ?_, by rw [hc]; simp⟩
    have := block_lt_of_cell hc
    rwa [add_block] at this
end Go.Proofs.Ytcbogapnhabhkaa
