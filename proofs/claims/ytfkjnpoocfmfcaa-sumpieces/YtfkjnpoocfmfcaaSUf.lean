import Derived.Test.YtfkjnpoocfmfcaaSUe
import Derived.ProofKit
import Derived.OpenShut
import Derived.Carry
import Derived.ChangeSlices
import Derived.Deep.Strs
import Derived.Deep.Cut
import Derived.Deep.RegionLaw
namespace Go.Proofs.Ytfkjnpoocfmfcaa
open Go Go.ChangeShapes Go.WideShapes Go.ChangeAt Go.RowKit
set_option linter.unusedVariables false
structure Sl where
  ao : Option Addr
  len : Nat
  cap : Nat
abbrev Sl.v (s : Sl) : Value := .slice s.ao s.len s.cap
instance : Inhabited Sl := ⟨⟨none, 0, 0⟩⟩
def encB : Enc Sl 1 where
  enc s := [s.v]
  len _ := rfl
  one _ u hu := by simp at hu; subst hu; rfl
abbrev RwB (w : World) (v : Value) (l : List Sl) : Prop := Rw encB w v l
section
variable {H : Type} {enc : TypeId × Value → H} {w : World} {base : Nat} {spare : Nat → Bool} {held : Bool}
theorem laid_out : laidOutB Try.prog = true := by kernel_rfl
/-- a slice that came in, whose elements read as what R says -/
theorem trod_rows {α : Type} {sz : Nat} [Inhabited α] (E : Enc α sz) (R : α → Prop) {ts te : TypeId} (ht : Try.prog.underlying ts = some (.slice te)) (hc : Try.prog.cellsOf te = sz) (hsz : 0 < sz)
    (each : ∀ fuel cs x, DataW.trod enc Try.prog w base spare held fuel te cs = some x → ∃ a, R a ∧ cs = E.enc a) {fuel : Nat} {cs : List Value} {x : DataW H × List MemPlace} (h : DataW.trod enc Try.prog w base spare held fuel ts cs = some x) :
    ∃ (s : Sl) (l : List α), cs = [s.v] ∧ Rw E w s.v l ∧ (∀ a ∈ l, R a) := by
  rcases DataW.trod_slice ht h with ⟨e3, _⟩ | ⟨a, len, cap, elems, rest, n', hn', e3, rfl, hb, hlc, hcm, hel, hat, _, _⟩
  · exact ⟨⟨none, 0, 0⟩, [], e3, Rw.nil _, (fun q hq => by cases hq)⟩
  · have hcs : ∀ i, i < len → ∃ p : α, R p ∧ ∀ j, j < sz → w.cell? ((a.add (i * sz)).add j) = (E.enc p)[j]? := by
      intro i hi
      have hk := hat i hi
      have hi' : i < elems.length := by omega
      rw [hc, List.getElem?_eq_getElem hi'] at hk
      obtain ⟨cs', hc1, hc2⟩ := Option.bind_eq_some_iff.1 hk
      obtain ⟨_, hl7, hcell⟩ := World.cells?_some hc1
      obtain ⟨p, hp, rfl⟩ := each _ _ _ hc2
      exact ⟨p, hp, hcell⟩
    have hspot : 0 < len → a.spot = none := by
      intro hi
      obtain ⟨p, _, hcell⟩ := hcs 0 hi
      have hc0 := hcell 0 hsz
      rw [List.getElem?_eq_getElem (by rw [E.len]; exact hsz)] at hc0
      have := World.cell?_spot hc0
      simpa [Addr.add] using this
    obtain ⟨F, hF⟩ := Go.Deep.choose_lt hcs
    have hll : ((List.range len).map F).length = len := by simp
    refine ⟨⟨some a, len, cap⟩, (List.range len).map F, e3, ⟨some a, cap, by rw [hll], by omega, hcm, fun h => (by cases h), fun i hi => ?_⟩, fun q hq => ?_⟩
    · rw [hll] at hi
      obtain ⟨b, o, spot⟩ := a
      have hsp : spot = none := hspot (by omega)
      subst hsp
      refine ⟨b, o, rfl, fun j hj => ?_⟩
      have := (hF i hi).2 j hj
      rw [Addr.add_lit, Addr.add_lit] at this
      simpa using this
    · obtain ⟨i, hi, rfl⟩ := List.mem_map.1 hq
      exact (hF i (List.mem_range.1 hi)).1
theorem cu8 : Try.prog.cellsOf 5 = 1 := by kernel_rfl
theorem cbs : Try.prog.cellsOf 22 = 1 := by kernel_rfl
theorem trod_u8s {fuel : Nat} {cs : List Value} {x : DataW H × List MemPlace} (h : DataW.trod enc Try.prog w base spare held fuel 22 cs = some x) : ∃ (s : Sl) (l : List UInt8), cs = [s.v] ∧ RwU w s.v l := by
  obtain ⟨s, l, h1, h2, _⟩ := trod_rows encU (fun _ => True) Try.underlying22 cu8 (by decide) (fun fuel cs x h => by
    obtain ⟨a, e, _, wf⟩ := DataW.trod_int Try.underlying5 h
    have hb : 0 ≤ a ∧ a < 256 := by
      simp [Lit.wf, IntKind.min, IntKind.max, IntKind.signed, IntKind.bits] at wf
      omega
    refine ⟨UInt8.ofNat a.toNat, trivial, ?_⟩
    rw [e]
    show [Value.int .u8 a] = [.int .u8 _]
    congr 2
    simp
    omega) h
  exact ⟨s, l, h1, h2⟩
/-- bytes that came in -/
theorem open_rwu {r : Reach} {b0 : Nat} {v : Value} {d : DataW H} {p : List MemPlace} (hv : Value.okWide Try.prog w r b0 22 v) (h : DataW.Trod enc Try.prog w base spare held 22 v d p) : ∃ l, RwU w v l := by
  obtain ⟨a1, len, cap, rfl⟩ := okWide_slice Try.underlying22 hv
  obtain ⟨fuel, hf⟩ := h
  obtain ⟨s, l, h1, h2⟩ := trod_u8s hf
  simp [Value.cells] at h1
  obtain ⟨rfl, rfl, rfl⟩ := h1
  exact ⟨l, h2⟩
/-- pieces that came in -/
theorem open_rwb {r : Reach} {b0 : Nat} {v : Value} {d : DataW H} {p : List MemPlace} (hv : Value.okWide Try.prog w r b0 30 v) (h : DataW.Trod enc Try.prog w base spare held 30 v d p) : ∃ l : List Sl, RwB w v l ∧ ∀ s ∈ l, ∃ m, RwU w s.v m := by
  obtain ⟨a1, len, cap, rfl⟩ := okWide_slice Try.underlying30 hv
  obtain ⟨fuel, hf⟩ := h
  obtain ⟨s, l, h1, h2, h3⟩ := trod_rows encB (fun s => ∃ m, RwU w s.v m) Try.underlying30 cbs (by decide) (fun fuel cs x h => by
    obtain ⟨s, m, e, hm⟩ := trod_u8s h
    exact ⟨s, ⟨m, hm⟩, e⟩) hf
  simp [Value.cells] at h1
  obtain ⟨rfl, rfl, rfl⟩ := h1
  exact ⟨l, h2, h3⟩
end
theorem u8_of {a : Int} (wf : (Lit.int .u8 a).wf = true) : ∃ c : UInt8, a = (c.toNat : Int) := by
  have hb : 0 ≤ a ∧ a < 256 := by
    simp [Lit.wf, IntKind.min, IntKind.max, IntKind.signed, IntKind.bits] at wf
    omega
  refine ⟨UInt8.ofNat a.toNat, ?_⟩
  simp
  omega
theorem ba_size (l : List UInt8) : (⟨l.toArray⟩ : ByteArray).size = l.length := by simp [ByteArray.size]
/-- string(b) -/
theorem run_string_rwu {w : World} {v : Value} {l : List UInt8} (h : RwU w v l) : (convert 22 9 v).run Try.prog w = .ok (.string ⟨l.toArray⟩) w := by
  obtain ⟨ao, cap, rfl, h2, h3, h4, h5⟩ := h
  cases ao with
  | none =>
    have hc := h4 rfl
    have hm : l = [] := List.eq_nil_of_length_eq_zero (by omega)
    subst hm
    rw [run_convert_bytes_string w 22 9 5 none _ cap Try.underlying22 Try.underlying5 Try.underlying9]
    rfl
  | some a =>
    refine run_convert_bytes_back w 22 9 5 a cap l Try.underlying22 Try.underlying5 Try.underlying9 fun j hj => ?_
    obtain ⟨b, o, ha, hc⟩ := h5 j hj
    cases ha
    have := hc 0 (by omega)
    rw [Addr.add_lit]
    simpa [encU] using this
theorem info5 : (Try.prog.info? 5).map (fun i => (i.zero, i.size, i.bytes)) = some (some (.int .u8 0), 1, 1) := by kernel_rfl
theorem shape_rwu {w : World} {v : Value} {l : List UInt8} (h : RwU w v l) : ∃ ao cap, v = .slice ao l.length cap ∧ l.length ≤ cap := let ⟨ao, cap, h1, h2, _⟩ := h; ⟨ao, cap, h1, h2⟩
end Go.Proofs.Ytfkjnpoocfmfcaa
