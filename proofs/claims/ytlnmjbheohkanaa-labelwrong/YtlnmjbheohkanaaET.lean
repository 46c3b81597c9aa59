import Derived.Test.YtlnmjbheohkanaaRows
import Derived.WalkKit
import Derived.ProofKit
import Derived.OpenShut
import Derived.Carry
import Derived.ChangeSlices
import Derived.Lib.SmallJoins
import Derived.Laws.Cover2
import Derived.Deep.Slices
import Derived.OwnWalk
import Derived.Laws.OwnMore
namespace Go.Proofs.Ytlnmjbheohkanaa
open Go Go.ChangeShapes Go.WideShapes Go.ChangeAt Go.RowKit
open Go.Joins
set_option linter.unusedVariables false
/-- a value: kind, number, the float's bits, text -/
structure Vl where
  k : Int
  n : Int
  f : Nat
  s : ByteArray
structure Vl.Ok (v : Vl) : Prop where
  n1 : -9223372036854775808 ≤ v.n
  n2 : v.n ≤ 9223372036854775807
  f2 : v.f < 18446744073709551616
instance : Inhabited Vl := ⟨⟨0, 0, 0, ⟨#[]⟩⟩⟩
/-- an expression -/
inductive Ex where
  | node (kind : Int) (name : ByteArray) (v : Vl) (kids : List Ex)
instance : Inhabited Ex := ⟨.node 0 ⟨#[]⟩ default []⟩
mutual
def Ex.sz : Ex → Nat
  | .node _ _ _ kids => 1 + szL kids
def szL : List Ex → Nat
  | [] => 0
  | t :: l => t.sz + szL l
end
theorem sz_mem {t : Ex} {l : List Ex} (h : t ∈ l) : t.sz ≤ szL l := by
  induction l with
  | nil => cases h
  | cons x l ih =>
    rw [szL]
    rcases List.mem_cons.1 h with rfl | h
    · omega
    · have := ih h; omega
theorem ex_ind {P : Ex → Prop} (h : ∀ kind name v kids, (∀ t ∈ kids, P t) → P (.node kind name v kids)) (t : Ex) : P t := by
  have key : ∀ n (t : Ex), t.sz ≤ n → P t := by
    intro n
    induction n with
    | zero => intro t ht; cases t with | node k nm v kids => rw [Ex.sz] at ht; omega
    | succ n ih =>
      intro t ht
      cases t with
      | node k nm v kids =>
        refine h k nm v kids fun t hm => ih t ?_
        have := sz_mem hm
        rw [Ex.sz] at ht; omega
  exact key t.sz t (Nat.le_refl _)
/-- an expression's seven cells, and what lies below them in memory -/
inductive Tr (w : World) : Ex → List Value → Prop
  | mk (kind : Int) (name : ByteArray) (v : Vl) (kids : List Ex) (ao : Option Addr) (cap : Nat) (cs : Nat → List Value)
    (hv : v.Ok) (hcap : kids.length ≤ cap) (hm : cap ≤ maxLen) (hn : ao = none → cap = 0)
    (hc : ∀ i, i < kids.length → ∃ b o, ao = some ⟨b, o, none⟩ ∧ (cs i).length = 7 ∧ ∀ j, j < 7 → w.cell? ⟨b, o + i * 7 + j, none⟩ = (cs i)[j]?)
    (hk : ∀ i (h : i < kids.length), Tr w kids[i] (cs i)) :
    Tr w (.node kind name v kids) [.int .i64 kind, .string name, .int .i64 v.k, .int .i64 v.n, .float .f64 v.f, .string v.s, .slice ao kids.length cap]
theorem Tr.keep {w w' : World} {t : Ex} {cs : List Value} (h : Tr w t cs) (hb : Below w.heap.size w w') : Tr w' t cs := by
  induction h with
  | mk kind name v kids ao cap cs hv hcap hm hn hc hk ih =>
    refine .mk kind name v kids ao cap cs hv hcap hm hn (fun i hi => ?_) ih
    obtain ⟨b, o, ha, hl, hcell⟩ := hc i hi
    refine ⟨b, o, ha, hl, fun j hj => ?_⟩
    have hcj := hcell j hj
    have hs : (cs i)[j]? = some ((cs i)[j]'(by omega)) := List.getElem?_eq_getElem (by omega)
    rw [hs] at hcj ⊢
    exact (hb.cell (block_lt_of_cell hcj)).trans hcj
/-- an expression's cells, and those of each kid -/
theorem Tr.inv {w : World} {kind : Int} {name : ByteArray} {v : Vl} {kids : List Ex} {l : List Value} (h : Tr w (.node kind name v kids) l) :
    ∃ ao cap, l = [.int .i64 kind, .string name, .int .i64 v.k, .int .i64 v.n, .float .f64 v.f, .string v.s, .slice ao kids.length cap] ∧ v.Ok ∧ kids.length ≤ cap ∧ cap ≤ maxLen ∧ (ao = none → cap = 0) ∧
      ∀ i (h : i < kids.length), ∃ b o c0 c1 c2 c3 c4 c5 c6, ao = some ⟨b, o, none⟩ ∧ w.cell? ⟨b, o + i * 7, none⟩ = some c0 ∧ w.cell? ⟨b, o + i * 7 + 1, none⟩ = some c1 ∧ w.cell? ⟨b, o + i * 7 + 2, none⟩ = some c2 ∧ w.cell? ⟨b, o + i * 7 + 3, none⟩ = some c3 ∧ w.cell? ⟨b, o + i * 7 + 4, none⟩ = some c4 ∧ w.cell? ⟨b, o + i * 7 + 5, none⟩ = some c5 ∧ w.cell? ⟨b, o + i * 7 + 6, none⟩ = some c6 ∧ Tr w kids[i] [c0, c1, c2, c3, c4, c5, c6] := by
  cases h with
  | mk _ _ _ _ ao cap cs hv hcap hm hn hc hk =>
    refine ⟨ao, cap, rfl, hv, hcap, hm, hn, fun i hi => ?_⟩
    obtain ⟨b, o, ha, hl, hcell⟩ := hc i hi
    have hki := hk i hi
    generalize cs i = ci at *
    match ci, hl with
    | [c0, c1, c2, c3, c4, c5, c6], _ =>
      exact ⟨b, o, c0, c1, c2, c3, c4, c5, c6, ha, hcell 0 (by omega), hcell 1 (by omega), hcell 2 (by omega), hcell 3 (by omega), hcell 4 (by omega), hcell 5 (by omega), hcell 6 (by omega), hki⟩
section
variable {H : Type} {enc : TypeId × Value → H} {w : World} {base : Nat} {spare : Nat → Bool} {held : Bool}
theorem trod_flt {P : Program} {t : TypeId} {fuel : Nat} {cs : List Value} {x : DataW H × List MemPlace} {k : FloatKind} (ht : P.underlying t = some (.float k)) (h : DataW.trod enc P w base spare held fuel t cs = some x) : ∃ n, cs = [.float k n] ∧ x = (.lit (.float k n), []) ∧ (Lit.float k n).wf = true := by
  cases fuel with
  | zero => simp [DataW.trod] at h
  | succ n =>
    unfold DataW.trod at h
    rw [ht] at h
    split at h <;> simp_all
theorem cv : Try.prog.cellsOf 25 = 4 := by kernel_rfl
theorem ce : Try.prog.cellsOf 28 = 7 := by kernel_rfl
theorem ci : Try.prog.cellsOf 3 = 1 := by kernel_rfl
theorem ci64 : Try.prog.cellsOf 2 = 1 := by kernel_rfl
theorem cf64 : Try.prog.cellsOf 23 = 1 := by kernel_rfl
theorem cstr : Try.prog.cellsOf 9 = 1 := by kernel_rfl
theorem cks : Try.prog.cellsOf 26 = 1 := by kernel_rfl
theorem wf_ok {k n : Int} {b : Nat} {s : ByteArray} (w1 : (Lit.int .i64 n).wf = true) (w2 : (Lit.float .f64 b).wf = true) : Vl.Ok ⟨k, n, b, s⟩ := by
  have := bounds_i64 w1
  refine ⟨this.1, this.2, ?_⟩
  simpa [Lit.wf] using w2
set_option maxRecDepth 100000 in
/-- four cells that read as a value -/
theorem trod_val {fuel : Nat} {cs : List Value} {x : DataW H × List MemPlace} (h : DataW.trod enc Try.prog w base spare held fuel 25 cs = some x) :
    ∃ v : Vl, v.Ok ∧ cs = [.int .i64 v.k, .int .i64 v.n, .float .f64 v.f, .string v.s] := by
  obtain ⟨y0, y1, y2, y3, n, rfl, hl, h0, h1, h2, h3⟩ := trod_struct4 Try.underlying25 h
  rw [cv] at hl
  match cs, hl with
  | [c0, c1, c2, c3], _ =>
    obtain ⟨a0, e0, _, w0⟩ := DataW.trod_int Try.underlying3 h0
    obtain ⟨a1, e1, _, w1⟩ := DataW.trod_int Try.underlying2 h1
    obtain ⟨a2, e2, _, w2⟩ := trod_flt Try.underlying23 h2
    obtain ⟨a3, e3, _, w3⟩ := DataW.trod_string Try.underlying9 h3
    simp [ci, ci64, cf64, cstr] at e0 e1 e2 e3
    subst e0 e1 e2 e3
    exact ⟨⟨a0, a1, a2, a3⟩, wf_ok w1 w2, rfl⟩
set_option maxRecDepth 100000 in
/-- seven cells that read as an expression -/
theorem trod_ex : ∀ (fuel : Nat) (cs : List Value) (x : DataW H × List MemPlace), DataW.trod enc Try.prog w base spare held fuel 28 cs = some x → ∃ t, Tr w t cs := by
  intro fuel
  induction fuel using Nat.strongRecOn with
  | ind fuel ih =>
    intro cs x h
    obtain ⟨xs, n, hf1, rfl, hl, hlen, hf⟩ := DataW.trod_struct Try.underlying28 h
    match xs, hlen with
    | [y0, y1, y2, y3], _ =>
      have h0 := hf 0 _ rfl
      have h1 := hf 1 _ rfl
      have h2 := hf 2 _ rfl
      have h3 := hf 3 _ rfl
      simp only [List.getElem?_cons_zero, List.getElem?_cons_succ] at h0 h1 h2 h3
      rw [ce] at hl
      match cs, hl with
      | [c0, c1, c2, c3, c4, c5, c6], _ =>
        simp [ci, cstr, cv, cks] at h0 h1 h2 h3
        obtain ⟨a0, e0, _, w0⟩ := DataW.trod_int Try.underlying3 h0
        obtain ⟨a1, e1, _, w1⟩ := DataW.trod_string Try.underlying9 h1
        obtain ⟨v, hv, e2⟩ := trod_val h2
        simp only [List.cons.injEq, and_true] at e0 e1 e2
        obtain ⟨rfl, rfl, rfl, rfl⟩ := e2
        subst e0 e1
        rcases DataW.trod_slice Try.underlying26 h3 with ⟨e3, _⟩ | ⟨a, len, cap, elems, rest, n', hn', e3, _, hb, hlc, hcm, hel, hat, _, _⟩
        · simp only [List.cons.injEq, and_true] at e3
          subst e3
          exact ⟨.node a0 a1 v [], Tr.mk a0 a1 v [] none 0 (fun _ => []) hv (Nat.le_refl _) (by simp [maxLen]) (fun _ => rfl) (fun i hi => by simp at hi) (fun i hi => by simp at hi)⟩
        · simp only [List.cons.injEq, and_true] at e3
          subst e3
          have hspot : 0 < len → a.spot = none := by
            intro hi
            have hk := hat 0 hi
            rw [ce, List.getElem?_eq_getElem (by omega)] at hk
            obtain ⟨cs', hc1, hc2⟩ := Option.bind_eq_some_iff.1 hk
            obtain ⟨_, hl7, hcell⟩ := World.cells?_some hc1
            have hc0 := hcell 0 (by omega)
            rw [List.getElem?_eq_getElem (by omega)] at hc0
            simpa [Addr.add] using World.cell?_spot hc0
          have key : ∀ i, i < len → ∃ p : List Value × Ex, (∃ b o, some a = some ⟨b, o, none⟩ ∧ p.1.length = 7 ∧ ∀ j, j < 7 → w.cell? ⟨b, o + i * 7 + j, none⟩ = p.1[j]?) ∧ Tr w p.2 p.1 := by
            intro i hi
            have hk := hat i hi
            rw [ce, List.getElem?_eq_getElem (by omega)] at hk
            obtain ⟨cs', hc1, hc2⟩ := Option.bind_eq_some_iff.1 hk
            obtain ⟨_, hl7, hcell⟩ := World.cells?_some hc1
            obtain ⟨t, ht⟩ := ih n' (by omega) cs' _ hc2
            obtain ⟨b, o, spot⟩ := a
            have hsp : spot = none := hspot (by omega)
            subst hsp
            refine ⟨(cs', t), ⟨b, o, rfl, hl7, fun j hj => ?_⟩, ht⟩
            have := hcell j hj
            rwa [Addr.add_lit, Addr.add_lit] at this
          obtain ⟨F, hF⟩ := Go.Deep.choose_lt key
          have hll : ((List.range len).map fun i => (F i).2).length = len := by simp
          refine ⟨.node a0 a1 v ((List.range len).map fun i => (F i).2), ?_⟩
          have := Tr.mk (w := w) a0 a1 v ((List.range len).map fun i => (F i).2) (some a) cap (fun i => (F i).1) hv (by omega) hcm (fun h => by cases h) (fun i hi => (hF i (by omega)).1) (fun i hi => by
            have := (hF i (by omega)).2
            simpa using this)
          rw [hll] at this
          exact this
set_option maxRecDepth 100000 in
/-- an expression that came in -/
theorem open_ex {r : Reach} {b0 : Nat} {v : Value} {d : DataW H} {p : List MemPlace} (hv : Value.okWide Try.prog w r b0 28 v) (h : DataW.Trod enc Try.prog w base spare held 28 v d p) :
    ∃ t cs, v = .agg cs ∧ Tr w t cs.toList := by
  obtain ⟨cs, rfl, hsz⟩ := okWide_struct Try.underlying28 hv
  obtain ⟨fuel, hf⟩ := h
  obtain ⟨t, ht⟩ := trod_ex fuel _ _ hf
  exact ⟨t, cs, rfl, by simpa [Value.cells] using ht⟩
end
end Go.Proofs.Ytlnmjbheohkanaa
