import Derived.Test.YtdoefndppoglfaaG1
import Derived.ProofKit
import Derived.OpenShut
import Derived.Carry
import Derived.ChangeSlices
import Derived.Lib.SmallJoins
import Derived.Laws.Cover2
import Derived.Deep.Slices
import Derived.SizedLaws
namespace Go.Proofs.Ytdoefndppoglfaa
open Go Go.ChangeShapes Go.WideShapes Go.ChangeAt Go.RowKit
open Go.Joins
set_option linter.unusedVariables false
/-- a property: its name and its value -/
abbrev Pr := ByteArray × Vl
def encP : Enc Pr 5 where
  enc p := [.string p.1, .int .i64 p.2.k, .int .i64 p.2.n, .float .f64 p.2.f, .string p.2.s]
  len p := rfl
  one p u hu := by
    simp only [List.mem_cons, List.not_mem_nil, or_false] at hu
    rcases hu with rfl | rfl | rfl | rfl | rfl <;> rfl
theorem info_p : (Try.prog.info? 69).map (fun i => (i.zero, i.size, i.bytes)) = some (some (.agg #[.string ⟨#[]⟩, .int .i64 0, .int .i64 0, .float .f64 0, .string ⟨#[]⟩]), 5, 56) := by kernel_rfl
abbrev OwP := Ow encP 69
abbrev RwP := Rw encP
/-- the five cells of a property that lies in a slice -/
theorem RwP.at {w : World} {ao : Option Addr} {n cap : Nat} {l : List Pr} (h : RwP w (.slice ao n cap) l) (i : Nat) (hi : i < l.length) :
    ∃ b o, ao = some ⟨b, o, none⟩ ∧ w.cell? ⟨b, o + i * 5, none⟩ = some (.string l[i].1) ∧ w.cell? ⟨b, o + i * 5 + 1, none⟩ = some (.int .i64 l[i].2.k) ∧ w.cell? ⟨b, o + i * 5 + 2, none⟩ = some (.int .i64 l[i].2.n) ∧ w.cell? ⟨b, o + i * 5 + 3, none⟩ = some (.float .f64 l[i].2.f) ∧ w.cell? ⟨b, o + i * 5 + 4, none⟩ = some (.string l[i].2.s) := by
  obtain ⟨ao', cap', he, -, -, -, h5⟩ := h
  cases he
  obtain ⟨b, o, ha, hc⟩ := h5 i hi
  exact ⟨b, o, ha, hc 0 (by omega), hc 1 (by omega), hc 2 (by omega), hc 3 (by omega), hc 4 (by omega)⟩
/-- a node, an edge, a graph -/
structure Nd where
  name : ByteArray
  labels : List ByteArray
  props : List Pr
structure Ed where
  name : ByteArray
  fro : Int
  to : Int
  dir : Bool
  labels : List ByteArray
  props : List Pr
structure Gd where
  nodes : List Nd
  edges : List Ed
instance : Inhabited Nd := ⟨⟨⟨#[]⟩, [], []⟩⟩
instance : Inhabited Ed := ⟨⟨⟨#[]⟩, 0, 0, false, [], []⟩⟩
/-- a slice's three words -/
structure Sl where
  a : Option Addr
  n : Nat
  c : Nat
abbrev Sl.v (s : Sl) : Value := .slice s.a s.n s.c
/-- the cells of a node, of an edge, of a graph -/
structure Nx where
  name : ByteArray
  l : Sl
  p : Sl
structure Dx where
  name : ByteArray
  fro : Int
  to : Int
  dir : Bool
  l : Sl
  p : Sl
structure Gx where
  ns : Sl
  es : Sl
instance : Inhabited Nx := ⟨⟨⟨#[]⟩, ⟨none, 0, 0⟩, ⟨none, 0, 0⟩⟩⟩
instance : Inhabited Dx := ⟨⟨⟨#[]⟩, 0, 0, false, ⟨none, 0, 0⟩, ⟨none, 0, 0⟩⟩⟩
def encN : Enc Nx 3 where
  enc x := [.string x.name, x.l.v, x.p.v]
  len x := rfl
  one x u hu := by
    simp only [List.mem_cons, List.not_mem_nil, or_false] at hu
    rcases hu with rfl | rfl | rfl <;> rfl
def encD : Enc Dx 6 where
  enc x := [.string x.name, .int .i64 x.fro, .int .i64 x.to, .bool x.dir, x.l.v, x.p.v]
  len x := rfl
  one x u hu := by
    simp only [List.mem_cons, List.not_mem_nil, or_false] at hu
    rcases hu with rfl | rfl | rfl | rfl | rfl | rfl <;> rfl
abbrev RwN := Rw encN
abbrev RwD := Rw encD
/-- so many, of so many bytes, take no more than memory has -/
def Lim (n b : Nat) : Prop := n * b ≤ reachBytes
theorem Lim.le {n b : Nat} (h : Lim n b) : n * b ≤ 140737488351232 := by unfold Lim reachBytes at h; omega
theorem Lim.less {n m b : Nat} (h : Lim n b) (hm : m ≤ n) : Lim m b := Nat.le_trans (Nat.mul_le_mul_right b hm) h
theorem Lim.of {n b : Nat} (h : n * b ≤ 140737488351232) : Lim n b := by unfold Lim reachBytes; omega
def Nz (w : World) (d : Nd) (x : Nx) : Prop := x.name = d.name ∧ RwS w x.l.v d.labels ∧ RwP w x.p.v d.props ∧ (∀ q ∈ d.props, q.2.Ok) ∧ Lim d.labels.length 16 ∧ Lim d.props.length 56
def Dz (w : World) (d : Ed) (x : Dx) : Prop := x.name = d.name ∧ x.fro = d.fro ∧ x.to = d.to ∧ x.dir = d.dir ∧ (-9223372036854775808 ≤ d.fro ∧ d.fro ≤ 9223372036854775807) ∧ (-9223372036854775808 ≤ d.to ∧ d.to ≤ 9223372036854775807) ∧ RwS w x.l.v d.labels ∧ RwP w x.p.v d.props ∧ (∀ q ∈ d.props, q.2.Ok) ∧ Lim d.labels.length 16 ∧ Lim d.props.length 56
theorem Nz.keep {w w' : World} {d : Nd} {x : Nx} (h : Nz w d x) (hb : Below w.heap.size w w') : Nz w' d x := ⟨h.1, h.2.1.keep hb, h.2.2.1.keep hb, h.2.2.2⟩
theorem Dz.keep {w w' : World} {d : Ed} {x : Dx} (h : Dz w d x) (hb : Below w.heap.size w w') : Dz w' d x := ⟨h.1, h.2.1, h.2.2.1, h.2.2.2.1, h.2.2.2.2.1, h.2.2.2.2.2.1, h.2.2.2.2.2.2.1.keep hb, h.2.2.2.2.2.2.2.1.keep hb, h.2.2.2.2.2.2.2.2⟩
/-- many of them -/
def Ns (w : World) (l : List Nd) (xs : List Nx) : Prop := l.length = xs.length ∧ ∀ i (h : i < l.length) (h' : i < xs.length), Nz w l[i] xs[i]
def Ds (w : World) (l : List Ed) (xs : List Dx) : Prop := l.length = xs.length ∧ ∀ i (h : i < l.length) (h' : i < xs.length), Dz w l[i] xs[i]
theorem Ns.keep {w w' : World} {l : List Nd} {xs : List Nx} (h : Ns w l xs) (hb : Below w.heap.size w w') : Ns w' l xs := ⟨h.1, fun i hi hi' => (h.2 i hi hi').keep hb⟩
theorem Ds.keep {w w' : World} {l : List Ed} {xs : List Dx} (h : Ds w l xs) (hb : Below w.heap.size w w') : Ds w' l xs := ⟨h.1, fun i hi hi' => (h.2 i hi hi').keep hb⟩
abbrev gv (x : Gx) : Value := .agg #[x.ns.v, x.es.v]
/-- a graph in memory, by its own two slices -/
def Gz (w : World) (g : Gd) (x : Gx) : Prop := (∃ xs, RwN w x.ns.v xs ∧ Ns w g.nodes xs) ∧ (∃ ys, RwD w x.es.v ys ∧ Ds w g.edges ys) ∧ Lim g.nodes.length 64 ∧ Lim g.edges.length 88
theorem Gz.keep {w w' : World} {g : Gd} {x : Gx} (h : Gz w g x) (hb : Below w.heap.size w w') : Gz w' g x := by
  obtain ⟨⟨xs, h1, h2⟩, ⟨ys, h3, h4⟩, h5⟩ := h
  exact ⟨⟨xs, h1.keep hb, h2.keep hb⟩, ⟨ys, h3.keep hb, h4.keep hb⟩, h5⟩
section
variable {H : Type} {enc : TypeId × Value → H} {w : World} {base : Nat} {spare : Nat → Bool} {held : Bool}
theorem laid_out : laidOutB Try.prog = true := by kernel_rfl
/-- what is read fits into memory -/
def Fit (t : TypeId) (d : DataW H) : Prop := ∀ n ∈ d.weights Try.prog t, n ≤ reachBytes
theorem mem_weightsAll {P : Program} {e : TypeId} {d : DataW H} {n : Nat} (hn : n ∈ d.weights P e) : ∀ {l : List (DataW H)}, d ∈ l → n ∈ DataW.weightsAll P e l
  | [], h => by cases h
  | d0 :: l, h => by
    simp only [DataW.weightsAll, List.mem_append]
    rcases List.mem_cons.1 h with rfl | h
    · exact .inl hn
    · exact .inr (mem_weightsAll hn h)
theorem fit_field {T t : TypeId} {fs : Array Field} {parts : List (DataW H)} {d : DataW H} {j : Nat} (hu : Try.prog.underlying T = some (.struct fs)) (h : Fit T (.agg parts)) (ht : (fs.toList.map (·.type))[j]? = some t) (hd : parts[j]? = some d) : Fit t d :=
  fun n hn => h n (by rw [DataW.weights, hu]; exact DataW.weights_mem_each ht hd n hn)
theorem fit_elem {T e : TypeId} {elems spare : List (DataW H)} {d : DataW H} (hu : Try.prog.underlying T = some (.slice e)) (h : Fit T (.slice elems spare)) (hd : d ∈ elems) : Fit e d :=
  fun n hn => h n (by rw [DataW.weights, hu]; exact List.mem_cons_of_mem _ (List.mem_append.2 (.inl (mem_weightsAll hn hd))))
theorem fit_len {T e : TypeId} {elems spare : List (DataW H)} (hu : Try.prog.underlying T = some (.slice e)) (h : Fit T (.slice elems spare)) : Lim elems.length (Try.prog.bytesOf e) := by
  have := h ((elems.length + spare.length) * Try.prog.bytesOf e) (by rw [DataW.weights, hu]; exact List.mem_cons_self ..)
  exact Nat.le_trans (Nat.mul_le_mul_right _ (Nat.le_add_right _ _)) this
/-- a slice that came in, whose elements read as what R says -/
theorem trod_rows {α : Type} {sz : Nat} [Inhabited α] (E : Enc α sz) (R : α → Prop) {ts te : TypeId} {bt : Nat} (ht : Try.prog.underlying ts = some (.slice te)) (hc : Try.prog.cellsOf te = sz) (hsz : 0 < sz) (hbt : Try.prog.bytesOf te = bt)
    (each : ∀ fuel cs x, DataW.trod enc Try.prog w base spare held fuel te cs = some x → Fit te x.1 → ∃ a, R a ∧ cs = E.enc a) {fuel : Nat} {cs : List Value} {x : DataW H × List MemPlace} (h : DataW.trod enc Try.prog w base spare held fuel ts cs = some x) (hf : Fit ts x.1) :
    ∃ (s : Sl) (l : List α), cs = [s.v] ∧ Rw E w s.v l ∧ (∀ a ∈ l, R a) ∧ Lim l.length bt := by
  rcases DataW.trod_slice ht h with ⟨e3, _⟩ | ⟨a, len, cap, elems, rest, n', hn', e3, rfl, hb, hlc, hcm, hel, hat, _, _⟩
  · exact ⟨⟨none, 0, 0⟩, [], e3, Rw.nil _, (fun q hq => by cases hq), (by unfold Lim; simp)⟩
  · have hcs : ∀ i, i < len → ∃ p : α, R p ∧ ∀ j, j < sz → w.cell? ((a.add (i * sz)).add j) = (E.enc p)[j]? := by
      intro i hi
      have hk := hat i hi
      have hi' : i < elems.length := by omega
      rw [hc, List.getElem?_eq_getElem hi'] at hk
      obtain ⟨cs', hc1, hc2⟩ := Option.bind_eq_some_iff.1 hk
      obtain ⟨_, hl7, hcell⟩ := World.cells?_some hc1
      obtain ⟨p, hp, rfl⟩ := each _ _ _ hc2 (fit_elem ht hf (List.mem_map.2 ⟨elems[i], List.getElem_mem hi', rfl⟩))
      exact ⟨p, hp, hcell⟩
    have hspot : 0 < len → a.spot = none := by
      intro hi
      obtain ⟨p, _, hcell⟩ := hcs 0 hi
      have hc0 := hcell 0 hsz
      rw [List.getElem?_eq_getElem (by rw [E.len]; exact hsz)] at hc0
      have := World.cell?_spot hc0
      simpa [Addr.add] using this
    obtain ⟨F, hF⟩ := Go.Deep.choose_lt hcs
    have hll : ((List.range len).map F).length = len := by simp
    refine ⟨⟨some a, len, cap⟩, (List.range len).map F, e3, ⟨some a, cap, by rw [hll], by omega, hcm, fun h => (by cases h), fun i hi => ?_⟩, fun q hq => ?_, ?_⟩
    · rw [hll] at hi
      obtain ⟨b, o, spot⟩ := a
      have hsp : spot = none := hspot (by omega)
      subst hsp
      refine ⟨b, o, rfl, fun j hj => ?_⟩
      have := (hF i hi).2 j hj
      rw [Addr.add_lit, Addr.add_lit] at this
      simpa using this
    · obtain ⟨i, hi, rfl⟩ := List.mem_map.1 hq
      exact (hF i (List.mem_range.1 hi)).1
    · have := fit_len ht hf
      rw [hbt, List.length_map, hel] at this
      rw [hll]
      exact this
theorem bstr : Try.prog.bytesOf 9 = 16 := by kernel_rfl
theorem bp : Try.prog.bytesOf 69 = 56 := by kernel_rfl
theorem bn : Try.prog.bytesOf 43 = 64 := by kernel_rfl
theorem bd : Try.prog.bytesOf 45 = 88 := by kernel_rfl
theorem cn : Try.prog.cellsOf 43 = 3 := by kernel_rfl
theorem cd : Try.prog.cellsOf 45 = 6 := by kernel_rfl
theorem cg : Try.prog.cellsOf 25 = 2 := by kernel_rfl
theorem csn : Try.prog.cellsOf 22 = 1 := by kernel_rfl
theorem csd : Try.prog.cellsOf 23 = 1 := by kernel_rfl
theorem css : Try.prog.cellsOf 40 = 1 := by kernel_rfl
theorem csp : Try.prog.cellsOf 41 = 1 := by kernel_rfl
theorem cbo : Try.prog.cellsOf 4 = 1 := by kernel_rfl
theorem trod_flt {P : Program} {t : TypeId} {fuel : Nat} {cs : List Value} {x : DataW H × List MemPlace} {k : FloatKind} (ht : P.underlying t = some (.float k)) (h : DataW.trod enc P w base spare held fuel t cs = some x) : ∃ n, cs = [.float k n] ∧ x = (.lit (.float k n), []) ∧ (Lit.float k n).wf = true := by
  cases fuel with
  | zero => simp [DataW.trod] at h
  | succ n =>
    unfold DataW.trod at h
    rw [ht] at h
    split at h <;> simp_all
theorem cv : Try.prog.cellsOf 52 = 4 := by kernel_rfl
theorem ci : Try.prog.cellsOf 3 = 1 := by kernel_rfl
theorem ci64 : Try.prog.cellsOf 2 = 1 := by kernel_rfl
theorem cf64 : Try.prog.cellsOf 50 = 1 := by kernel_rfl
theorem cstr : Try.prog.cellsOf 9 = 1 := by kernel_rfl
theorem wf_ok {k n : Int} {b : Nat} {s : ByteArray} (w1 : (Lit.int .i64 n).wf = true) (w2 : (Lit.float .f64 b).wf = true) : Vl.Ok ⟨k, n, b, s⟩ := by
  have := bounds_i64 w1
  refine ⟨this.1, this.2, ?_⟩
  simpa [Lit.wf] using w2
set_option maxRecDepth 100000 in
/-- four cells that read as a value -/
theorem trod_val {fuel : Nat} {cs : List Value} {x : DataW H × List MemPlace} (h : DataW.trod enc Try.prog w base spare held fuel 52 cs = some x) :
    ∃ v : Vl, v.Ok ∧ cs = [.int .i64 v.k, .int .i64 v.n, .float .f64 v.f, .string v.s] := by
  obtain ⟨y0, y1, y2, y3, n, rfl, hl, h0, h1, h2, h3⟩ := trod_struct4 Try.underlying52 h
  rw [cv] at hl
  match cs, hl with
  | [c0, c1, c2, c3], _ =>
    obtain ⟨a0, e0, _, w0⟩ := DataW.trod_int Try.underlying3 h0
    obtain ⟨a1, e1, _, w1⟩ := DataW.trod_int Try.underlying2 h1
    obtain ⟨a2, e2, _, w2⟩ := trod_flt Try.underlying50 h2
    obtain ⟨a3, e3, _, w3⟩ := DataW.trod_string Try.underlying9 h3
    simp [ci, ci64, cf64, cstr] at e0 e1 e2 e3
    subst e0 e1 e2 e3
    exact ⟨⟨a0, a1, a2, a3⟩, wf_ok w1 w2, rfl⟩
theorem cp : Try.prog.cellsOf 69 = 5 := by kernel_rfl
set_option maxRecDepth 100000 in
theorem trod_prop {fuel : Nat} {cs : List Value} {x : DataW H × List MemPlace} (h : DataW.trod enc Try.prog w base spare held fuel 69 cs = some x) : ∃ p : Pr, p.2.Ok ∧ cs = encP.enc p := by
  obtain ⟨xs, n, hf1, rfl, hl, hlen, hf⟩ := DataW.trod_struct Try.underlying69 h
  match xs, hlen with
  | [y0, y1], _ =>
    have h0 := hf 0 _ rfl
    have h1 := hf 1 _ rfl
    simp only [List.getElem?_cons_zero, List.getElem?_cons_succ] at h0 h1
    rw [cp] at hl
    match cs, hl with
    | [c0, c1, c2, c3, c4], _ =>
      simp [cstr, cv] at h0 h1
      obtain ⟨a0, e0, _, w0⟩ := DataW.trod_string Try.underlying9 h0
      obtain ⟨v, hv, e1⟩ := trod_val h1
      simp only [List.cons.injEq, and_true] at e0 e1
      obtain ⟨rfl, rfl, rfl, rfl⟩ := e1
      subst e0
      exact ⟨(a0, v), hv, rfl⟩
theorem trod_strs {fuel : Nat} {cs : List Value} {x : DataW H × List MemPlace} (h : DataW.trod enc Try.prog w base spare held fuel 40 cs = some x) (hf : Fit 40 x.1) : ∃ (s : Sl) (l : List ByteArray), cs = [s.v] ∧ RwS w s.v l ∧ Lim l.length 16 := by
  obtain ⟨s, l, h1, h2, _, h3⟩ := trod_rows encS (fun _ => True) Try.underlying40 cstr (by decide) bstr (fun fuel cs x h _ => by
    obtain ⟨a, e, _⟩ := DataW.trod_string Try.underlying9 h
    exact ⟨a, trivial, e⟩) h hf
  exact ⟨s, l, h1, h2, h3⟩
theorem trod_props {fuel : Nat} {cs : List Value} {x : DataW H × List MemPlace} (h : DataW.trod enc Try.prog w base spare held fuel 41 cs = some x) (hf : Fit 41 x.1) : ∃ (s : Sl) (l : List Pr), cs = [s.v] ∧ RwP w s.v l ∧ (∀ q ∈ l, q.2.Ok) ∧ Lim l.length 56 :=
  trod_rows encP (fun q => q.2.Ok) Try.underlying41 cp (by decide) bp (fun fuel cs x h _ => trod_prop h) h hf
set_option maxRecDepth 100000 in
theorem trod_node {fuel : Nat} {cs : List Value} {x : DataW H × List MemPlace} (h : DataW.trod enc Try.prog w base spare held fuel 43 cs = some x) (hfit : Fit 43 x.1) : ∃ n : Nx, (∃ d, Nz w d n) ∧ cs = encN.enc n := by
  obtain ⟨xs, n, hf1, rfl, hl, hlen, hf⟩ := DataW.trod_struct Try.underlying43 h
  match xs, hlen with
  | [y0, y1, y2], _ =>
    have h0 := hf 0 _ rfl
    have h1 := hf 1 _ rfl
    have h2 := hf 2 _ rfl
    simp only [List.getElem?_cons_zero, List.getElem?_cons_succ] at h0 h1 h2
    rw [cn] at hl
    match cs, hl with
    | [c0, c1, c2], _ =>
      simp [cstr, css, csp] at h0 h1 h2
      obtain ⟨a0, e0, _, w0⟩ := DataW.trod_string Try.underlying9 h0
      obtain ⟨s1, l1, e1, r1, m1⟩ := trod_strs h1 (fit_field (j := 1) Try.underlying43 hfit rfl rfl)
      obtain ⟨s2, l2, e2, r2, k2, m2⟩ := trod_props h2 (fit_field (j := 2) Try.underlying43 hfit rfl rfl)
      simp only [List.cons.injEq, and_true] at e0 e1 e2
      subst e0 e1 e2
      exact ⟨⟨a0, s1, s2⟩, ⟨⟨a0, l1, l2⟩, rfl, r1, r2, k2, m1, m2⟩, rfl⟩
set_option maxRecDepth 100000 in
theorem trod_edge {fuel : Nat} {cs : List Value} {x : DataW H × List MemPlace} (h : DataW.trod enc Try.prog w base spare held fuel 45 cs = some x) (hfit : Fit 45 x.1) : ∃ n : Dx, (∃ d, Dz w d n) ∧ cs = encD.enc n := by
  obtain ⟨xs, n, hf1, rfl, hl, hlen, hf⟩ := DataW.trod_struct Try.underlying45 h
  match xs, hlen with
  | [y0, y1, y2, y3, y4, y5], _ =>
    have h0 := hf 0 _ rfl
    have h1 := hf 1 _ rfl
    have h2 := hf 2 _ rfl
    have h3 := hf 3 _ rfl
    have h4 := hf 4 _ rfl
    have h5 := hf 5 _ rfl
    simp only [List.getElem?_cons_zero, List.getElem?_cons_succ] at h0 h1 h2 h3 h4 h5
    rw [cd] at hl
    match cs, hl with
    | [c0, c1, c2, c3, c4, c5], _ =>
      simp [cstr, ci, cbo, css, csp] at h0 h1 h2 h3 h4 h5
      obtain ⟨a0, e0, _, w0⟩ := DataW.trod_string Try.underlying9 h0
      obtain ⟨a1, e1, _, w1⟩ := DataW.trod_int Try.underlying3 h1
      obtain ⟨a2, e2, _, w2⟩ := DataW.trod_int Try.underlying3 h2
      obtain ⟨a3, e3, _⟩ := DataW.trod_bool Try.underlying4 h3
      obtain ⟨s1, l1, e4, r1, m1⟩ := trod_strs h4 (fit_field (j := 4) Try.underlying45 hfit rfl rfl)
      obtain ⟨s2, l2, e5, r2, k2, m2⟩ := trod_props h5 (fit_field (j := 5) Try.underlying45 hfit rfl rfl)
      simp only [List.cons.injEq, and_true] at e0 e1 e2 e3 e4 e5
      subst e0 e1 e2 e3 e4 e5
      exact ⟨⟨a0, a1, a2, a3, s1, s2⟩, ⟨⟨a0, a1, a2, a3, l1, l2⟩, rfl, rfl, rfl, rfl, bounds_i64 w1, bounds_i64 w2, r1, r2, k2, m1, m2⟩, rfl⟩
theorem ns_of {xs : List Nx} (h : ∀ a ∈ xs, ∃ d, Nz w d a) : ∃ l, Ns w l xs := by
  have hk : ∀ i, i < xs.length → ∃ d : Nd, ∀ h : i < xs.length, Nz w d xs[i] := fun i hi => by
    obtain ⟨d, hd⟩ := h xs[i] (List.getElem_mem hi)
    exact ⟨d, fun _ => hd⟩
  obtain ⟨F, hF⟩ := Go.Deep.choose_lt hk
  refine ⟨(List.range xs.length).map F, by simp, fun i hi hi' => ?_⟩
  have := hF i hi' hi'
  simpa using this
theorem ds_of {xs : List Dx} (h : ∀ a ∈ xs, ∃ d, Dz w d a) : ∃ l, Ds w l xs := by
  have hk : ∀ i, i < xs.length → ∃ d : Ed, ∀ h : i < xs.length, Dz w d xs[i] := fun i hi => by
    obtain ⟨d, hd⟩ := h xs[i] (List.getElem_mem hi)
    exact ⟨d, fun _ => hd⟩
  obtain ⟨F, hF⟩ := Go.Deep.choose_lt hk
  refine ⟨(List.range xs.length).map F, by simp, fun i hi hi' => ?_⟩
  have := hF i hi' hi'
  simpa using this
set_option maxRecDepth 100000 in
theorem trod_graph {fuel : Nat} {cs : List Value} {x : DataW H × List MemPlace} (h : DataW.trod enc Try.prog w base spare held fuel 25 cs = some x) (hfit : Fit 25 x.1) : ∃ g n, Gz w g n ∧ cs = [n.ns.v, n.es.v] := by
  obtain ⟨xs, n, hf1, rfl, hl, hlen, hf⟩ := DataW.trod_struct Try.underlying25 h
  match xs, hlen with
  | [y0, y1], _ =>
    have h0 := hf 0 _ rfl
    have h1 := hf 1 _ rfl
    simp only [List.getElem?_cons_zero, List.getElem?_cons_succ] at h0 h1
    rw [cg] at hl
    match cs, hl with
    | [c0, c1], _ =>
      simp [csn, csd] at h0 h1
      obtain ⟨s1, l1, e1, r1, k1, q1⟩ := trod_rows encN (fun a => ∃ d, Nz w d a) Try.underlying22 cn (by decide) bn (fun fuel cs x h hf => trod_node h hf) h0 (fit_field (j := 0) Try.underlying25 hfit rfl rfl)
      obtain ⟨s2, l2, e2, r2, k2, q2⟩ := trod_rows encD (fun a => ∃ d, Dz w d a) Try.underlying23 cd (by decide) bd (fun fuel cs x h hf => trod_edge h hf) h1 (fit_field (j := 1) Try.underlying25 hfit rfl rfl)
      obtain ⟨m1, z1⟩ := ns_of k1
      obtain ⟨m2, z2⟩ := ds_of k2
      simp only [List.cons.injEq, and_true] at e1 e2
      subst e1 e2
      exact ⟨⟨m1, m2⟩, ⟨s1, s2⟩, ⟨⟨l1, r1, z1⟩, ⟨l2, r2, z2⟩, by rw [z1.1]; exact q1, by rw [z2.1]; exact q2⟩, rfl⟩
set_option maxRecDepth 100000 in
/-- a graph that came in -/
theorem open_gr {r : Reach} {b0 : Nat} {v : Value} {d : DataW H} {p : List MemPlace} (hv : Value.okWide Try.prog w r b0 25 v) (h : DataW.Trod enc Try.prog w base spare held 25 v d p) (hfit : Fit 25 d) : ∃ g x, v = gv x ∧ Gz w g x := by
  obtain ⟨cs, rfl, hsz⟩ := okWide_struct Try.underlying25 hv
  obtain ⟨fuel, hf⟩ := h
  obtain ⟨g, x, hg, hx⟩ := trod_graph hf hfit
  refine ⟨g, x, ?_, hg⟩
  have e : cs.toList = [x.ns.v, x.es.v] := by simpa [Value.cells] using hx
  obtain ⟨l⟩ := cs
  have e' : l = [x.ns.v, x.es.v] := e
  rw [e']
end
end Go.Proofs.Ytdoefndppoglfaa
