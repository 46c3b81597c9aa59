import Derived.Test.YtdoefndppoglfaaHA
import Derived.Test.YtdoefndppoglfaaH8
import Derived.Test.YtdoefndppoglfaaHD
import Derived.Deep.OwnRows
namespace Go.Proofs.Ytdoefndppoglfaa
open Go Go.ChangeShapes Go.WideShapes Go.ChangeAt Go.RowKit
open Go.Joins
open Go.Shelf
set_option linter.unusedVariables false
attribute [local go_sem] Oper.semAt_some
/-- the parts of an index, made -/
def Parts (B0 : Nat) (w : World) (g : Gd) (v : Value) : Prop := ∃ (x : Gx) (m1 m2 q : Nat), B0 < q ∧ v = .agg #[x.ns.v, x.es.v, .map (some m1), .map (some m2), .slice (some ⟨q, 0, none⟩) g.nodes.length g.nodes.length] ∧ Gz w g x ∧
  Mp w m1 g.nodes.length (Dn (namesN g) g.nodes.length) ∧ Mp w m2 g.edges.length (Dn (namesD g) g.edges.length) ∧ Vr w q 89 (Array.replicate g.nodes.length (.slice none 0 0))
theorem Parts.keep {B0 : Nat} {w w' : World} {g : Gd} {v : Value} (h : Parts B0 w g v) (hb : Below w.heap.size w w') : Parts B0 w' g v := by
  obtain ⟨x, m1, m2, q, h0, h1, h2, h3, h4, h5⟩ := h
  exact ⟨x, m1, m2, q, h0, h1, h2.keep hb, ownsMap_keep h3 hb, ownsMap_keep h4 hb, h5.keep hb⟩
/-- what stands in the slots of New's region -/
def VN (B0 : Nat) (ns es : Value) (g : Gd) (i : Nat) (v : Value) (w : World) : Prop := match i with
  | 0 => v = .agg #[ns, es]
  | 1 => ∃ x, v = gv x ∧ Gz w g x
  | 2 => v = .pointer (some ⟨B0, 0, none⟩)
  | 3 => v = ns
  | 4 => ∃ b, v = .map (some b) ∧ Mp w b g.nodes.length (Dn (namesN g) g.nodes.length)
  | 5 => v = .pointer (some ⟨B0, 1, none⟩)
  | 6 => v = es
  | 7 => ∃ b, v = .map (some b) ∧ Mp w b g.edges.length (Dn (namesD g) g.edges.length)
  | 8 => v = .pointer (some ⟨B0, 0, none⟩)
  | 9 => v = ns
  | 10 => v = .int .i64 g.nodes.length
  | 11 => ∃ q, v = .slice (some ⟨q, 0, none⟩) g.nodes.length g.nodes.length ∧ B0 < q ∧ Vr w q 89 (Array.replicate g.nodes.length (.slice none 0 0))
  | 12 => Parts B0 w g v
  | 13 => ∃ c cs, v = .pointer (some ⟨c, 0, none⟩) ∧ B0 < c ∧ Vr w c 83 cs ∧ Parts B0 w g (.agg cs)
  | 14 => ∃ b, v = .pointer (some ⟨b, 0, none⟩) ∧ B0 < b ∧ Vr w b 32 #[.pointer none]
  | _ => True
theorem VN.keep {B0 : Nat} {ns es : Value} {g : Gd} (i : Nat) (v : Value) (a b : World) (h : VN B0 ns es g i v a) (hb : Below a.heap.size a b) : VN B0 ns es g i v b := by
  unfold VN at h ⊢
  split at h
  · exact h
  · obtain ⟨x, e, h1⟩ := h
    exact ⟨x, e, h1.keep hb⟩
  · exact h
  · exact h
  · obtain ⟨c, e, h1⟩ := h
    exact ⟨c, e, ownsMap_keep h1 hb⟩
  · exact h
  · exact h
  · obtain ⟨c, e, h1⟩ := h
    exact ⟨c, e, ownsMap_keep h1 hb⟩
  · exact h
  · exact h
  · exact h
  · obtain ⟨c, e, h0, h1⟩ := h
    exact ⟨c, e, h0, h1.keep hb⟩
  · exact h.keep hb
  · obtain ⟨c, cs, e, h0, h1, h2⟩ := h
    exact ⟨c, cs, e, h0, h1.keep hb, h2.keep hb⟩
  · obtain ⟨c, e, h0, h1⟩ := h
    exact ⟨c, e, h0, h1.keep hb⟩
  · trivial
theorem made_rep (z : Value) (n : Nat) : madeCells #[z] n = Array.replicate n z := by
  apply Array.ext
  · simp [madeCells]
  · intro i h1 h2
    simp [madeCells, Nat.mod_one]
/-- a slice of n nil lists -/
theorem run_mk7 (n : Nat) (w : World) (h : n ≤ 1000) : (Instr.makeSlice 81 (.int .i64 n) (.int .i64 n)).run Try.prog w = .ok (.slice (some ⟨w.heap.size, 0, none⟩) n n) (w.alloc (.cells (Array.replicate n (.slice none 0 0)) 89)) := by
  have hr := run_make_row' (P := Try.prog) 81 89 (.slice none 0 0) 24 Try.underlying81 (by kernel_rfl) rfl .i64 .i64 n (by omega) (by omega) w
  rw [hr, made_rep]
theorem seqN_in {g : Gd} {n : Nat} (h : ∀ e ∈ g.edges, 0 ≤ e.fro ∧ e.fro < (n : Int) ∧ 0 ≤ e.to ∧ e.to < (n : Int)) : ∀ x ∈ seqN g.edges g.edges.length, 0 ≤ x.1 ∧ x.1 < (n : Int) := by
  intro x hx
  unfold seqN at hx
  obtain ⟨i, hi, hxi⟩ := List.mem_flatMap.1 hx
  rw [List.mem_range] at hi
  rw [getElem!_pos g.edges i hi] at hxi
  have he := h _ (List.getElem_mem hi)
  unfold seqE at hxi
  split at hxi
  · simp only [List.mem_cons, List.not_mem_nil, or_false] at hxi
    subst hxi
    exact ⟨he.1, he.2.1⟩
  · simp only [List.mem_cons, List.not_mem_nil, or_false] at hxi
    rcases hxi with rfl | rfl
    · exact ⟨he.1, he.2.1⟩
    · exact ⟨he.2.2.1, he.2.2.2⟩
theorem edges_cells {w : World} {ao : Option Addr} {n cap q L : Nat} {ys : List Dx} (h : RwD w (.slice ao n cap) ys) (hq : Vr w q 89 (Array.replicate L (.slice none 0 0))) :
    ∀ i (hi : i < ys.length), ∃ b o, ao = some ⟨b, o, none⟩ ∧ b < w.heap.size ∧ b ≠ q ∧ ∀ j, j < 6 → w.cell? ⟨b, o + i * 6 + j, none⟩ = (encD.enc ys[i])[j]? := by
  intro i hi
  obtain ⟨ao', cap', he, -, -, -, h5⟩ := h
  cases he
  obtain ⟨b, o, ha, hc⟩ := h5 i hi
  have h0 := hc 0 (by omega)
  refine ⟨b, o, ha, block_lt_of_cell h0, fun e => ?_, hc⟩
  subst e
  rw [hq.cell] at h0
  have h0' : (Array.replicate L (Value.slice none 0 0))[o + i * 6 + 0]? = some (.string ys[i].name) := h0
  obtain ⟨hl, e⟩ := Array.getElem?_eq_some_iff.1 h0'
  simp at e
theorem kpe_alloc {n0 q : Nat} {W : World} (h : n0 ≤ W.heap.size) (o : Obj) : KpE n0 q W (W.alloc o) :=
  ⟨(KpB.refl n0 q W).alloc h o, fun b cs hv => hv.al⟩
theorem lead_rw {u : World} {b : Nat} {ld : Ld} (h : Vr u b 88 #[.int .i64 ld.1, .int .i64 ld.2.1, .int .i64 ld.2.2]) : Rw encL u (.slice (some ⟨b, 0, none⟩) 1 1) [ld] := by
  refine ⟨some ⟨b, 0, none⟩, 1, rfl, Nat.le_refl _, by simp [maxLen], fun h => (by cases h), fun i hi => ?_⟩
  obtain rfl : i = 0 := by simpa using hi
  refine ⟨b, 0, rfl, fun j hj => ?_⟩
  rw [h.cell]
  have : 0 + 0 * 3 + j = j := by omega
  rw [this]
  rcases Nat.lt_or_ge j 1 with h1 | h1
  · obtain rfl : j = 0 := by omega
    rfl
  · rcases Nat.lt_or_ge j 2 with h2 | h2
    · obtain rfl : j = 1 := by omega
      rfl
    · obtain rfl : j = 2 := by omega
      rfl
theorem uponIn_append {F : Fence} {n : Nat} {P : Program} {o : Oper} {a : Act} {w : World} {K : Act → World → Prop} {Q : Exit → Act → World → Prop} (l : Nat) (s x : Operand) (t : TypeId)
    (ho : o.op = .call { callee := .builtin .append, args := #[s, x], argTypes := #[t, t] }) (v vx : Value) (hs : a.eval s = v) (hx : a.eval x = vx) (v' : Value) (w' : World) (hr : (Builtin.append_ #[t, t] o.type #[v, vx]).run P w = .ok v' w')
    (hk : K (a.put o.dst v') w') : o.uponIn F n P a K Q ((o.semAt (some l) a.eval).run P w) := by
  rw [Oper.semAt_some _ _ _ (by intro c h; rw [ho] at h; cases h)]
  simp [execOp, ho, resolve, invoke, builtin, hs, hx, hr, Result.andThen]
  exact hk
theorem rw_rows {α : Type} {sz : Nat} {E : Enc α sz} (h0 : 0 < sz) (hE : ∀ x, (E.enc x)[0]? ≠ some (.slice none 0 0)) {w w' : World} {v : Value} {l : List α} (h : Rw E w v l) {q L : Nat} (hq : Vr w q 89 (Array.replicate L (.slice none 0 0))) (hg : w.grownBy w' (some q)) : Rw E w' v l := by
  obtain ⟨ao, cap, h1, h2, h3, h4, h5⟩ := h
  refine ⟨ao, cap, h1, h2, h3, h4, fun i hi => ?_⟩
  obtain ⟨c, o, ha, hc⟩ := h5 i hi
  refine ⟨c, o, ha, fun k hk => ?_⟩
  have hcb : c ≠ q := by
    intro e
    subst e
    have := hc 0 h0
    rw [hq.cell] at this
    have hl : 0 < (E.enc l[i]).length := by rw [E.len]; exact h0
    cases hx : (Array.replicate L (Value.slice none 0 0))[o + i * sz + 0]? with
    | none =>
      rw [hx, List.getElem?_eq_getElem hl] at this
      cases this
    | some y =>
      have hy := hx
      obtain ⟨hl2, e⟩ := Array.getElem?_eq_some_iff.1 hy
      rw [Array.getElem_replicate] at e
      subst e
      rw [hx] at this
      exact hE _ this.symm
  have hck := hc k hk
  rw [List.getElem?_eq_getElem (by rw [E.len]; exact hk)] at hck ⊢
  rw [← hck]
  exact World.cell?_of_block (w := w) (hg.block c (block_lt_of_cell hck) (fun e => hcb (by cases e; rfl)))
theorem gz_rows {w w' : World} {g : Gd} {x : Gx} (h : Gz w g x) {q L : Nat} (hq : Vr w q 89 (Array.replicate L (.slice none 0 0))) (hg : w.grownBy w' (some q)) : Gz w' g x := by
  obtain ⟨⟨xs, r1, k1⟩, ⟨ys, r2, k2⟩, h3⟩ := h
  have hS : ∀ x, (encS.enc x)[0]? ≠ some (.slice none 0 0) := fun x h => by cases h
  have hP : ∀ x, (encP.enc x)[0]? ≠ some (.slice none 0 0) := fun x h => by cases h
  exact ⟨⟨xs, rw_rows (by decide) (fun x h => by cases h) r1 hq hg, ⟨k1.1, fun i hi hi' => by
    obtain ⟨z0, z1, z2, z3⟩ := k1.2 i hi hi'
    exact ⟨z0, rw_rows (by decide) hS z1 hq hg, rw_rows (by decide) hP z2 hq hg, z3⟩⟩⟩, ⟨ys, rw_rows (by decide) (fun x h => by cases h) r2 hq hg, ⟨k2.1, fun i hi hi' => by
    obtain ⟨z0, z1, z2, z3, z4, z5, z6, z7, z8⟩ := k2.2 i hi hi'
    exact ⟨z0, z1, z2, z3, z4, z5, rw_rows (by decide) hS z6 hq hg, rw_rows (by decide) hP z7 hq hg, z8⟩⟩⟩, h3⟩
theorem mp_ne {w : World} {m n : Nat} {D : DataW Unit} (h : Mp w m n D) {b : Nat} {e : TypeId} {cs : Array Value} (hv : Vr w b e cs) : some m ≠ some b := by
  obtain ⟨es, cl, h1, r⟩ := h
  intro e
  cases e
  have h2 : w.heap[m]? = _ := hv
  rw [h1] at h2
  cases h2
theorem rw_ptr {α : Type} {sz : Nat} {E : Enc α sz} (h0 : 0 < sz) (hE : ∀ x, (E.enc x)[0]? ≠ some (.pointer none)) {w : World} {v : Value} {l : List α} (h : Rw E w v l) {b : Nat} {e : TypeId} (hv : Vr w b e #[.pointer none]) (y : Value) : Rw E (w.setCell ⟨b, 0, none⟩ y) v l := by
  obtain ⟨ao, cap, h1, h2, h3, h4, h5⟩ := h
  refine ⟨ao, cap, h1, h2, h3, h4, fun i hi => ?_⟩
  obtain ⟨c, o, ha, hc⟩ := h5 i hi
  refine ⟨c, o, ha, fun k hk => ?_⟩
  have hcb : b ≠ c := by
    intro e
    subst e
    have := hc 0 h0
    rw [hv.cell] at this
    have hl : 0 < (E.enc l[i]).length := by rw [E.len]; exact h0
    rcases Nat.eq_zero_or_pos (o + i * sz + 0) with e | e
    · rw [e] at this
      exact hE _ this.symm
    · have h2 : (#[Value.pointer none] : Array Value)[o + i * sz + 0]? = none := Array.getElem?_eq_none (by simp only [List.size_toArray, List.length_cons, List.length_nil]; omega)
      rw [h2, List.getElem?_eq_getElem hl] at this
      cases this
  rw [World.cell?_setCell_other _ _ _ _ (fun e => hcb (congrArg Addr.block e))]
  exact hc k hk
theorem gz_ptr {w : World} {g : Gd} {x : Gx} (h : Gz w g x) {b : Nat} {e : TypeId} (hv : Vr w b e #[.pointer none]) (y : Value) : Gz (w.setCell ⟨b, 0, none⟩ y) g x := by
  obtain ⟨⟨xs, r1, k1⟩, ⟨ys, r2, k2⟩, h3⟩ := h
  have hS : ∀ x, (encS.enc x)[0]? ≠ some (.pointer none) := fun x h => by cases h
  have hP : ∀ x, (encP.enc x)[0]? ≠ some (.pointer none) := fun x h => by cases h
  exact ⟨⟨xs, rw_ptr (by decide) (fun x h => by cases h) r1 hv y, ⟨k1.1, fun i hi hi' => by
    obtain ⟨z0, z1, z2, z3⟩ := k1.2 i hi hi'
    exact ⟨z0, rw_ptr (by decide) hS z1 hv y, rw_ptr (by decide) hP z2 hv y, z3⟩⟩⟩, ⟨ys, rw_ptr (by decide) (fun x h => by cases h) r2 hv y, ⟨k2.1, fun i hi hi' => by
    obtain ⟨z0, z1, z2, z3, z4, z5, z6, z7, z8⟩ := k2.2 i hi hi'
    exact ⟨z0, z1, z2, z3, z4, z5, rw_ptr (by decide) hS z6 hv y, rw_ptr (by decide) hP z7 hv y, z8⟩⟩⟩, h3⟩
theorem mp_ptr {w : World} {m n : Nat} {D : DataW Unit} (h : Mp w m n D) {b : Nat} {e : TypeId} (hv : Vr w b e #[.pointer none]) (y : Value) : Mp (w.setCell ⟨b, 0, none⟩ y) m n D := by
  obtain ⟨es, cl, h1, r⟩ := h
  refine ⟨es, cl, ?_, r⟩
  rw [Below.heap_setCell _ _ _ _ (fun e => by
    simp only at e
    subst e
    have h2 : w.heap[m]? = _ := hv
    rw [h1] at h2
    cases h2)]
  exact h1
set_option maxRecDepth 100000 in
set_option maxHeartbeats 4000000 in
/-- New of a right graph -/
theorem new7_core (g : Gd) (xs : List Nx) (ys : List Dx) (ns es : Sl) (w : World) (hz : Gz w g ⟨ns, es⟩) (h : RwN w ns.v xs) (h' : RwD w es.v ys) (k : Ns w g.nodes xs) (k' : Ds w g.edges ys) (hr : rightG g = 0) :
    Calls Try.prog 11 #[.agg #[ns.v, es.v]] w fun e w' => ∃ p, e = .returned (.tuple #[pv p, .int .i64 0]) ∧ Ix w' p g ∧ Below w.heap.size w w' := by
  have hp := right_parts hr
  have n1 := k.1
  have n2 := k'.1
  have l1 := h.hd.1
  have l2 := h'.hd.1
  obtain ⟨ao, L, cap⟩ := ns
  obtain ⟨bo, M, cbp⟩ := es
  dsimp only at l1 l2
  have HN := Lib.hid (show g.nodes.length ≤ 1000 from hp.1)
  have HM := Lib.hid (show g.edges.length ≤ 1000 from hp.2.1)
  have HwN := Lib.hid (show ∀ d ∈ g.nodes, wordB d.name = true from fun d hd => by
    obtain ⟨i, hi, rfl⟩ := List.mem_iff_getElem.1 hd
    have := right_node hr i hi
    unfold nodeB at this
    rw [Bool.and_eq_true] at this
    exact this.1)
  have HwD := Lib.hid (show ∀ d ∈ g.edges, wordB d.name = true from fun d hd => by
    obtain ⟨i, hi, rfl⟩ := List.mem_iff_getElem.1 hd
    have := right_edge hr i hi
    unfold edgeB at this
    rw [Bool.and_eq_true] at this
    exact this.1)
  have HE := Lib.hid (right_ends hr)
  have C0 := right7_any (hz.keep (below_a1 w (.cells #[Sl.v ⟨ao, L, cap⟩, Sl.v ⟨bo, M, cbp⟩] 25)))
  rw [hr] at C0
  dsimp only [Sl.v, gv] at h h' C0 ⊢
  have hgL : g.nodes.length = L := n1.trans l1
  have hgM : g.edges.length = M := n2.trans l2
  have HgL := Lib.hid hgL
  have HgM := Lib.hid hgM
  have HC0 := Lib.hid C0
  have B0 := below_a1 w (.cells #[.slice ao L cap, .slice bo M cbp] 25)
  have VG := Lib.hid (Vr.new w 25 #[.slice ao L cap, .slice bo M cbp])
  have HZ := Lib.hid (hz.keep B0)
  have HR := Lib.hid (h.keep B0)
  have HR2 := Lib.hid (h'.keep B0)
  have HK := Lib.hid (k.keep B0)
  have HK2 := Lib.hid (k'.keep B0)
  have HB0 := Lib.hid B0
  clear h h' k k' n1 n2 l1 l2 hz C0 B0 hp hr hgL hgM
  refine callsIn_wide (n := 4) |>.1 ?_
  refine callsIn_of_wp_marks Try.func11 rfl trivial ?_ rfl
  simp only [Try.ntmps11, List.size_toArray, List.length_cons, List.length_nil, Nat.reduceAdd, Nat.reduceSub, Array.replicate_succ, Array.replicate_zero, List.push_toArray, List.append_toArray, List.nil_append, List.cons_append]
  refine wpIn_wide.2 ?_
  go_wp2_with fail
  (with_reducible refine HC0.out.mono ?_); rintro e wA ⟨rfl, hbA⟩
  have VG2 := Lib.hid (VG.out.keep hbA)
  have HBA := Lib.hid (Below.chain HB0.out hbA)
  have HZ2 := Lib.hid (HZ.out.keep hbA)
  have HRa := Lib.hid (HR.out.keep hbA)
  have HRb := Lib.hid (HR2.out.keep hbA)
  have HKa := Lib.hid (HK.out.keep hbA)
  have HKb := Lib.hid (HK2.out.keep hbA)
  clear hbA VG HB0 HZ HR HR2 HK HK2 HC0
  go_wp2_with fail
  have HP1 := Lib.hid (fun u (hb : Below wA.heap.size wA u) => placesN_any g.nodes xs _ u (HRa.out.keep hb) (HKa.out.keep hb) HN.out HwN.out)
  have HP2 := Lib.hid (fun u (hb : Below wA.heap.size wA u) => placesD_any g.edges ys _ u (HRb.out.keep hb) (HKb.out.keep hb) HM.out HwD.out)
  have HCl := Lib.hid (fun u (hb : Below wA.heap.size wA u) => clone_any (HZ2.out.keep hb) HN.out HM.out)
  dsimp only [gv, Sl.v] at HCl
  have hmk := fun n u h => run_mk7 n u h
  refine wp_region_facts 15 (VN w.heap.size (.slice ao L cap) (.slice bo M cbp) g) (fun a b => Below a.heap.size a b) (by kernel_rfl) (by decide) (by kernel_rfl) (by kernel_rfl) (fun a => Below.refl _ _) (fun a b c => Below.chain) VN.keep ?_ ?_
  · refine ⟨?_, ?_, ?_, ?_, ?_, ?_, ?_, ?_, ?_, ?_, ?_, ?_, ?_, ?_, ?_, trivial⟩
    · intro a u hR hF hD
      have hR1 := below_undrew hR
      have f1 : a.eval (.tmp 1) = .pointer (some ⟨w.heap.size, 0, none⟩) := hF 1 (by kernel_rfl)
      simp only [Act.eval, Array.getD_eq_getD_getElem?] at f1
      have q0 := (VG2.out.keep hR1).cell 0
      have q1 := (VG2.out.keep hR1).cell 1
      simp only [List.getElem?_toArray, List.getElem?_cons_zero, List.getElem?_cons_succ] at q0 q1
      show Oper.wp _ _ _ _ _ _
      unfold Oper.wp
      simp only [execOp]
      go_simp
      exact ⟨_, rfl, rfl, Below.refl _ _⟩
    · intro a u hR hF hD
      have hR1 := below_undrew hR
      have d13 : a.eval (.tmp 13) = .agg #[.slice ao L cap, .slice bo M cbp] := hD 0 (by kernel_rfl)
      simp only [Act.eval, Array.getD_eq_getD_getElem?] at d13
      show Oper.wp _ _ _ _ _ _
      unfold Oper.wp
      simp only [execOp]
      go_simp
      (with_reducible refine (HCl.out u hR1).mono ?_); rintro e u2 ⟨x2, rfl, hx2, hb⟩
      exact ⟨_, rfl, ⟨x2, rfl, hx2⟩, hb⟩
    · intro a u hR hF hD
      have hR1 := below_undrew hR
      have f1 : a.eval (.tmp 1) = .pointer (some ⟨w.heap.size, 0, none⟩) := hF 1 (by kernel_rfl)
      simp only [Act.eval, Array.getD_eq_getD_getElem?] at f1
      show Oper.wp _ _ _ _ _ _
      unfold Oper.wp
      simp only [execOp]
      go_simp
      exact ⟨_, rfl, rfl, Below.refl _ _⟩
    · intro a u hR hF hD
      have hR1 := below_undrew hR
      have d15 : a.eval (.tmp 15) = .pointer (some ⟨w.heap.size, 0, none⟩) := hD 2 (by kernel_rfl)
      simp only [Act.eval, Array.getD_eq_getD_getElem?] at d15
      have q0 := (VG2.out.keep hR1).cell 0
      simp only [List.getElem?_toArray, List.getElem?_cons_zero] at q0
      show Oper.wp _ _ _ _ _ _
      unfold Oper.wp
      simp only [execOp]
      go_simp
      exact ⟨_, rfl, rfl, Below.refl _ _⟩
    · intro a u hR hF hD
      have hR1 := below_undrew hR
      have d16 : a.eval (.tmp 16) = .slice ao L cap := hD 3 (by kernel_rfl)
      simp only [Act.eval, Array.getD_eq_getD_getElem?] at d16
      show Oper.wp _ _ _ _ _ _
      unfold Oper.wp
      simp only [execOp]
      go_simp
      (with_reducible refine (HP1.out u hR1).mono ?_); rintro e u2 ⟨m2, rfl, -, hm2, hb⟩
      exact ⟨_, rfl, ⟨m2, rfl, hm2⟩, hb⟩
    · intro a u hR hF hD
      have hR1 := below_undrew hR
      have f1 : a.eval (.tmp 1) = .pointer (some ⟨w.heap.size, 0, none⟩) := hF 1 (by kernel_rfl)
      simp only [Act.eval, Array.getD_eq_getD_getElem?] at f1
      show Oper.wp _ _ _ _ _ _
      unfold Oper.wp
      simp only [execOp]
      go_simp
      exact ⟨_, rfl, rfl, Below.refl _ _⟩
    · intro a u hR hF hD
      have hR1 := below_undrew hR
      have d18 : a.eval (.tmp 18) = .pointer (some ⟨w.heap.size, 1, none⟩) := hD 5 (by kernel_rfl)
      simp only [Act.eval, Array.getD_eq_getD_getElem?] at d18
      have q1 := (VG2.out.keep hR1).cell 1
      simp only [List.getElem?_toArray, List.getElem?_cons_zero, List.getElem?_cons_succ] at q1
      show Oper.wp _ _ _ _ _ _
      unfold Oper.wp
      simp only [execOp]
      go_simp
      exact ⟨_, rfl, rfl, Below.refl _ _⟩
    · intro a u hR hF hD
      have hR1 := below_undrew hR
      have d19 : a.eval (.tmp 19) = .slice bo M cbp := hD 6 (by kernel_rfl)
      simp only [Act.eval, Array.getD_eq_getD_getElem?] at d19
      show Oper.wp _ _ _ _ _ _
      unfold Oper.wp
      simp only [execOp]
      go_simp
      (with_reducible refine (HP2.out u hR1).mono ?_); rintro e u2 ⟨m2, rfl, -, hm2, hb⟩
      exact ⟨_, rfl, ⟨m2, rfl, hm2⟩, hb⟩
    · intro a u hR hF hD
      have hR1 := below_undrew hR
      have f1 : a.eval (.tmp 1) = .pointer (some ⟨w.heap.size, 0, none⟩) := hF 1 (by kernel_rfl)
      simp only [Act.eval, Array.getD_eq_getD_getElem?] at f1
      show Oper.wp _ _ _ _ _ _
      unfold Oper.wp
      simp only [execOp]
      go_simp
      exact ⟨_, rfl, rfl, Below.refl _ _⟩
    · intro a u hR hF hD
      have hR1 := below_undrew hR
      have d21 : a.eval (.tmp 21) = .pointer (some ⟨w.heap.size, 0, none⟩) := hD 8 (by kernel_rfl)
      simp only [Act.eval, Array.getD_eq_getD_getElem?] at d21
      have q0 := (VG2.out.keep hR1).cell 0
      simp only [List.getElem?_toArray, List.getElem?_cons_zero] at q0
      show Oper.wp _ _ _ _ _ _
      unfold Oper.wp
      simp only [execOp]
      go_simp
      exact ⟨_, rfl, rfl, Below.refl _ _⟩
    · intro a u hR hF hD
      have hR1 := below_undrew hR
      have d22 : a.eval (.tmp 22) = .slice ao L cap := hD 9 (by kernel_rfl)
      simp only [Act.eval, Array.getD_eq_getD_getElem?] at d22
      show Oper.wp _ _ _ _ _ _
      unfold Oper.wp
      simp only [execOp]
      go_simp
      exact ⟨_, rfl, by show _ = _; rw [HgL.out], Below.refl _ _⟩
    · intro a u hR hF hD
      have hR1 := below_undrew hR
      have d23 : a.eval (.tmp 23) = .int .i64 g.nodes.length := hD 10 (by kernel_rfl)
      simp only [Act.eval, Array.getD_eq_getD_getElem?] at d23
      have hm7 := hmk g.nodes.length u HN.out
      have hsz : w.heap.size < u.heap.size := by have := VG2.out.lt; have := hR1.size; omega
      show Oper.wp _ _ _ _ _ _
      unfold Oper.wp
      simp only [execOp]
      go_simp
      exact ⟨_, rfl, ⟨_, rfl, hsz, Vr.new _ _ _⟩, below_a1 _ _⟩
    · intro a u hR hF hD
      have hR1 := below_undrew hR
      obtain ⟨x4, g14, hx4⟩ : ∃ x, a.eval (.tmp 14) = gv x ∧ Gz u g x := hD 1 (by kernel_rfl)
      obtain ⟨y1, g17, hy1⟩ : ∃ b, a.eval (.tmp 17) = .map (some b) ∧ Mp u b g.nodes.length (Dn (namesN g) g.nodes.length) := hD 4 (by kernel_rfl)
      obtain ⟨y2, g20, hy2⟩ : ∃ b, a.eval (.tmp 20) = .map (some b) ∧ Mp u b g.edges.length (Dn (namesD g) g.edges.length) := hD 7 (by kernel_rfl)
      obtain ⟨y3, g24, hy0, hy3⟩ : ∃ q, a.eval (.tmp 24) = .slice (some ⟨q, 0, none⟩) g.nodes.length g.nodes.length ∧ w.heap.size < q ∧ Vr u q 89 (Array.replicate g.nodes.length (.slice none 0 0)) := hD 11 (by kernel_rfl)
      simp only [Act.eval, Array.getD_eq_getD_getElem?] at g14 g17 g20 g24
      obtain ⟨⟨xa, xl, xc⟩, ⟨ya, yl, yc⟩⟩ := x4
      dsimp only [gv, Sl.v] at g14
      show Oper.wp _ _ _ _ _ _
      unfold Oper.wp
      simp only [execOp]
      go_simp
      exact ⟨_, rfl, ⟨⟨⟨xa, xl, xc⟩, ⟨ya, yl, yc⟩⟩, y1, y2, y3, hy0, rfl, hx4, hy1, hy2, hy3⟩, Below.refl _ _⟩
    · intro a u hR hF hD
      have hR1 := below_undrew hR
      have hP : Parts w.heap.size u g (a.eval (.tmp 25)) := hD 12 (by kernel_rfl)
      obtain ⟨⟨⟨xa, xl, xc⟩, ⟨ya, yl, yc⟩⟩, y1, y2, y3, hy0, g25, hx4, hy1, hy2, hy3⟩ := hP
      simp only [Act.eval, Array.getD_eq_getD_getElem?] at g25
      dsimp only [Sl.v] at g25
      have hsz : w.heap.size < u.heap.size := by have := VG2.out.lt; have := hR1.size; omega
      show Oper.wp _ _ _ _ _ _
      unfold Oper.wp
      simp only [execOp]
      go_simp
      exact ⟨_, rfl, ⟨_, _, rfl, hsz, Vr.new _ _ _, ⟨⟨⟨xa, xl, xc⟩, ⟨ya, yl, yc⟩⟩, y1, y2, y3, hy0, rfl, hx4.keep (below_a1 _ _), ownsMap_keep hy1 (below_a1 _ _), ownsMap_keep hy2 (below_a1 _ _), hy3.al⟩⟩, below_a1 _ _⟩
    · intro a u hR hF hD
      have hR1 := below_undrew hR
      have hsz : w.heap.size < u.heap.size := by have := VG2.out.lt; have := hR1.size; omega
      show Oper.wp _ _ _ _ _ _
      unfold Oper.wp
      simp only [execOp]
      go_simp
      exact ⟨_, rfl, ⟨_, rfl, hsz, Vr.new _ _ _⟩, below_a1 _ _⟩
  · intro vs u hv hR
    obtain ⟨c, cs, e13, hcl, hvc, hP⟩ : VN w.heap.size (.slice ao L cap) (.slice bo M cbp) g 13 (vs 13) u := hv 13 (by decide)
    obtain ⟨bx, e14, hbl, hvb⟩ : VN w.heap.size (.slice ao L cap) (.slice bo M cbp) g 14 (vs 14) u := hv 14 (by decide)
    have hR1 := below_undrew hR
    simp only [putAll, List.take, List.drop, Act.put, List.setIfInBounds_toArray, List.set_cons_succ, List.set_cons_zero, Nat.zero_add, Nat.reduceAdd]
    rw [e13, e14]
    generalize vs 0 = t0
    generalize vs 1 = t1
    generalize vs 2 = t2
    generalize vs 3 = t3
    generalize vs 4 = t4
    generalize vs 5 = t5
    generalize vs 6 = t6
    generalize vs 7 = t7
    generalize vs 8 = t8
    generalize vs 9 = t9
    generalize vs 10 = t10
    generalize vs 11 = t11
    generalize vs 12 = t12
    clear hv e13 e14 hR HP1 HP2 HCl hmk HZ2
    obtain ⟨x, m1, m2, q, hwq, ecs, hgz, hm1, hm2, hvq⟩ := hP
    cases ecs
    have hne : c ≠ bx := hvc.apart hvb (by decide)
    have hqb : q ≠ bx := hvq.apart hvb (by decide)
    have hqc : q ≠ c := hvq.apart hvc (by decide)
    have b0 := hvb.cell 0
    simp only [List.getElem?_toArray, List.getElem?_cons_zero] at b0
    have f0 := hvb.thaw 0
    have X1 := Lib.hid (show Vr (u.setCell ⟨bx, 0, none⟩ (.pointer (some ⟨c, 0, none⟩))) bx 32 #[.pointer (some ⟨c, 0, none⟩)] from hvb.setCell 0 _)
    have X2 := Lib.hid (hvc.setOther (a := ⟨bx, 0, none⟩) hne (.pointer (some ⟨c, 0, none⟩)))
    have X3 := Lib.hid (hvq.setOther (a := ⟨bx, 0, none⟩) hqb (.pointer (some ⟨c, 0, none⟩)))
    have X4 := Lib.hid (gz_ptr hgz hvb (.pointer (some ⟨c, 0, none⟩)))
    have X5 := Lib.hid (mp_ptr hm1 hvb (.pointer (some ⟨c, 0, none⟩)))
    have X6 := Lib.hid (mp_ptr hm2 hvb (.pointer (some ⟨c, 0, none⟩)))
    have X7 := Lib.hid ((HBA.out.trans (hR1.mono HBA.out.size)).setCell (p := ⟨bx, 0, none⟩) (Nat.le_of_lt hbl) (.pointer (some ⟨c, 0, none⟩)))
    generalize hW2 : u.setCell ⟨bx, 0, none⟩ (.pointer (some ⟨c, 0, none⟩)) = W2 at *
    clear hvb hvc hvq hgz hm1 hm2 hR1 hqb
    obtain ⟨⟨xna, xnl, xnc⟩, ⟨xea, xel, xec⟩⟩ := x
    dsimp only [Sl.v] at X2
    have y0 := X1.out.cell 0
    have y1 := X2.out.cell 1
    simp only [List.getElem?_toArray, List.getElem?_cons_zero, List.getElem?_cons_succ] at y0 y1
    go_wp2_with fail
    clear hW2
    (with_reducible refine (leads_any xea xel xec W2).mono ?_); rintro e W3 ⟨rfl, rfl⟩
    clear y0 y1
    have BZ := below_a1 W2 (.cells #[.slice xea xel xec] 23)
    have VL := Vr.new W2 23 #[.slice xea xel xec]
    have SZ : (W2.alloc (.cells #[.slice xea xel xec] 23)).heap.size = W2.heap.size + 1 := by simp
    go_wp2_with fail
    generalize W2.alloc (.cells #[.slice xea xel xec] 23) = W0 at *
    have Z1 := Lib.hid (X1.out.keep BZ)
    have Z2 := Lib.hid (X2.out.keep BZ)
    have Z3 := Lib.hid (X3.out.keep BZ)
    have Z4 := Lib.hid (X4.out.keep BZ)
    have Z5 := Lib.hid (ownsMap_keep X5.out BZ)
    have Z6 := Lib.hid (ownsMap_keep X6.out BZ)
    have Z7 := Lib.hid (X7.out.trans (BZ.mono X7.out.size))
    have ZL := Lib.hid (VL.cell 0)
    have ZS := Lib.hid (show W2.heap.size < W0.heap.size by omega)
    have ZQ := Lib.hid Z3.out.lt
    have ZP := Lib.hid Z4.out
    clear X1 X2 X3 X4 X5 X6 X7 BZ VL SZ VG2 b0 f0
    obtain ⟨-, ⟨zs, r2, k2⟩, -⟩ := ZP.out
    have HSeq := Lib.hid (show ∀ x ∈ seqN g.edges g.edges.length, 0 ≤ x.1 ∧ x.1 < (g.nodes.length : Int) from seqN_in HE.out)
    have HEc := Lib.hid (edges_cells r2 Z3.out)
    have HEf := Lib.hid (show ∀ i (h : i < g.edges.length) (h' : i < zs.length), zs[i].fro = g.edges[i].fro ∧ zs[i].to = g.edges[i].to ∧ zs[i].dir = g.edges[i].dir from fun i h h' => ⟨(k2.2 i h h').2.1, (k2.2 i h h').2.2.1, (k2.2 i h h').2.2.2.1⟩)
    have hzl : zs.length = xel := r2.hd.1
    have hgl : g.edges.length = zs.length := k2.1
    have hzk : xel ≤ 1000 := by have := HM.out; omega
    have HSt := Lib.hid (leads_stops Fence.wide (4 - 1) trivial rfl (by decide) W2.heap.size q g.nodes.length g.edges zs xea xel xec hzl hzk hgl HEf.out HSeq.out W0 (by simpa using ZL.out) ZS.out HEc.out)
    have HRs := Lib.hid (rows_start W0 q g.nodes.length Z3.out)
    clear r2 k2 HEf HEc HSeq hzl hgl hzk ZP
    refine (wpIn_wide (n := 4)).1 ?_
    refine wpIn_rangeFunc_ownH (F := Fence.wide) rfl (by decide) (gf := 53) (lb := #[.pointer (some ⟨W2.heap.size, 0, none⟩)]) rfl trivial (enters_of Try.func53 (by kernel_rfl) rfl)
      HSt.out KpE.trans (KpE.put (Nat.le_refl _)) (Below.refl _ _) (fun _ => rfl)
      (fun pre W => Rows W0 q g.nodes.length (pre.map Subtype.val) W) (fun _ _ _ => False) (rows_own W0 q _ (fun pre => pre.map Subtype.val)) (fun c _ _ _ _ h _ _ => h) ⟨_, HRs.out⟩
      (fun x a' W => ∃ Bx, W0.heap.size ≤ Bx ∧ Vr W Bx 88 #[.int .i64 x.1.2.1, .int .i64 x.1.2.2.1, .int .i64 x.1.2.2.2] ∧ Clear q W Bx ∧ a' = (⟨#[Value.agg #[Value.slice ao L cap, Value.slice bo M cbp],
          Value.pointer (some { block := w.heap.size, off := 0 }), Value.pointer none, Value.int IntKind.i64 0,
          Value.int IntKind.i64 0, Value.pointer (some { block := bx, off := 0 }), .int .i64 x.1.1, .pointer (some ⟨Bx, 0, none⟩),
          Value.agg #[Value.slice ao L cap, Value.slice bo M cbp], Value.int IntKind.i64 0, Value.int IntKind.i64 0,
          Value.bool false, undef, t0, t1, t2, t3, t4, t5, t6, t7, t8, t9, t10, t11, t12,
          Value.pointer (some { block := c, off := 0 }), Value.pointer (some { block := c, off := 0 }),
          Value.pointer (some { block := c, off := 0 }), Value.pointer (some { block := c, off := 0 }),
          Value.pointer (some { block := c, off := 1 }), Value.slice xea xel xec,
          Value.func (Fn.func 53) #[] #[Value.pointer (some { block := W2.heap.size, off := 0 })], .int .i64 x.1.1, .agg #[.int .i64 x.1.2.1, .int .i64 x.1.2.2.1, .int .i64 x.1.2.2.2], undef,
          undef, undef, undef, undef, undef, undef, undef, undef, undef, undef, undef, undef, undef, undef, undef,
          undef], []⟩ : Act))
      (fun x a' _ X Y row hs hg hr => by
        obtain ⟨Bx, h1, h2, h3, h4⟩ := hs
        refine ⟨Bx, h1, h2.grown hg (fun e => ?_), h3.step hg (fun y e e2 => ?_), h4⟩
        · obtain ⟨_, o, ho, hc⟩ := hr Bx e.symm
          have h2' : X.heap[Bx]? = some (.cells _ _ _) := h2
          rw [ho] at h2'
          cases h2'
          cases hc
        · subst e2
          have := (hr y e).1
          have := ZQ.out
          omega)
      ?assign ?body ?done ?stop
    case assign =>
      rintro l pre ⟨⟨node, ld1, ld2, ld3⟩, hn0, hnL⟩ W K ⟨rows, hR⟩ hK
      have HC := Lib.hid (rows_clear hR (.cells #[.int .i64 ld1, .int .i64 ld2, .int .i64 ld3] 88))
      have HR2 := Lib.hid (rows_own W0 q g.nodes.length (fun pre => pre.map Subtype.val) pre W (W.alloc (.cells #[.int .i64 ld1, .int .i64 ld2, .int .i64 ld3] 88)) none ⟨rows, hR⟩ (World.grownBy_alloc W _ none) (fun r e => by cases e))
      have HSz := Lib.hid hR.grown.size
      clear hR
      dsimp only [encY]
      gi_wp2
      exact hK _ _ ((KeepsOthers.alloc _ _).from _) (kpe_alloc HSz.out _) HR2.out ⟨W.heap.size, HSz.out, Vr.new _ _ _, HC.out, rfl⟩
    case body =>
      rintro l pre ⟨⟨node, ld⟩, hn0, hnL⟩ a' W hl - ⟨rows, hR⟩ ⟨Bx, hBx, bX, hCl, rfl⟩ hlt
      dsimp only at hn0 hnL bX ⊢
      obtain ⟨k, rfl⟩ : ∃ k : Nat, node = (k : Int) := ⟨node.toNat, by omega⟩
      have hk : k < rows.length := by rw [hR.len]; omega
      have hob : ∀ b, rows[k].v.ownBlock = some b → W0.heap.size ≤ b := (hR.own k hk).row
      have hobW : ∀ b, rows[k].v.ownBlock = some b → b < W.heap.size := fun b hb => (World.ownsRow.lt (hR.own k hk) b hb).2
      have hbq : bx ≠ q := Z1.out.apart Z3.out (by decide)
      have hcq : c ≠ q := Z2.out.apart Z3.out (by decide)
      have vb := Z1.out.grown hR.grown (by intro e; cases e; exact hbq rfl)
      have vc := Z2.out.grown hR.grown (by intro e; cases e; exact hcq rfl)
      have hcell := hR.row.cell k
      simp only [List.getElem?_toArray, List.getElem?_map, List.getElem?_eq_getElem hk, Option.map_some] at hcell
      have hBo : rows[k].v.ownBlock ≠ some Bx := hCl.2 k _ hcell
      have FX := Lib.hid (show ∀ u, W.grownBy u rows[k].v.ownBlock → Vr u bx 32 #[.pointer (some ⟨c, 0, none⟩)] from fun u hu => vb.grown hu (fun e => by have := hob bx e.symm; have := Z1.out.lt; omega))
      have FC := Lib.hid (show ∀ u, W.grownBy u rows[k].v.ownBlock → Vr u c 83 #[.slice xna xnl xnc, .slice xea xel xec, .map (some m1), .map (some m2), .slice (some ⟨q, 0, none⟩) g.nodes.length g.nodes.length] from fun u hu => vc.grown hu (fun e => by have := hob c e.symm; have := Z2.out.lt; omega))
      have FQ := Lib.hid (show ∀ u, W.grownBy u rows[k].v.ownBlock → Vr u q 89 (rows.map Sl.v).toArray from fun u hu => hR.row.grown hu (fun e => by have := hob q e.symm; have := ZQ.out; omega))
      have FL := Lib.hid (show ∀ u, W.grownBy u rows[k].v.ownBlock → Vr u Bx 88 #[.int .i64 ld.1, .int .i64 ld.2.1, .int .i64 ld.2.2] from fun u hu => bX.grown hu (fun e => hBo e.symm))
      have HRx := Lib.hid hR
      have HOw := Lib.hid (hR.own k hk)
      have HLen := Lib.hid (show (rowOf (pre.map Subtype.val) k).length ≤ pre.length by
        have := rowOf_len (pre.map Subtype.val) k
        simpa using this)
      have HPre := Lib.hid (show pre.length ≤ 2000 by
        have := seqN_len g.edges g.edges.length
        have := HM.out
        omega)
      have hk1 : (k : Int) < (g.nodes.length : Int) := hnL
      have hk0 : (0 : Int) ≤ (k : Int) := hn0
      have hW0 := hR.grown.size
      have HNext := Lib.hid (fun u s hB hs hat => rows_next (u := u) hR ZQ.out hk ld s hB hs hat)
      have HCell := Lib.hid (show (rows.map Sl.v).toArray[k]? = some rows[k].v by simp [hk])
      clear vb vc hR bX hCl hcell hBo hbq hcq hlt
      gi_wp2
      refine wpIn_region_facts 15 (VB c q g.nodes.length k W0.heap.size W.heap.size rows[k] (rowOf (pre.map Subtype.val) k) ld) (RB rows[k]) (BB rows[k]) (by kernel_rfl) (by decide) (by kernel_rfl) (by kernel_rfl) (fun f => trivial) RB.refl BB.refl RB.base VB.keep ?_ ?_
      · refine ⟨?_, ?_, ?_, ?_, ?_, ?_, ?_, ?_, ?_, ?_, ?_, ?_, ?_, ?_, ?_, trivial⟩
        · intro a u hB hF hD
          have hG := BB.grown hB
          have f5 : a.eval (.tmp 5) = .pointer (some ⟨bx, 0, none⟩) := hF 5 (by kernel_rfl)
          simp only [Act.eval, Array.getD_eq_getD_getElem?] at f5
          have q0 := (FX.out u hG).cell 0
          simp only [List.getElem?_toArray, List.getElem?_cons_zero] at q0
          show Oper.uponIn _ _ _ _ _ _ _ _
          go_simp
          exact ⟨_, rfl, rfl, RB.of (by decide) (Below.refl _ _)⟩
        · intro a u hB hF hD
          have hG := BB.grown hB
          have d35 : a.eval (.tmp 35) = .pointer (some ⟨c, 0, none⟩) := hD 0 (by kernel_rfl)
          simp only [Act.eval, Array.getD_eq_getD_getElem?] at d35
          show Oper.uponIn _ _ _ _ _ _ _ _
          go_simp
          exact ⟨_, rfl, rfl, RB.of (by decide) (Below.refl _ _)⟩
        · intro a u hB hF hD
          have hG := BB.grown hB
          have d36 : a.eval (.tmp 36) = .pointer (some ⟨c, 0, none⟩) := hD 1 (by kernel_rfl)
          simp only [Act.eval, Array.getD_eq_getD_getElem?] at d36
          show Oper.uponIn _ _ _ _ _ _ _ _
          go_simp
          exact ⟨_, rfl, rfl, RB.of (by decide) (Below.refl _ _)⟩
        · intro a u hB hF hD
          have hG := BB.grown hB
          have d37 : a.eval (.tmp 37) = .pointer (some ⟨c, 4, none⟩) := hD 2 (by kernel_rfl)
          simp only [Act.eval, Array.getD_eq_getD_getElem?] at d37
          have q0 := (FC.out u hG).cell 4
          simp only [List.getElem?_toArray, List.getElem?_cons_zero, List.getElem?_cons_succ] at q0
          show Oper.uponIn _ _ _ _ _ _ _ _
          go_simp
          exact ⟨_, rfl, rfl, RB.of (by decide) (Below.refl _ _)⟩
        · intro a u hB hF hD
          have hG := BB.grown hB
          have f6 : a.eval (.tmp 6) = .int .i64 (k : Int) := hF 6 (by kernel_rfl)
          simp only [Act.eval, Array.getD_eq_getD_getElem?] at f6
          show Oper.uponIn _ _ _ _ _ _ _ _
          go_simp
          exact ⟨_, rfl, rfl, RB.of (by decide) (Below.refl _ _)⟩
        · intro a u hB hF hD
          have hG := BB.grown hB
          have f5 : a.eval (.tmp 5) = .pointer (some ⟨bx, 0, none⟩) := hF 5 (by kernel_rfl)
          simp only [Act.eval, Array.getD_eq_getD_getElem?] at f5
          have q0 := (FX.out u hG).cell 0
          simp only [List.getElem?_toArray, List.getElem?_cons_zero] at q0
          show Oper.uponIn _ _ _ _ _ _ _ _
          go_simp
          exact ⟨_, rfl, rfl, RB.of (by decide) (Below.refl _ _)⟩
        · intro a u hB hF hD
          have hG := BB.grown hB
          have d40 : a.eval (.tmp 40) = .pointer (some ⟨c, 0, none⟩) := hD 5 (by kernel_rfl)
          simp only [Act.eval, Array.getD_eq_getD_getElem?] at d40
          show Oper.uponIn _ _ _ _ _ _ _ _
          go_simp
          exact ⟨_, rfl, rfl, RB.of (by decide) (Below.refl _ _)⟩
        · intro a u hB hF hD
          have hG := BB.grown hB
          have d41 : a.eval (.tmp 41) = .pointer (some ⟨c, 0, none⟩) := hD 6 (by kernel_rfl)
          simp only [Act.eval, Array.getD_eq_getD_getElem?] at d41
          show Oper.uponIn _ _ _ _ _ _ _ _
          go_simp
          exact ⟨_, rfl, rfl, RB.of (by decide) (Below.refl _ _)⟩
        · intro a u hB hF hD
          have hG := BB.grown hB
          have d42 : a.eval (.tmp 42) = .pointer (some ⟨c, 4, none⟩) := hD 7 (by kernel_rfl)
          simp only [Act.eval, Array.getD_eq_getD_getElem?] at d42
          have q0 := (FC.out u hG).cell 4
          simp only [List.getElem?_toArray, List.getElem?_cons_zero, List.getElem?_cons_succ] at q0
          show Oper.uponIn _ _ _ _ _ _ _ _
          go_simp
          exact ⟨_, rfl, rfl, RB.of (by decide) (Below.refl _ _)⟩
        · intro a u hB hF hD
          have hG := BB.grown hB
          have f6 : a.eval (.tmp 6) = .int .i64 (k : Int) := hF 6 (by kernel_rfl)
          simp only [Act.eval, Array.getD_eq_getD_getElem?] at f6
          show Oper.uponIn _ _ _ _ _ _ _ _
          go_simp
          exact ⟨_, rfl, rfl, RB.of (by decide) (Below.refl _ _)⟩
        · intro a u hB hF hD
          have hG := BB.grown hB
          have d43 : a.eval (.tmp 43) = .slice (some ⟨q, 0, none⟩) g.nodes.length g.nodes.length := hD 8 (by kernel_rfl)
          have d44 : a.eval (.tmp 44) = .int .i64 (k : Int) := hD 9 (by kernel_rfl)
          simp only [Act.eval, Array.getD_eq_getD_getElem?] at d43 d44
          show Oper.uponIn _ _ _ _ _ _ _ _
          go_simp
          exact ⟨_, rfl, rfl, RB.of (by decide) (Below.refl _ _)⟩
        · intro a u hB hF hD
          have hG := BB.grown hB
          have d45 : a.eval (.tmp 45) = .pointer (some ⟨q, k, none⟩) := hD 10 (by kernel_rfl)
          simp only [Act.eval, Array.getD_eq_getD_getElem?] at d45
          have q0 := (FQ.out u hG).cell k
          rw [HCell.out] at q0
          show Oper.uponIn _ _ _ _ _ _ _ _
          go_simp
          exact ⟨_, rfl, rfl, RB.of (by decide) (Below.refl _ _)⟩
        · intro a u hB hF hD
          have hG := BB.grown hB
          have f7 : a.eval (.tmp 7) = .pointer (some ⟨Bx, 0, none⟩) := hF 7 (by kernel_rfl)
          simp only [Act.eval, Array.getD_eq_getD_getElem?] at f7
          have q0 := (FL.out u hG).cell 0
          have q1 := (FL.out u hG).cell 1
          have q2 := (FL.out u hG).cell 2
          simp only [List.getElem?_toArray, List.getElem?_cons_zero, List.getElem?_cons_succ] at q0 q1 q2
          show Oper.uponIn _ _ _ _ _ _ _ _
          go_simp
          exact ⟨_, rfl, rfl, RB.of (by decide) (Below.refl _ _)⟩
        · intro a u hB hF hD
          have hG := BB.grown hB
          have d47 : a.eval (.tmp 47) = .agg #[.int .i64 ld.1, .int .i64 ld.2.1, .int .i64 ld.2.2] := hD 12 (by kernel_rfl)
          simp only [Act.eval, Array.getD_eq_getD_getElem?] at d47
          show Oper.uponIn _ _ _ _ _ _ _ _
          go_simp
          exact ⟨_, rfl, ⟨_, rfl, (fun e => by have := hobW _ e; have := hG.size; omega), Vr.new _ _ _⟩, RB.of (by decide) (below_a1 _ _)⟩
        · intro a u hB hF hD
          have d46 : a.eval (.tmp 46) = rows[k].v := hD 11 (by kernel_rfl)
          obtain ⟨bL, g48, hbo, hvl⟩ : ∃ b, a.eval (.tmp 48) = .slice (some ⟨b, 0, none⟩) 1 1 ∧ rows[k].v.ownBlock ≠ some b ∧ Vr u b 88 #[.int .i64 ld.1, .int .i64 ld.2.1, .int .i64 ld.2.2] := hD 13 (by kernel_rfl)
          have hbl := BB.below hB
          have hX : Rw encL u (.slice (some ⟨bL, 0, none⟩) 1 1) [ld] := lead_rw hvl
          obtain ⟨v5, u5, hrun, hO5, hg5, hat5⟩ := run_append_wide (E := encL) 89 89 Try.underlying89 info_l rfl (by decide) (by decide) (HOw.out.below hbl) hX (by have := HLen.out; have := HPre.out; simp; omega) (Nat.le_trans hW0 hbl.size)
          show Oper.uponIn _ _ _ _ _ _ _ _
          refine uponIn_append l (.tmp 46) (.tmp 48) 89 rfl _ _ d46 g48 v5 u5 hrun ?_
          exact ⟨_, rfl, ⟨hO5, hat5.imp id (fun e b hb => by rw [e] at hb; cases hb; exact hbl.size)⟩, (by unfold RB; rw [if_pos rfl]; exact hg5)⟩
      · intro vs u hv hBu
        have hG := BB.grown hBu
        obtain ⟨hO, hat⟩ : OwL u W0.heap.size (vs 14) (rowOf (pre.map Subtype.val) k ++ [ld]) ∧ ((vs 14).ownBlock = rows[k].v.ownBlock ∨ ∀ b, (vs 14).ownBlock = some b → W.heap.size ≤ b) := hv 14 (by decide)
        have e3 : vs 3 = .slice (some ⟨q, 0, none⟩) g.nodes.length g.nodes.length := hv 3 (by decide)
        have e4 : vs 4 = .int .i64 (k : Int) := hv 4 (by decide)
        obtain ⟨va, vcp, e14⟩ := hO.shape
        rw [e14] at hO hat
        have HN := HNext.out u ⟨va, (rowOf (pre.map Subtype.val) k ++ [ld]).length, vcp⟩ hG hO hat
        have q0 := (FQ.out u hG).cell k
        rw [HCell.out] at q0
        have th := (FQ.out u hG).thaw k
        simp only [putAll, List.take, List.drop, Act.put, List.setIfInBounds_toArray, List.set_cons_succ, List.set_cons_zero, Nat.zero_add, Nat.reduceAdd]
        rw [e3, e4, e14]
        generalize vs 0 = y0
        generalize vs 1 = y1
        generalize vs 2 = y2
        generalize vs 5 = y5
        generalize vs 6 = y6
        generalize vs 7 = y7
        generalize vs 8 = y8
        generalize vs 9 = y9
        generalize vs 10 = y10
        generalize vs 11 = y11
        generalize vs 12 = y12
        generalize vs 13 = y13
        clear e3 e4 e14 hv hBu hO hat hG
        simp only [Sl.v, List.length_append, List.length_cons, List.length_nil, Nat.zero_add] at HN
        have HNx := Lib.hid HN
        clear HN
        gi_wp2
        exact ⟨HNx.out.2.2, HNx.out.2.1, ⟨_, by rw [List.map_append]; exact HNx.out.1⟩⟩
    case done =>
      rintro D xs' W hD hxs ⟨rows, hR⟩ hK
      rw [hxs] at hR
      have hbq : bx ≠ q := Z1.out.apart Z3.out (by decide)
      have hcq : c ≠ q := Z2.out.apart Z3.out (by decide)
      have vb := Z1.out.grown hR.grown (by intro e; cases e; exact hbq rfl)
      have q0 := vb.cell 0
      simp only [List.getElem?_toArray, List.getElem?_cons_zero] at q0
      have HRx := Lib.hid hR
      have hgD := grownBy_putObj' W D (.deferred none)
      have hg2 := Lib.hid (grown_trans' hR.grown hgD (fun y e => by cases e; exact .inl hD))
      have hDq : D ≠ q := fun e => by have := ZQ.out; omega
      have HDn := Lib.hid (show ∀ b cur e, W.heap[b]? = some (.cells cur e (0, 0)) → some b ≠ some D from fun b cur e hb he => by
        cases he
        rw [hK] at hb
        cases hb)
      clear vb hR
      go_wp2_with fail
      refine ⟨by simp, .inl ⟨_, _, rfl, run_takeDeferred hK, ?_⟩⟩
      refine ⟨_, results_tmp2 rfl _ _ _, c, rfl, ?_, ?_⟩
      · have hrow : Vr (W.putObj D (.deferred none)) q 89 (rows.map Sl.v).toArray := HRx.out.row.grown hgD (HDn.out _ _ _ HRx.out.row)
        refine ⟨⟨⟨xna, xnl, xnc⟩, ⟨xea, xel, xec⟩⟩, m1, m2, ⟨some ⟨q, 0, none⟩, g.nodes.length, g.nodes.length⟩, Z2.out.grown hg2.out (by intro e; cases e; exact hcq rfl), gz_rows Z4.out Z3.out hg2.out, Z5.out.kept hg2.out (mp_ne Z5.out Z3.out), Z6.out.kept hg2.out (mp_ne Z6.out Z3.out), ⟨rows, ?_, HRx.out.len, fun i hi => ?_⟩, rfl⟩
        · refine ⟨some ⟨q, 0, none⟩, g.nodes.length, by rw [HRx.out.len], by rw [HRx.out.len]; exact Nat.le_refl _, by have := HN.out; simp only [maxLen]; omega, fun h => (by cases h), fun i hi => ⟨q, 0, rfl, fun j hj => ?_⟩⟩
          obtain rfl : j = 0 := by omega
          rw [hrow.cell]
          simp [encR, hi]
        · exact ((HRx.out.own i hi).kept hgD (fun b hb e => by
            obtain ⟨cur, hc⟩ := (HRx.out.own i hi).cellsAt hb
            exact HDn.out _ _ _ hc e.symm)).rw
      · exact (Z7.out.grown hg2.out Z7.out.size (fun y e => by cases e; omega))
    case stop =>
      rintro D c pre W _ _ h _
      exact h.elim
/-- New of a graph that is not right -/
theorem new7_bad (g : Gd) (ns es : Sl) (w : World) (hz : Gz w g ⟨ns, es⟩) (hr : rightG g ≠ 0) :
    Calls Try.prog 11 #[.agg #[ns.v, es.v]] w fun e w' => e = .returned (.tuple #[.pointer none, .int .i64 (rightG g)]) ∧ Below w.heap.size w w' := by
  obtain ⟨ao, L, cap⟩ := ns
  obtain ⟨bo, M, cbp⟩ := es
  have C0 := Lib.hid (right7_any (hz.keep (below_a1 w (.cells #[Sl.v ⟨ao, L, cap⟩, Sl.v ⟨bo, M, cbp⟩] 25))))
  have B0 := Lib.hid (below_a1 w (.cells #[.slice ao L cap, .slice bo M cbp] 25))
  dsimp only [Sl.v, gv] at C0 ⊢
  have hne : (rightG g != 0) = true := by simp [hr]
  clear hz
  generalize rightG g = r at *
  go_enter Try.func11, Try.ntmps11
  go_wp2_with fail
  (with_reducible refine C0.out.mono ?_); rintro e wA ⟨rfl, hbA⟩
  have HB := Lib.hid (Below.chain B0.out hbA)
  clear hbA
  go_wp2_with fail
  go_ret2
  exact ⟨rfl, HB.out⟩
/-- New -/
theorem new7_any {g : Gd} {x : Gx} {w : World} (h : Gz w g x) :
    Calls Try.prog 11 #[gv x] w fun e w' => ((rightG g = 0 ∧ ∃ p, e = .returned (.tuple #[pv p, .int .i64 0]) ∧ Ix w' p g) ∨ (rightG g ≠ 0 ∧ e = .returned (.tuple #[.pointer none, .int .i64 (rightG g)]))) ∧ Below w.heap.size w w' := by
  have hz := h
  obtain ⟨⟨xs, h1, h2⟩, ⟨ys, h3, h4⟩, -⟩ := h
  by_cases hr : rightG g = 0
  · refine (new7_core g xs ys x.ns x.es w hz h1 h3 h2 h4 hr).mono ?_
    rintro e w' ⟨p, he, hx, hb⟩
    exact ⟨.inl ⟨hr, p, he, hx⟩, hb⟩
  · refine (new7_bad g x.ns x.es w hz hr).mono ?_
    rintro e w' ⟨he, hb⟩
    exact ⟨.inr ⟨hr, he⟩, hb⟩
end Go.Proofs.Ytdoefndppoglfaa
