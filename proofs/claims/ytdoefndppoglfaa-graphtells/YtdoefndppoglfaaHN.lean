import Derived.Test.YtdoefndppoglfaaG11
import Derived.Test.YtdoefndppoglfaaFR
import Derived.Test.YtdoefndppoglfaaHI
import Derived.BigQuiet
import Derived.ProofKit
import Derived.OpenShut
import Derived.Carry
import Derived.ChangeSlices
import Derived.Lib.SmallJoins
import Derived.Laws.Cover2
import Derived.Deep.Slices
import Derived.WalkLawsBesides
namespace Go.Proofs.Ytdoefndppoglfaa
open Go Go.ChangeShapes Go.WideShapes Go.ChangeAt Go.RowKit
open Go.Joins
set_option linter.unusedVariables false
/-- each slot holds its value -/
def VQ (l : List Value) (j : Nat) (v : Value) (_ : World) : Prop := v = l.getD j undef
theorem sames_refl (l : List ByteArray) (v u : Value) (w : World) (h : RwS w v l) (h' : RwS w u l) :
    Calls Try.prog 23 #[v, u] w fun e w' => e = .returned (.bool true) ∧ Below w.heap.size w w' :=
  (same6_any l l v u w h h').mono fun e w' hh => ret_bool' ((sameB_iff l l).2 rfl) hh
/-- Same of graphs that are the same: the nodes' round -/
theorem nodes_two {w : World} {l : List Nd} {xs ys : List Nx} {a b : Sl} (h : RwN w a.v xs) (h' : RwN w b.v ys) (k : Ns w l xs) (k' : Ns w l ys) (i : Nat) (hi : i < l.length) :
    ∃ (p q : Nat) (o u : Nat) (nm : ByteArray) (s1 s2 r1 r2 : Sl), a.a = some ⟨p, o, none⟩ ∧ b.a = some ⟨q, u, none⟩ ∧
      w.cell? ⟨p, o + i * 3, none⟩ = some (.string nm) ∧ w.cell? ⟨p, o + i * 3 + 1, none⟩ = some s1.v ∧ w.cell? ⟨p, o + i * 3 + 2, none⟩ = some r1.v ∧
      w.cell? ⟨q, u + i * 3, none⟩ = some (.string nm) ∧ w.cell? ⟨q, u + i * 3 + 1, none⟩ = some s2.v ∧ w.cell? ⟨q, u + i * 3 + 2, none⟩ = some r2.v ∧
      RwS w s1.v l[i].labels ∧ RwS w s2.v l[i].labels ∧ RwP w r1.v l[i].props ∧ RwP w r2.v l[i].props ∧ ∀ z ∈ l[i].props, z.2.Ok := by
  have hx : i < xs.length := by rw [← k.1]; exact hi
  have hy : i < ys.length := by rw [← k'.1]; exact hi
  obtain ⟨p, o, ha, hc⟩ := RwN.at h i hx
  obtain ⟨q, u, hb, hd⟩ := RwN.at h' i hy
  obtain ⟨c0, c1, c2⟩ := hc i hx
  obtain ⟨d0, d1, d2⟩ := hd i hy
  obtain ⟨z0, z1, z2, z3, -⟩ := k.2 i hi hx
  obtain ⟨y0, y1, y2, -⟩ := k'.2 i hi hy
  exact ⟨p, q, o, u, l[i].name, _, _, _, _, ha, hb, by rw [← z0]; exact c0, c1, c2, by rw [← y0]; exact d0, d1, d2, z1, y1, z2, y2, z3⟩
set_option maxRecDepth 100000 in
set_option maxHeartbeats 4000000 in
theorem rsameg_core (g : Gd) (xs xs' : List Nx) (ys ys' : List Dx) (ns es ns' es' : Sl) (w : World) (h : RwN w ns.v xs) (h' : RwN w ns'.v xs') (k : Ns w g.nodes xs) (k' : Ns w g.nodes xs')
    (e : RwD w es.v ys) (e' : RwD w es'.v ys') (f : Ds w g.edges ys) (f' : Ds w g.edges ys') :
    Calls Try.prog 26 #[.agg #[ns.v, es.v], .agg #[ns'.v, es'.v]] w fun e w' => e = .returned (.bool true) ∧ Below w.heap.size w w' := by
  have l1 := h.hd
  have l2 := h'.hd
  have m1 := e.hd
  have m2 := e'.hd
  have n1 := k.1
  have n2 := k'.1
  have p1 := f.1
  have p2 := f'.1
  obtain ⟨ao, L, cap⟩ := ns
  obtain ⟨ao', L', cap'⟩ := ns'
  obtain ⟨bo, M, cbp⟩ := es
  obtain ⟨bo', M', cbp'⟩ := es'
  dsimp only at l1 l2 m1 m2
  obtain rfl : L' = L := by omega
  obtain rfl : M' = M := by omega
  have B0 := (below_a1 w (.cells #[(Sl.v ⟨ao, L', cap⟩), (Sl.v ⟨bo, M', cbp⟩)] 25))
  have B1 := Lib.hid (Below.chain B0 (below_a1 _ (.cells #[(Sl.v ⟨ao', L', cap'⟩), (Sl.v ⟨bo', M', cbp'⟩)] 25)))
  have HR := Lib.hid (h.keep B1.out)
  have HR' := Lib.hid (h'.keep B1.out)
  have HK := Lib.hid (k.keep B1.out)
  have HK' := Lib.hid (k'.keep B1.out)
  have HE := Lib.hid (e.keep B1.out)
  have HE' := Lib.hid (e'.keep B1.out)
  have HD := Lib.hid (f.keep B1.out)
  have HD' := Lib.hid (f'.keep B1.out)
  have V1 := Lib.hid ((Vr.new w 25 #[(Sl.v ⟨ao, L', cap⟩), (Sl.v ⟨bo, M', cbp⟩)]).al (o := .cells #[(Sl.v ⟨ao', L', cap'⟩), (Sl.v ⟨bo', M', cbp'⟩)] 25))
  have V2 := Lib.hid (Vr.new (w.alloc (.cells #[(Sl.v ⟨ao, L', cap⟩), (Sl.v ⟨bo, M', cbp⟩)] 25)) 25 #[(Sl.v ⟨ao', L', cap'⟩), (Sl.v ⟨bo', M', cbp'⟩)])
  have HN := Lib.hid (show g.nodes.length = L' by omega)
  have HM := Lib.hid (show g.edges.length = M' by omega)
  have l3 := l1.2
  have m3 := m1.2
  have en : ((L' : Int) != (L' : Int)) = false := by simp
  have em : ((M' : Int) != (M' : Int)) = false := by simp
  clear h h' k k' e e' f f' l1 l2 m1 m2 n1 n2 p1 p2 B0
  dsimp only [Sl.v] at B1 HR HR' HK HK' HE HE' HD HD' V1 V2 ⊢
  generalize hW : (w.alloc (.cells #[(.slice ao L' cap), (.slice bo M' cbp)] 25)).alloc (.cells #[(.slice ao' L' cap'), (.slice bo' M' cbp')] 25) = W at *
  simp only [World.size_alloc] at V2
  have u0 := V1.out.cell 0
  have u1 := V1.out.cell 1
  have u2 := V2.out.cell 0
  have u3 := V2.out.cell 1
  simp only [List.getElem?_toArray, List.getElem?_cons_zero, List.getElem?_cons_succ] at u0 u1 u2 u3
  go_enter Try.func26, Try.ntmps26
  go_wp2_with fail
  go_loopg [5, 6, 7] L' (fun gg s5 s6 s7 wr => ∃ i : Nat, gg + i = L' ∧ s5 = .int .i64 i ∧ Below W.heap.size W wr)
  case atStart => exact ⟨0, rfl, rfl, Below.refl _ _⟩
  case round =>
    clear hW u0 u1 u2 u3
    obtain ⟨i, hg, rfl, hb⟩ := hrel
    have a0 := (V1.out.keep hb).cell 0
    have a1 := (V2.out.keep hb).cell 0
    simp only [List.getElem?_toArray, List.getElem?_cons_zero] at a0 a1
    by_cases hlt : i < L'
    · have ii : (i : Int) < (L' : Int) := by omega
      have hi : i < g.nodes.length := by rw [HN.out]; exact hlt
      obtain ⟨p, q, o, o2, nm, ⟨s1a, s1n, s1c⟩, ⟨s2a, s2n, s2c⟩, ⟨r1a, r1n, r1c⟩, ⟨r2a, r2n, r2c⟩, ea, eb, c0, c1, c2, d0, d1, d2, z1, z2, z3, z4, z5⟩ := nodes_two (a := ⟨ao, L', cap⟩) (b := ⟨ao', L', cap'⟩) (HR.out.keep hb) (HR'.out.keep hb) (HK.out.keep hb) (HK'.out.keep hb) i hi
      dsimp only at ea eb
      subst ea eb
      dsimp only [Sl.v] at c1 c2 d1 d2 z1 z2 z3 z4
      have C1 := Lib.hid (fun u (hb' : Below wr.heap.size wr u) => sames_refl _ _ _ u (z1.keep hb') (z2.keep hb'))
      have C3 := Lib.hid (fun u (hb' : Below wr.heap.size wr u) => samep_any _ _ _ u (z3.keep hb') (z4.keep hb') z5)
      have nn : (nm.toList != nm.toList) = false := by simp
      have HB := Lib.hid hb
      clear z1 z2 z3 z4 z5 hb
      go_wp2_with fail
      refine wp_region_facts 13 (VQ [.pointer (some ⟨w.heap.size, 0, none⟩), .slice (some ⟨p, o, none⟩) L' cap, .int .i64 (i : Int), .pointer (some ⟨p, o + i * 3, none⟩), .pointer (some ⟨p, o + i * 3 + 1, none⟩), .slice s1a s1n s1c, .pointer (some ⟨w.heap.size + 1, 0, none⟩), .slice (some ⟨q, o2, none⟩) L' cap', .int .i64 (i : Int), .pointer (some ⟨q, o2 + i * 3, none⟩), .pointer (some ⟨q, o2 + i * 3 + 1, none⟩), .slice s2a s2n s2c, .bool true]) (fun a b => Below a.heap.size a b) (by kernel_rfl) (by decide) (by kernel_rfl) (by kernel_rfl) (fun a => Below.refl _ _) (fun a b c => Below.chain) (fun i v _ _ h _ => h) ?_ ?_
      · refine ⟨?_, ?_, ?_, ?_, ?_, ?_, ?_, ?_, ?_, ?_, ?_, ?_, ?_, trivial⟩
        · intro a u hR hF hD
          have hR1 := below_undrew hR
          have f2 : a.eval (.tmp 2) = .pointer (some ⟨w.heap.size, 0, none⟩) := hF 2 (by kernel_rfl)
          simp only [Act.eval, Array.getD_eq_getD_getElem?] at f2
          show Oper.wp _ _ _ _ _ _
          unfold Oper.wp
          simp only [execOp]
          go_simp
          exact ⟨_, rfl, rfl, Below.refl _ _⟩
        · intro a u hR hF hD
          have hR1 := below_undrew hR
          have d36 : a.eval (.tmp 36) = .pointer (some ⟨w.heap.size, 0, none⟩) := hD 0 (by kernel_rfl)
          simp only [Act.eval, Array.getD_eq_getD_getElem?] at d36
          have y0 := (hR1.cell (block_lt_of_cell a0)).trans a0
          show Oper.wp _ _ _ _ _ _
          unfold Oper.wp
          simp only [execOp]
          go_simp
          exact ⟨_, rfl, rfl, Below.refl _ _⟩
        · intro a u hR hF hD
          have hR1 := below_undrew hR
          have f5 : a.eval (.tmp 5) = .int .i64 (i : Int) := hF 5 (by kernel_rfl)
          simp only [Act.eval, Array.getD_eq_getD_getElem?] at f5
          show Oper.wp _ _ _ _ _ _
          unfold Oper.wp
          simp only [execOp]
          go_simp
          exact ⟨_, rfl, rfl, Below.refl _ _⟩
        · intro a u hR hF hD
          have hR1 := below_undrew hR
          have d37 : a.eval (.tmp 37) = .slice (some ⟨p, o, none⟩) L' cap := hD 1 (by kernel_rfl)
          have d38 : a.eval (.tmp 38) = .int .i64 (i : Int) := hD 2 (by kernel_rfl)
          simp only [Act.eval, Array.getD_eq_getD_getElem?] at d37 d38
          show Oper.wp _ _ _ _ _ _
          unfold Oper.wp
          simp only [execOp]
          go_simp
          exact ⟨_, rfl, rfl, Below.refl _ _⟩
        · intro a u hR hF hD
          have hR1 := below_undrew hR
          have d39 : a.eval (.tmp 39) = .pointer (some ⟨p, o + i * 3, none⟩) := hD 3 (by kernel_rfl)
          simp only [Act.eval, Array.getD_eq_getD_getElem?] at d39
          show Oper.wp _ _ _ _ _ _
          unfold Oper.wp
          simp only [execOp]
          go_simp
          exact ⟨_, rfl, rfl, Below.refl _ _⟩
        · intro a u hR hF hD
          have hR1 := below_undrew hR
          have d40 : a.eval (.tmp 40) = .pointer (some ⟨p, o + i * 3 + 1, none⟩) := hD 4 (by kernel_rfl)
          simp only [Act.eval, Array.getD_eq_getD_getElem?] at d40
          have kc1 := (hR1.cell (block_lt_of_cell c1)).trans c1
          show Oper.wp _ _ _ _ _ _
          unfold Oper.wp
          simp only [execOp]
          go_simp
          exact ⟨_, rfl, rfl, Below.refl _ _⟩
        · intro a u hR hF hD
          have hR1 := below_undrew hR
          have f3 : a.eval (.tmp 3) = .pointer (some ⟨w.heap.size + 1, 0, none⟩) := hF 3 (by kernel_rfl)
          simp only [Act.eval, Array.getD_eq_getD_getElem?] at f3
          show Oper.wp _ _ _ _ _ _
          unfold Oper.wp
          simp only [execOp]
          go_simp
          exact ⟨_, rfl, rfl, Below.refl _ _⟩
        · intro a u hR hF hD
          have hR1 := below_undrew hR
          have d42 : a.eval (.tmp 42) = .pointer (some ⟨w.heap.size + 1, 0, none⟩) := hD 6 (by kernel_rfl)
          simp only [Act.eval, Array.getD_eq_getD_getElem?] at d42
          have y0 := (hR1.cell (block_lt_of_cell a1)).trans a1
          show Oper.wp _ _ _ _ _ _
          unfold Oper.wp
          simp only [execOp]
          go_simp
          exact ⟨_, rfl, rfl, Below.refl _ _⟩
        · intro a u hR hF hD
          have hR1 := below_undrew hR
          have f5 : a.eval (.tmp 5) = .int .i64 (i : Int) := hF 5 (by kernel_rfl)
          simp only [Act.eval, Array.getD_eq_getD_getElem?] at f5
          show Oper.wp _ _ _ _ _ _
          unfold Oper.wp
          simp only [execOp]
          go_simp
          exact ⟨_, rfl, rfl, Below.refl _ _⟩
        · intro a u hR hF hD
          have hR1 := below_undrew hR
          have d43 : a.eval (.tmp 43) = .slice (some ⟨q, o2, none⟩) L' cap' := hD 7 (by kernel_rfl)
          have d44 : a.eval (.tmp 44) = .int .i64 (i : Int) := hD 8 (by kernel_rfl)
          simp only [Act.eval, Array.getD_eq_getD_getElem?] at d43 d44
          show Oper.wp _ _ _ _ _ _
          unfold Oper.wp
          simp only [execOp]
          go_simp
          exact ⟨_, rfl, rfl, Below.refl _ _⟩
        · intro a u hR hF hD
          have hR1 := below_undrew hR
          have d45 : a.eval (.tmp 45) = .pointer (some ⟨q, o2 + i * 3, none⟩) := hD 9 (by kernel_rfl)
          simp only [Act.eval, Array.getD_eq_getD_getElem?] at d45
          show Oper.wp _ _ _ _ _ _
          unfold Oper.wp
          simp only [execOp]
          go_simp
          exact ⟨_, rfl, rfl, Below.refl _ _⟩
        · intro a u hR hF hD
          have hR1 := below_undrew hR
          have d46 : a.eval (.tmp 46) = .pointer (some ⟨q, o2 + i * 3 + 1, none⟩) := hD 10 (by kernel_rfl)
          simp only [Act.eval, Array.getD_eq_getD_getElem?] at d46
          have kd1 := (hR1.cell (block_lt_of_cell d1)).trans d1
          show Oper.wp _ _ _ _ _ _
          unfold Oper.wp
          simp only [execOp]
          go_simp
          exact ⟨_, rfl, rfl, Below.refl _ _⟩
        · intro a u hR hF hD
          have hR1 := below_undrew hR
          have d41 : a.eval (.tmp 41) = .slice s1a s1n s1c := hD 5 (by kernel_rfl)
          have d47 : a.eval (.tmp 47) = .slice s2a s2n s2c := hD 11 (by kernel_rfl)
          simp only [Act.eval, Array.getD_eq_getD_getElem?] at d41 d47
          show Oper.wp _ _ _ _ _ _
          unfold Oper.wp
          simp only [execOp]
          go_simp
          (with_reducible refine (C1.out u hR1).mono ?_); rintro e u2 ⟨rfl, hb2⟩
          exact ⟨_, rfl, rfl, hb2⟩
      · intro vs u hv hR
        have hR6 := below_undrew hR
        have e12 : vs 12 = .bool true := hv 12 (by decide)
        simp only [putAll, List.take, List.drop, Act.put, List.setIfInBounds_toArray, List.set_cons_succ, List.set_cons_zero, Nat.zero_add, Nat.reduceAdd]
        rw [e12]
        generalize vs 0 = t0
        generalize vs 1 = t1
        generalize vs 2 = t2
        generalize vs 3 = t3
        generalize vs 4 = t4
        generalize vs 5 = t5
        generalize vs 6 = t6
        generalize vs 7 = t7
        generalize vs 8 = t8
        generalize vs 9 = t9
        generalize vs 10 = t10
        generalize vs 11 = t11
        clear hv e12 hR
        have HB6 := Lib.hid (HB.out.trans (hR6.mono HB.out.size))
        have C2 := Lib.hid (fun w' (hb' : Below u.heap.size u w') => C3.out w' (Below.chain hR6 hb'))
        have a0' := (hR6.cell (block_lt_of_cell a0)).trans a0
        have a1' := (hR6.cell (block_lt_of_cell a1)).trans a1
        have c0' := (hR6.cell (block_lt_of_cell c0)).trans c0
        have d0' := (hR6.cell (block_lt_of_cell d0)).trans d0
        have c2' := (hR6.cell (block_lt_of_cell c2)).trans c2
        have d2' := (hR6.cell (block_lt_of_cell d2)).trans d2
        clear a0 a1 c0 c1 c2 d0 d1 d2 C1 C3 hR6
        have a0 := a0'
        have a1 := a1'
        have c0 := c0'
        have d0 := d0'
        have c2 := c2'
        have d2 := d2'
        clear a0' a1' c0' d0' c2' d2'
        go_wp2_with fail
        generalize u = uA at *
        refine wp_region_facts 13 (VQ [.pointer (some ⟨w.heap.size, 0, none⟩), .slice (some ⟨p, o, none⟩) L' cap, .int .i64 (i : Int), .pointer (some ⟨p, o + i * 3, none⟩), .pointer (some ⟨p, o + i * 3 + 2, none⟩), .slice r1a r1n r1c, .pointer (some ⟨w.heap.size + 1, 0, none⟩), .slice (some ⟨q, o2, none⟩) L' cap', .int .i64 (i : Int), .pointer (some ⟨q, o2 + i * 3, none⟩), .pointer (some ⟨q, o2 + i * 3 + 2, none⟩), .slice r2a r2n r2c, .bool true]) (fun a b => Below a.heap.size a b) (by kernel_rfl) (by decide) (by kernel_rfl) (by kernel_rfl) (fun a => Below.refl _ _) (fun a b c => Below.chain) (fun i v _ _ h _ => h) ?_ ?_
        · refine ⟨?_, ?_, ?_, ?_, ?_, ?_, ?_, ?_, ?_, ?_, ?_, ?_, ?_, trivial⟩
          · intro a u hR hF hD
            have hR1 := below_undrew hR
            have f2 : a.eval (.tmp 2) = .pointer (some ⟨w.heap.size, 0, none⟩) := hF 2 (by kernel_rfl)
            simp only [Act.eval, Array.getD_eq_getD_getElem?] at f2
            show Oper.wp _ _ _ _ _ _
            unfold Oper.wp
            simp only [execOp]
            go_simp
            exact ⟨_, rfl, rfl, Below.refl _ _⟩
          · intro a u hR hF hD
            have hR1 := below_undrew hR
            have d49 : a.eval (.tmp 49) = .pointer (some ⟨w.heap.size, 0, none⟩) := hD 0 (by kernel_rfl)
            simp only [Act.eval, Array.getD_eq_getD_getElem?] at d49
            have y0 := (hR1.cell (block_lt_of_cell a0)).trans a0
            show Oper.wp _ _ _ _ _ _
            unfold Oper.wp
            simp only [execOp]
            go_simp
            exact ⟨_, rfl, rfl, Below.refl _ _⟩
          · intro a u hR hF hD
            have hR1 := below_undrew hR
            have f5 : a.eval (.tmp 5) = .int .i64 (i : Int) := hF 5 (by kernel_rfl)
            simp only [Act.eval, Array.getD_eq_getD_getElem?] at f5
            show Oper.wp _ _ _ _ _ _
            unfold Oper.wp
            simp only [execOp]
            go_simp
            exact ⟨_, rfl, rfl, Below.refl _ _⟩
          · intro a u hR hF hD
            have hR1 := below_undrew hR
            have d50 : a.eval (.tmp 50) = .slice (some ⟨p, o, none⟩) L' cap := hD 1 (by kernel_rfl)
            have d51 : a.eval (.tmp 51) = .int .i64 (i : Int) := hD 2 (by kernel_rfl)
            simp only [Act.eval, Array.getD_eq_getD_getElem?] at d50 d51
            show Oper.wp _ _ _ _ _ _
            unfold Oper.wp
            simp only [execOp]
            go_simp
            exact ⟨_, rfl, rfl, Below.refl _ _⟩
          · intro a u hR hF hD
            have hR1 := below_undrew hR
            have d52 : a.eval (.tmp 52) = .pointer (some ⟨p, o + i * 3, none⟩) := hD 3 (by kernel_rfl)
            simp only [Act.eval, Array.getD_eq_getD_getElem?] at d52
            show Oper.wp _ _ _ _ _ _
            unfold Oper.wp
            simp only [execOp]
            go_simp
            exact ⟨_, rfl, rfl, Below.refl _ _⟩
          · intro a u hR hF hD
            have hR1 := below_undrew hR
            have d53 : a.eval (.tmp 53) = .pointer (some ⟨p, o + i * 3 + 2, none⟩) := hD 4 (by kernel_rfl)
            simp only [Act.eval, Array.getD_eq_getD_getElem?] at d53
            have kc2 := (hR1.cell (block_lt_of_cell c2)).trans c2
            show Oper.wp _ _ _ _ _ _
            unfold Oper.wp
            simp only [execOp]
            go_simp
            exact ⟨_, rfl, rfl, Below.refl _ _⟩
          · intro a u hR hF hD
            have hR1 := below_undrew hR
            have f3 : a.eval (.tmp 3) = .pointer (some ⟨w.heap.size + 1, 0, none⟩) := hF 3 (by kernel_rfl)
            simp only [Act.eval, Array.getD_eq_getD_getElem?] at f3
            show Oper.wp _ _ _ _ _ _
            unfold Oper.wp
            simp only [execOp]
            go_simp
            exact ⟨_, rfl, rfl, Below.refl _ _⟩
          · intro a u hR hF hD
            have hR1 := below_undrew hR
            have d55 : a.eval (.tmp 55) = .pointer (some ⟨w.heap.size + 1, 0, none⟩) := hD 6 (by kernel_rfl)
            simp only [Act.eval, Array.getD_eq_getD_getElem?] at d55
            have y0 := (hR1.cell (block_lt_of_cell a1)).trans a1
            show Oper.wp _ _ _ _ _ _
            unfold Oper.wp
            simp only [execOp]
            go_simp
            exact ⟨_, rfl, rfl, Below.refl _ _⟩
          · intro a u hR hF hD
            have hR1 := below_undrew hR
            have f5 : a.eval (.tmp 5) = .int .i64 (i : Int) := hF 5 (by kernel_rfl)
            simp only [Act.eval, Array.getD_eq_getD_getElem?] at f5
            show Oper.wp _ _ _ _ _ _
            unfold Oper.wp
            simp only [execOp]
            go_simp
            exact ⟨_, rfl, rfl, Below.refl _ _⟩
          · intro a u hR hF hD
            have hR1 := below_undrew hR
            have d56 : a.eval (.tmp 56) = .slice (some ⟨q, o2, none⟩) L' cap' := hD 7 (by kernel_rfl)
            have d57 : a.eval (.tmp 57) = .int .i64 (i : Int) := hD 8 (by kernel_rfl)
            simp only [Act.eval, Array.getD_eq_getD_getElem?] at d56 d57
            show Oper.wp _ _ _ _ _ _
            unfold Oper.wp
            simp only [execOp]
            go_simp
            exact ⟨_, rfl, rfl, Below.refl _ _⟩
          · intro a u hR hF hD
            have hR1 := below_undrew hR
            have d58 : a.eval (.tmp 58) = .pointer (some ⟨q, o2 + i * 3, none⟩) := hD 9 (by kernel_rfl)
            simp only [Act.eval, Array.getD_eq_getD_getElem?] at d58
            show Oper.wp _ _ _ _ _ _
            unfold Oper.wp
            simp only [execOp]
            go_simp
            exact ⟨_, rfl, rfl, Below.refl _ _⟩
          · intro a u hR hF hD
            have hR1 := below_undrew hR
            have d59 : a.eval (.tmp 59) = .pointer (some ⟨q, o2 + i * 3 + 2, none⟩) := hD 10 (by kernel_rfl)
            simp only [Act.eval, Array.getD_eq_getD_getElem?] at d59
            have kd2 := (hR1.cell (block_lt_of_cell d2)).trans d2
            show Oper.wp _ _ _ _ _ _
            unfold Oper.wp
            simp only [execOp]
            go_simp
            exact ⟨_, rfl, rfl, Below.refl _ _⟩
          · intro a u hR hF hD
            have hR1 := below_undrew hR
            have d54 : a.eval (.tmp 54) = .slice r1a r1n r1c := hD 5 (by kernel_rfl)
            have d60 : a.eval (.tmp 60) = .slice r2a r2n r2c := hD 11 (by kernel_rfl)
            simp only [Act.eval, Array.getD_eq_getD_getElem?] at d54 d60
            show Oper.wp _ _ _ _ _ _
            unfold Oper.wp
            simp only [execOp]
            go_simp
            (with_reducible refine (C2.out u hR1).mono ?_); rintro e u2 ⟨rfl, hb2⟩
            exact ⟨_, rfl, rfl, hb2⟩
        · intro vs u hv hR
          have hR7 := below_undrew hR
          have e12 : vs 12 = .bool true := hv 12 (by decide)
          simp only [putAll, List.take, List.drop, Act.put, List.setIfInBounds_toArray, List.set_cons_succ, List.set_cons_zero, Nat.zero_add, Nat.reduceAdd]
          rw [e12]
          generalize vs 0 = t0
          generalize vs 1 = t1
          generalize vs 2 = t2
          generalize vs 3 = t3
          generalize vs 4 = t4
          generalize vs 5 = t5
          generalize vs 6 = t6
          generalize vs 7 = t7
          generalize vs 8 = t8
          generalize vs 9 = t9
          generalize vs 10 = t10
          generalize vs 11 = t11
          clear hv e12 hR
          have HB7 := Lib.hid (HB6.out.trans (hR7.mono HB6.out.size))
          have a0' := (hR7.cell (block_lt_of_cell a0)).trans a0
          have a1' := (hR7.cell (block_lt_of_cell a1)).trans a1
          have c0' := (hR7.cell (block_lt_of_cell c0)).trans c0
          have d0' := (hR7.cell (block_lt_of_cell d0)).trans d0
          clear a0 a1 c0 c2 d0 d2 C2 hR7
          go_wp2_with fail
          go_quiet (fail)
          all_goals
            go_wp2_with fail
            go_roundg (L' - (i + 1))
            case rel => exact ⟨i + 1, by omega, by go_num, by first | exact HB7.out | exact below_drewN HB7.out _⟩
            case measure => omega
    · obtain rfl : L' = i := by omega
      have ii : ¬ ((L' : Int) < (L' : Int)) := by omega
      have HB := Lib.hid hb
      have b0 := (V1.out.keep hb).cell 1
      have b1 := (V2.out.keep hb).cell 1
      simp only [List.getElem?_toArray, List.getElem?_cons_zero, List.getElem?_cons_succ] at b0 b1
      clear hb
      go_wp2_with fail
      generalize wr = wX at *
      go_loopg [8] M' (fun gg s8 wr => ∃ i : Nat, gg + i = M' ∧ s8 = .int .i64 i ∧ Below W.heap.size W wr)
      case atStart => exact ⟨0, rfl, rfl, HB.out⟩
      case round =>
        obtain ⟨i, hgi, rfl, hb⟩ := hrel
        clear a0 a1 b0 b1
        have b0 := (V1.out.keep hb).cell 1
        have b1 := (V2.out.keep hb).cell 1
        simp only [List.getElem?_toArray, List.getElem?_cons_zero, List.getElem?_cons_succ] at b0 b1
        have hs0 : w.heap.size < wr.heap.size := (V1.out.keep hb).lt
        have hs1 : w.heap.size + 1 < wr.heap.size := (V2.out.keep hb).lt
        by_cases hlt : i < M'
        · have ii : (i : Int) < (M' : Int) := by omega
          have hi : i < g.edges.length := by rw [HM.out]; exact hlt
          have hi1 : i < ys.length := by rw [← HD.out.1]; exact hi
          have hi2 : i < ys'.length := by rw [← HD'.out.1]; exact hi
          obtain ⟨p, o, rfl, hc⟩ := RwD.at (HE.out.keep hb) i hi1
          obtain ⟨q, o2, rfl, hd⟩ := RwD.at (HE'.out.keep hb) i hi2
          obtain ⟨c0, c1, c2, c3, c4, c5⟩ := hc i hi1
          obtain ⟨d0, d1, d2, d3, d4, d5⟩ := hd i hi2
          obtain ⟨x0, x1, x2, x3, -, -, x4, x5, x6, -⟩ := (HD.out.keep hb).2 i hi hi1
          obtain ⟨y0, y1, y2, y3, -, -, y4, y5, -⟩ := (HD'.out.keep hb).2 i hi hi2
          rw [x0] at c0
          rw [x1] at c1
          rw [x2] at c2
          rw [x3] at c3
          rw [y0] at d0
          rw [y1] at d1
          rw [y2] at d2
          rw [y3] at d3
          generalize g.edges[i] = ed at *
          obtain ⟨nm, f, t, dd, ls, ps⟩ := ed
          generalize ys[i].l = s1 at *
          generalize ys'[i].l = s2 at *
          generalize ys[i].p = r1 at *
          generalize ys'[i].p = r2 at *
          obtain ⟨s1a, s1n, s1c⟩ := s1
          obtain ⟨s2a, s2n, s2c⟩ := s2
          obtain ⟨r1a, r1n, r1c⟩ := r1
          obtain ⟨r2a, r2n, r2c⟩ := r2
          dsimp only [Sl.v] at c0 c1 c2 c3 c4 c5 d0 d1 d2 d3 d4 d5 x4 x5 x6 y4 y5
          have lc := block_lt_of_cell c0
          have ld := block_lt_of_cell d0
          have n0 : (nm.toList != nm.toList) = false := by simp
          have n1 : (f != f) = false := by simp
          have n2 : (t != t) = false := by simp
          have n3 : (dd != dd) = false := by simp
          have ww := below_a2 wr (.cells #[.string nm, .int .i64 f, .int .i64 t, .bool dd, .slice s1a s1n s1c, .slice r1a r1n r1c] 45) (.cells #[.string nm, .int .i64 f, .int .i64 t, .bool dd, .slice s2a s2n s2c, .slice r2a r2n r2c] 45)
          have E1 := Lib.hid ((Vr.new wr 45 #[.string nm, .int .i64 f, .int .i64 t, .bool dd, .slice s1a s1n s1c, .slice r1a r1n r1c]).al (o := .cells #[.string nm, .int .i64 f, .int .i64 t, .bool dd, .slice s2a s2n s2c, .slice r2a r2n r2c] 45))
          have E2 := Lib.hid (Vr.at' (wr.alloc (.cells #[.string nm, .int .i64 f, .int .i64 t, .bool dd, .slice s1a s1n s1c, .slice r1a r1n r1c] 45)) 45 #[.string nm, .int .i64 f, .int .i64 t, .bool dd, .slice s2a s2n s2c, .slice r2a r2n r2c] (wr.heap.size + 1) (by simp))
          have S1 := Lib.hid (x4.keep ww)
          have S2 := Lib.hid (y4.keep ww)
          have T1 := Lib.hid (x5.keep ww)
          have T2 := Lib.hid (y5.keep ww)
          have OK := Lib.hid x6
          have HBw := Lib.hid (hb.trans (ww.mono hb.size))
          clear hc hd x0 x1 x2 x3 x4 x5 x6 y0 y1 y2 y3 y4 y5 hi ww hb
          go_wp2_with fail
          (with_reducible refine (sames_refl _ _ _ _ S1.out S2.out).mono ?_); rintro e wF ⟨rfl, hbF⟩
          have F1 := E1.out.keep hbF
          have F2 := E2.out.keep hbF
          have f5 := F1.cell 5
          have g5 := F2.cell 5
          simp only [List.getElem?_toArray, List.getElem?_cons_zero, List.getElem?_cons_succ] at f5 g5
          have HF1 := Lib.hid F1
          have HF2 := Lib.hid F2
          have T3 := Lib.hid (T1.out.keep hbF)
          have T4 := Lib.hid (T2.out.keep hbF)
          have HBF := Lib.hid (HBw.out.trans (hbF.mono HBw.out.size))
          clear hbF F1 F2 c0 c1 c2 c3 c4 c5 d0 d1 d2 d3 d4 d5
          go_wp2_with fail
          (with_reducible refine (samep_any _ _ _ _ T3.out T4.out OK.out).mono ?_); rintro e wG ⟨rfl, hbG⟩
          have F1 := HF1.out.keep hbG
          have F2 := HF2.out.keep hbG
          have f0 := F1.cell 0
          have f1 := F1.cell 1
          have f2 := F1.cell 2
          have f3 := F1.cell 3
          have g0 := F2.cell 0
          have g1 := F2.cell 1
          have g2 := F2.cell 2
          have g3 := F2.cell 3
          simp only [List.getElem?_toArray, List.getElem?_cons_zero, List.getElem?_cons_succ] at f0 f1 f2 f3 g0 g1 g2 g3
          have HBG := Lib.hid (HBF.out.trans (hbG.mono HBF.out.size))
          clear hbG F1 F2 f5 g5
          go_wp2_with fail
          go_roundg (M' - (i + 1))
          case rel => exact ⟨i + 1, by omega, by go_num, HBG.out⟩
          case measure => omega
        · obtain rfl : M' = i := by omega
          have ii : ¬ ((M' : Int) < (M' : Int)) := by omega
          go_wp2_with fail
          go_ret
          exact ⟨rfl, B1.out.trans (hb.mono B1.out.size)⟩
theorem rsameg_any {g : Gd} {x y : Gx} {w : World} (h : Gz w g x) (h' : Gz w g y) :
    Calls Try.prog 26 #[gv x, gv y] w fun e w' => e = .returned (.bool true) ∧ Below w.heap.size w w' := by
  obtain ⟨⟨xs, a1, a2⟩, ⟨ys, a3, a4⟩, -⟩ := h
  obtain ⟨⟨xs', b1, b2⟩, ⟨ys', b3, b4⟩, -⟩ := h'
  exact rsameg_core g xs xs' ys ys' x.ns x.es y.ns y.es w a1 b1 a2 b2 a3 b3 a4 b4
end Go.Proofs.Ytdoefndppoglfaa
