import Derived.Test.YtdoefndppoglfaaG5
import Derived.ProofKit
import Derived.OpenShut
import Derived.Carry
import Derived.ChangeSlices
import Derived.Lib.SmallJoins
import Derived.Laws.Cover2
import Derived.Deep.Slices
import Derived.WalkLawsBesides
namespace Go.Proofs.Ytdoefndppoglfaa
open Go Go.ChangeShapes Go.WideShapes Go.ChangeAt Go.RowKit
open Go.Joins
set_option linter.unusedVariables false
/-- may a node be, at its place? -/
def nodeB (ns : List ByteArray) (i : Nat) (d : Nd) : Bool := wordB d.name && (risingB d.labels && (propsB d.props && decide (findB ns d.name = i)))
def nodesB (g : Gd) (n : Nat) : Bool := (List.range n).all fun i => nodeB (namesN g) i g.nodes[i]!
/-- may an edge be, at its place? -/
def endsB (n : Nat) (d : Ed) : Bool := decide (0 ≤ min d.fro d.to) && decide (max d.fro d.to < n)
def edgeB (ns : List ByteArray) (n : Nat) (i : Nat) (d : Ed) : Bool := wordB d.name && (risingB d.labels && (propsB d.props && (endsB n d && decide (findB ns d.name = i))))
def edgesB (g : Gd) (n : Nat) : Bool := (List.range n).all fun i => edgeB (namesD g) g.nodes.length i g.edges[i]!
/-- which error a graph tells -/
def rightG (g : Gd) : Int := if 1000 < g.nodes.length ∨ 1000 < g.edges.length then 6 else if nodesB g g.nodes.length && edgesB g g.edges.length then 0 else 1
theorem nodesB_succ (g : Gd) (n : Nat) (h : n < g.nodes.length) : nodesB g (n + 1) = (nodesB g n && nodeB (namesN g) n g.nodes[n]) := by
  unfold nodesB
  rw [List.range_succ, List.all_append]
  simp [h]
theorem edgesB_succ (g : Gd) (n : Nat) (h : n < g.edges.length) : edgesB g (n + 1) = (edgesB g n && edgeB (namesD g) g.nodes.length n g.edges[n]) := by
  unfold edgesB
  rw [List.range_succ, List.all_append]
  simp [h]
theorem nodesB_no {g : Gd} {n : Nat} (h : n < g.nodes.length) (hf : nodeB (namesN g) n g.nodes[n] = false) : nodesB g g.nodes.length = false := by
  unfold nodesB
  rw [Bool.eq_false_iff]
  intro ha
  have := List.all_eq_true.1 ha n (List.mem_range.2 h)
  rw [getElem!_pos g.nodes n h, hf] at this
  cases this
theorem edgesB_no {g : Gd} {n : Nat} (h : n < g.edges.length) (hf : edgeB (namesD g) g.nodes.length n g.edges[n] = false) : edgesB g g.edges.length = false := by
  unfold edgesB
  rw [Bool.eq_false_iff]
  intro ha
  have := List.all_eq_true.1 ha n (List.mem_range.2 h)
  rw [getElem!_pos g.edges n h, hf] at this
  cases this
set_option maxRecDepth 100000 in
set_option maxHeartbeats 4000000 in
theorem rrightg_core (g : Gd) (xs : List Nx) (ys : List Dx) (ns es : Sl) (w : World) (h : RwN w ns.v xs) (h' : RwD w es.v ys) (k : Ns w g.nodes xs) (k' : Ds w g.edges ys) :
    Calls Try.prog 10 #[.agg #[ns.v, es.v]] w fun e w' => e = .returned (.int .i64 (rightG g)) ∧ Below w.heap.size w w' := by
  have l1 := h.hd
  have l2 := h'.hd
  have n1 := k.1
  have n2 := k'.1
  obtain ⟨ao, L, cap⟩ := ns
  obtain ⟨bo, M, cbp⟩ := es
  dsimp only at l1 l2
  have B0 := below_a1 w (.cells #[(Sl.v ⟨ao, L, cap⟩), (Sl.v ⟨bo, M, cbp⟩)] 25)
  have HV := Lib.hid (Vr.new w 25 #[(Sl.v ⟨ao, L, cap⟩), (Sl.v ⟨bo, M, cbp⟩)])
  by_cases hl : L ≤ 1000
  · by_cases hm : M ≤ 1000
    · have i1 : ¬ ((L : Int) > 1000) := by omega
      have i2 : ¬ ((M : Int) > 1000) := by omega
      have HR := Lib.hid (h.keep B0)
      have HK := Lib.hid (k.keep B0)
      have HR2 := Lib.hid (h'.keep B0)
      have HK2 := Lib.hid (k'.keep B0)
      have HL := Lib.hid l1.1
      have HM := Lib.hid l2.1
      have HN := Lib.hid n1
      have HN2 := Lib.hid n2
      clear h k h' k' l1 l2 n1 n2
      dsimp only [Sl.v] at HR HR2 HV B0
      go_enter Try.func10, Try.ntmps10
      go_wp2_with fail
      go_loopg [3, 4, 5, 6, 7] L (fun gg s3 s4 s5 s6 s7 wr => ∃ i : Nat, gg + i = L ∧ s3 = .int .i64 i ∧ nodesB g i = true ∧ Below (w.alloc (.cells #[(.slice ao L cap), (.slice bo M cbp)] 25)).heap.size (w.alloc (.cells #[(.slice ao L cap), (.slice bo M cbp)] 25)) wr)
      case atStart => exact ⟨0, rfl, rfl, rfl, Below.refl _ _⟩
      case round =>
        obtain ⟨i, hg, rfl, hy, hb⟩ := hrel
        have qv := (HV.out.keep hb).cell 0
        simp only [List.getElem?_toArray, List.getElem?_cons_zero] at qv
        by_cases hlt : i < L
        · have ii : (i : Int) < (L : Int) := by omega
          have hi : i < xs.length := by rw [HL.out]; exact hlt
          have hi' : i < g.nodes.length := by rw [HN.out]; exact hi
          obtain ⟨b, o, rfl, hc⟩ := RwN.at (HR.out.keep hb) i hi
          obtain ⟨q0, q1, q2⟩ := hc i hi
          obtain ⟨z0, z1, z2, z3, z4, z5⟩ := (HK.out.keep hb).2 i hi' hi
          clear hc
          have HT := Lib.hid (show nodeB (namesN g) i g.nodes[i] = true → nodesB g (i + 1) = true by
            intro e
            rw [nodesB_succ g i hi', hy, e]; rfl)
          have HF := Lib.hid (show nodeB (namesN g) i g.nodes[i] = false → rightG g = 1 by
            intro e
            unfold rightG
            rw [if_neg (by have := HN.out; have := HN2.out; have := HL.out; have := HM.out; omega), nodesB_no hi' e]; rfl)
          have HB := Lib.hid hb
          have DF := Lib.hid (fun (nm : ByteArray) w' (hb' : Below (w.alloc (.cells #[(.slice (some ⟨b, o, none⟩) L cap), (.slice bo M cbp)] 25)).heap.size (w.alloc (.cells #[(.slice (some ⟨b, o, none⟩) L cap), (.slice bo M cbp)] 25)) w') => (rfindNX xs ⟨some ⟨b, o, none⟩, L, cap⟩ ⟨bo, M, cbp⟩ nm w' (HR.out.keep hb')))
          rw [HK.out.names] at DF
          clear hy hb
          unfold nodeB at HT HF
          generalize xs[i] = x at *
          generalize g.nodes[i] = d at *
          obtain ⟨xn, ⟨xla, xln, xlc⟩, ⟨xpa, xpn, xpc⟩⟩ := x
          obtain ⟨dn, dl, dp⟩ := d
          dsimp only at z0 z1 z2 z3 z4 z5 HT HF q0 q1 q2
          subst z0
          have b1 := below_a1 wr (.cells #[.string xn, .slice xla xln xlc, .slice xpa xpn xpc] 43)
          have VX := Lib.hid (Vr.new wr 43 #[.string xn, .slice xla xln xlc, .slice xpa xpn xpc])
          have D := Lib.hid (rword_any xn)
          have C1 := Lib.hid (rising_any dl _ _ (z1.keep b1))
          have C2 := Lib.hid (fun w' hb' => rprops_any dp _ w' ((z2.keep b1).keep (w' := w') hb') z3 z5)
          have HB2 := Lib.hid (Below.chain HB.out b1)
          clear b1 z1 z2 z3 z4 z5
          generalize wordB xn = t1 at *
          generalize risingB dl = t2 at *
          generalize propsB dp = t3 at *
          go_wp2_with fail
          (with_reducible refine (D.out _).mono ?_); rintro e w3 ⟨rfl, rfl⟩
          go_wp2_with fail
          (with_reducible refine C1.out.mono ?_); rintro e w4 ⟨rfl, hb4⟩
          have v0 := (VX.out.keep hb4).cell 2
          simp only [List.getElem?_toArray, List.getElem?_cons_zero, List.getElem?_cons_succ] at v0
          go_wp2_with fail
          (with_reducible refine (C2.out _ hb4).mono ?_); rintro e w5 ⟨rfl, hb5⟩
          have hb45 := Below.chain hb4 hb5
          have v1 := (VX.out.keep hb45).cell 0
          have HB3 := Lib.hid (Below.chain HB2.out hb45)
          have g0 := (HV.out.keep HB3.out).cell 0
          have g1 := (HV.out.keep HB3.out).cell 1
          simp only [List.getElem?_toArray, List.getElem?_cons_zero, List.getElem?_cons_succ] at v1 g0 g1
          clear v0 hb4 hb5 hb45
          cases t1
          · have HF2 := Lib.hid (HF.out rfl)
            go_wp2_with fail
            go_ret
            exact ⟨by rw [HF2.out]; rfl, Below.chain B0 HB3.out⟩
          cases t2
          · have HF2 := Lib.hid (HF.out rfl)
            go_wp2_with fail
            go_ret
            exact ⟨by rw [HF2.out]; rfl, Below.chain B0 HB3.out⟩
          cases t3
          · have HF2 := Lib.hid (HF.out rfl)
            go_wp2_with fail
            go_ret
            exact ⟨by rw [HF2.out]; rfl, Below.chain B0 HB3.out⟩
          have DG := Lib.hid (DF.out xn _ HB3.out)
          have hnn : g.nodes.map Nd.name = namesN g := rfl
          rw [hnn] at DG
          clear hnn
          go_wp2_with fail
          (with_reducible refine DG.out.mono ?_); rintro e w6 ⟨rfl, hb6⟩
          have HB4 := Lib.hid (Below.chain HB3.out hb6)
          generalize findB (namesN g) xn = F at *
          clear D C1 C2 DF DG hb6 g0 g1 v1 q0 q1 q2
          by_cases hF : F = (i : Int)
          · subst hF
            have HT2 := Lib.hid (HT.out (by simp))
            clear HT HF
            go_wp2_with fail
            go_roundg (L - (i + 1))
            case rel => exact ⟨i + 1, by omega, by go_num, HT2.out, HB4.out⟩
            case measure => omega
          · have HF2 := Lib.hid (HF.out (by simp [hF]))
            have hne : (F != (i : Int)) = true := by simp [hF]
            clear HT HF
            go_wp2_with fail
            go_ret
            exact ⟨by rw [HF2.out]; rfl, Below.chain B0 HB4.out⟩
        · obtain rfl : L = i := by omega
          have ii : ¬ ((L : Int) < (L : Int)) := by omega
          have HNB := Lib.hid (show nodesB g g.nodes.length = true by rw [HN.out, HL.out]; exact hy)
          clear hy
          go_wp2_with fail
          go_loopg [8, 9, 10, 11, 12, 13] M (fun gg s8 s9 s10 s11 s12 s13 wr => ∃ i : Nat, gg + i = M ∧ s8 = .int .i64 i ∧ edgesB g i = true ∧ Below (w.alloc (.cells #[(.slice ao L cap), (.slice bo M cbp)] 25)).heap.size (w.alloc (.cells #[(.slice ao L cap), (.slice bo M cbp)] 25)) wr)
          case atStart => exact ⟨0, rfl, rfl, rfl, hb⟩
          case round =>
            clear hb
            obtain ⟨i, hg, rfl, hy, hb⟩ := hrel
            have qv := (HV.out.keep hb).cell 1
            simp only [List.getElem?_toArray, List.getElem?_cons_zero, List.getElem?_cons_succ] at qv
            by_cases hlt : i < M
            · have ii : (i : Int) < (M : Int) := by omega
              have hi : i < ys.length := by rw [HM.out]; exact hlt
              have hi' : i < g.edges.length := by rw [HN2.out]; exact hi
              obtain ⟨b, o, rfl, hc⟩ := RwD.at (HR2.out.keep hb) i hi
              obtain ⟨q0, q1, q2, q3, q4, q5⟩ := hc i hi
              obtain ⟨z0, z1, z2, z3, z4, z5, z6, z7, z8, z9, zA⟩ := (HK2.out.keep hb).2 i hi' hi
              clear hc
              have HT := Lib.hid (show edgeB (namesD g) g.nodes.length i g.edges[i] = true → edgesB g (i + 1) = true by
                intro e
                rw [edgesB_succ g i hi', hy, e]; rfl)
              have HF := Lib.hid (show edgeB (namesD g) g.nodes.length i g.edges[i] = false → rightG g = 1 by
                intro e
                unfold rightG
                rw [if_neg (by have := HN.out; have := HN2.out; have := HL.out; have := HM.out; omega), HNB.out, edgesB_no hi' e]; rfl)
              rw [HN.out, HL.out] at HT HF
              have HB := Lib.hid hb
              have DF := Lib.hid (fun (nm : ByteArray) w' (hb' : Below (w.alloc (.cells #[(.slice ao L cap), (.slice (some ⟨b, o, none⟩) M cbp)] 25)).heap.size (w.alloc (.cells #[(.slice ao L cap), (.slice (some ⟨b, o, none⟩) M cbp)] 25)) w') => (rfindDX ys ⟨ao, L, cap⟩ ⟨some ⟨b, o, none⟩, M, cbp⟩ nm w' (HR2.out.keep hb')))
              rw [HK2.out.names] at DF
              clear hy hb
              unfold edgeB endsB at HT HF
              generalize ys[i] = x at *
              generalize g.edges[i] = d at *
              obtain ⟨xn, xf, xt, xd, ⟨xla, xln, xlc⟩, ⟨xpa, xpn, xpc⟩⟩ := x
              obtain ⟨dn, df, dt, dd, dl, dp⟩ := d
              dsimp only at z0 z1 z2 z3 z4 z5 z6 z7 z8 z9 zA HT HF q0 q1 q2 q3 q4 q5
              subst z0 z1 z2 z3
              have b1 := below_a1 wr (.cells #[.string xn, .int .i64 xf, .int .i64 xt, .bool xd, .slice xla xln xlc, .slice xpa xpn xpc] 45)
              have VX := Lib.hid (Vr.new wr 45 #[.string xn, .int .i64 xf, .int .i64 xt, .bool xd, .slice xla xln xlc, .slice xpa xpn xpc])
              have D := Lib.hid (rword_any xn)
              have C1 := Lib.hid (rising_any dl _ _ (z6.keep b1))
              have C2 := Lib.hid (fun w' hb' => rprops_any dp _ w' ((z7.keep b1).keep (w' := w') hb') z8 zA)
              have HB2 := Lib.hid (Below.chain HB.out b1)
              clear b1 z6 z7 z8 z9 zA
              generalize wordB xn = t1 at *
              generalize risingB dl = t2 at *
              generalize propsB dp = t3 at *
              go_wp2_with fail
              (with_reducible refine (D.out _).mono ?_); rintro e w3 ⟨rfl, rfl⟩
              go_wp2_with fail
              (with_reducible refine C1.out.mono ?_); rintro e w4 ⟨rfl, hb4⟩
              have v0 := (VX.out.keep hb4).cell 5
              simp only [List.getElem?_toArray, List.getElem?_cons_zero, List.getElem?_cons_succ] at v0
              go_wp2_with fail
              (with_reducible refine (C2.out _ hb4).mono ?_); rintro e w5 ⟨rfl, hb5⟩
              have hb45 := Below.chain hb4 hb5
              have v1 := (VX.out.keep hb45).cell 0
              have v2 := (VX.out.keep hb45).cell 1
              have v3 := (VX.out.keep hb45).cell 2
              have HB3 := Lib.hid (Below.chain HB2.out hb45)
              have g0 := (HV.out.keep HB3.out).cell 0
              have g1 := (HV.out.keep HB3.out).cell 1
              simp only [List.getElem?_toArray, List.getElem?_cons_zero, List.getElem?_cons_succ] at v1 v2 v3 g0 g1
              clear v0 hb4 hb5 hb45
              cases t1
              · have HF2 := Lib.hid (HF.out rfl)
                clear HT HF
                go_wp2_with fail
                all_goals
                  go_ret
                  exact ⟨by rw [HF2.out]; rfl, Below.chain B0 HB3.out⟩
              cases t2
              · have HF2 := Lib.hid (HF.out rfl)
                clear HT HF
                go_wp2_with fail
                all_goals
                  go_ret
                  exact ⟨by rw [HF2.out]; rfl, Below.chain B0 HB3.out⟩
              cases t3
              · have HF2 := Lib.hid (HF.out rfl)
                clear HT HF
                go_wp2_with fail
                all_goals
                  go_ret
                  exact ⟨by rw [HF2.out]; rfl, Below.chain B0 HB3.out⟩
              have DG := Lib.hid (DF.out xn _ HB3.out)
              have hnn : g.edges.map Ed.name = namesD g := rfl
              rw [hnn] at DG
              clear hnn D C1 C2 DF q0 q1 q2 q3 q4 q5
              by_cases hA : 0 ≤ min xf xt ∧ max xf xt < (L : Int)
              · have HE : (decide (0 ≤ min xf xt) && decide (max xf xt < (L : Int))) = true := by simp only [hA.1, hA.2]; rfl
                rw [HE] at HT HF
                clear HE
                obtain ⟨hA1, hA2⟩ := hA
                go_wp2_with fail
                all_goals first
                  | (exfalso; omega)
                  | ((with_reducible refine DG.out.mono ?_); rintro e w6 ⟨rfl, hb6⟩
                     have HB4 := Lib.hid (Below.chain HB3.out hb6)
                     generalize findB (namesD g) xn = F at *
                     by_cases hF : F = (i : Int)
                     · subst hF
                       have HT2 := Lib.hid (HT.out (by simp))
                       clear HT HF DG hb6 g0 g1 v1 v2 v3
                       go_wp2_with fail
                       go_roundg (M - (i + 1))
                       case rel => exact ⟨i + 1, by omega, by go_num, HT2.out, HB4.out⟩
                       case measure => omega
                     · have HF2 := Lib.hid (HF.out (by simp [hF]))
                       have hne : (F != (i : Int)) = true := by simp [hF]
                       clear HT HF DG hb6 g0 g1 v1 v2 v3
                       go_wp2_with fail
                       go_ret
                       exact ⟨by rw [HF2.out]; rfl, Below.chain B0 HB4.out⟩)
              · have HE : (decide (0 ≤ min xf xt) && decide (max xf xt < (L : Int))) = false := by
                  rw [Bool.eq_false_iff]
                  intro e
                  rw [Bool.and_eq_true, decide_eq_true_eq, decide_eq_true_eq] at e
                  exact hA e
                rw [HE] at HT HF
                clear HE
                have HF2 := Lib.hid (HF.out rfl)
                clear HT HF
                go_wp2_with fail
                all_goals first
                  | (exfalso; omega)
                  | (go_ret
                     exact ⟨by rw [HF2.out]; rfl, Below.chain B0 HB3.out⟩)
            · obtain rfl : M = i := by omega
              have ii : ¬ ((M : Int) < (M : Int)) := by omega
              have HR0 := Lib.hid (show rightG g = 0 by
                unfold rightG
                rw [if_neg (by have := HN.out; have := HN2.out; have := HL.out; have := HM.out; omega), HNB.out, HN2.out, HM.out, hy]; rfl)
              clear hy
              go_wp2_with fail
              go_ret
              exact ⟨by rw [HR0.out]; rfl, Below.chain B0 hb⟩
    · have i1 : ¬ ((L : Int) > 1000) := by omega
      have i2 : ((M : Int) > 1000) := by omega
      have HR6 := Lib.hid (show rightG g = 6 by
        unfold rightG
        rw [if_pos (by omega)])
      clear h k h' k' l1 l2 n1 n2
      go_enter Try.func10, Try.ntmps10
      go_wp2_with fail
      go_ret
      exact ⟨by rw [HR6.out]; rfl, B0⟩
  · have i1 : ((L : Int) > 1000) := by omega
    have HR6 := Lib.hid (show rightG g = 6 by
      unfold rightG
      rw [if_pos (by omega)])
    clear h k h' k' l1 l2 n1 n2
    go_enter Try.func10, Try.ntmps10
    go_wp2_with fail
    go_ret
    exact ⟨by rw [HR6.out]; rfl, B0⟩
/-- Right of a graph in memory -/
theorem rrightg_any {g : Gd} {x : Gx} {w : World} (h : Gz w g x) :
    Calls Try.prog 10 #[gv x] w fun e w' => e = .returned (.int .i64 (rightG g)) ∧ Below w.heap.size w w' := by
  obtain ⟨⟨xs, h1, h2⟩, ⟨ys, h3, h4⟩, -⟩ := h
  exact rrightg_core g xs ys x.ns x.es w h1 h3 h2 h4
end Go.Proofs.Ytdoefndppoglfaa
