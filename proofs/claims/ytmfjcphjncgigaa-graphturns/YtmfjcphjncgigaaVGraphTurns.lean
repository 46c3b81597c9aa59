import Derived.Test.YtmfjcphjncgigaaVGraphProps
import Derived.Test.YtmfjcphjncgigaaHJ
import Derived.BigQuiet
namespace Go.Proofs.Ytmfjcphjncgigaa.GraphTurns
open Go.ChangeShapes Go.WideShapes Go.ChangeAt Go.RowKit
set_option linter.unusedVariables false
/-- how many steps there are by the first directions -/
def accA (a b c : Nat) : Nat → Nat
  | 0 => 0
  | 1 => a
  | 2 => a + b
  | _ => a + b + c
theorem outG_in {g : Gd} {n : Nat} (i : Nat) (hn : g.edges.length = n) (hi : i < g.nodes.length) (dir : Int) : outG g i dir = outN g i dir n := by
  unfold outG
  rw [if_pos ⟨by omega, by omega⟩, hn]
theorem sum_take (F : St → Nat) (l : List St) (k : Nat) (hk : k < l.length) : ((l.take (k + 1)).map F).sum = ((l.take k).map F).sum + F l[k] := by
  rw [List.take_succ_eq_append_getElem hk, List.map_append, List.sum_append]
  simp
theorem sum_take_le (F : St → Nat) (c : Nat) (h : ∀ x, F x ≤ c) : ∀ l : List St, (l.map F).sum ≤ c * l.length
  | [] => Nat.le_refl _
  | x :: l => by
    have := sum_take_le F c h l
    have := h x
    simp only [List.map_cons, List.sum_cons, List.length_cons, Nat.mul_succ]
    omega
theorem sum_take_mono (F : St → Nat) (l : List St) (k : Nat) : ((l.take k).map F).sum ≤ (l.map F).sum := by
  have e : l.map F = (l.take k).map F ++ (l.drop k).map F := by rw [← List.map_append, List.take_append_drop]
  rw [e, List.sum_append]
  omega
theorem wtW_le (g : Gd) (x : St) : wtW g x ≤ 2 := by unfold wtW; split <;> omega
theorem lpW_le (g : Gd) (x : St) : lpW g x ≤ 1 := by unfold lpW; split <;> omega
theorem turnW_le (g : Gd) (m i : Nat) (hm : m ≤ 50) : turnW g m i ≤ 100 := by
  have h1 := sum_take_le (wtW g) 2 (wtW_le g) (outN g i 7 m)
  have h2 := outN_len g i 7 m
  unfold turnW
  omega
/-- what stands in the slots of the region that copies an edge -/
def VS (B0 q : Nat) (a2 : Addr) (n2 c2 : Nat) (la : Addr) (L lc k : Nat) (pa : Addr) (e : Nat) (pe : Addr) (ed : Value) (j : Nat) (v : Value) (w : World) : Prop := match j with
  | 0 => v = .pointer (some ⟨q, 1, none⟩)
  | 1 => v = .slice (some a2) n2 c2
  | 2 => v = .slice (some la) L lc
  | 3 => v = .int .i64 k
  | 4 => v = .pointer (some pa)
  | 5 => v = .pointer (some pa)
  | 6 => v = .int .i64 (e : Int)
  | 7 => v = .pointer (some pe)
  | 8 => v = ed
  | 9 => ∃ c, v = .pointer (some ⟨c, 0, none⟩) ∧ B0 ≤ c ∧ Vr w c 45 #[.string ⟨#[]⟩, .int .i64 0, .int .i64 0, .bool false, .slice none 0 0, .slice none 0 0]
  | _ => True
theorem VS.keep {B0 q : Nat} {a2 : Addr} {n2 c2 : Nat} {la : Addr} {L lc k : Nat} {pa : Addr} {e : Nat} {pe : Addr} {ed : Value} (j : Nat) (v : Value) (a b : World) (h : VS B0 q a2 n2 c2 la L lc k pa e pe ed j v a) (hb : Below a.heap.size a b) : VS B0 q a2 n2 c2 la L lc k pa e pe ed j v b := by
  by_cases h9 : j = 9
  · subst h9
    obtain ⟨c, h1, h2, h3⟩ := h
    exact ⟨c, h1, h2, h3.keep hb⟩
  · unfold VS at h ⊢
    split at h <;> first | exact h | (exfalso; exact h9 rfl)
/-- what stands in the slots of the region that looks back -/
def VT (p i k L : Nat) (la : Addr) (cap : Nat) (pa : Addr) (x : St) (back : Int) (lb : List St) (j : Nat) (v : Value) (w : World) : Prop := match j with
  | 0 => v = pv p
  | 1 => v = .slice (some la) L cap
  | 2 => v = .int .i64 k
  | 3 => v = .pointer (some pa)
  | 4 => v = .pointer (some (pa.add 1))
  | 5 => v = .int .i64 x.2
  | 6 => v = .int .i64 back
  | 7 => RwT w v lb
  | 8 => v = .slice (some la) L cap
  | 9 => v = .int .i64 k
  | 10 => v = .pointer (some pa)
  | 11 => v = .pointer (some pa)
  | 12 => v = .int .i64 x.1
  | 13 => v = .int .i64 i
  | 14 => v = .bool true
  | 15 => v = .bool false
  | _ => True
theorem VT.keep {p i k L : Nat} {la : Addr} {cap : Nat} {pa : Addr} {x : St} {back : Int} {lb : List St} (j : Nat) (v : Value) (a b : World) (h : VT p i k L la cap pa x back lb j v a) (hb : Below a.heap.size a b) : VT p i k L la cap pa x back lb j v b := by
  by_cases h7 : j = 7
  · subst h7; exact Rw.keep h hb
  · unfold VT at h ⊢
    split at h <;> first | exact h | (exfalso; exact h7 rfl)
set_option maxRecDepth 100000 in
set_option maxHeartbeats 4000000 in
theorem walk (g : Gd) (x : Gx) (w : World) (h : Gz w g x) :
    Calls Try.prog 4 #[gv x] w fun e w' => e = .returned (.bool true) ∧ Below w.heap.size w w' := by
  obtain ⟨⟨ao, L, cap⟩, ⟨bo, M, cbp⟩⟩ := x
  have VG := Lib.hid (Vr.new w 25 #[.slice ao L cap, .slice bo M cbp])
  have HB := Lib.hid (below_a1 w (.cells #[.slice ao L cap, .slice bo M cbp] 25))
  have HZ := Lib.hid (h.keep HB.out)
  clear h
  dsimp only [gv, Sl.v] at HZ ⊢
  go_enter Try.func4, Try.ntmps4
  go_wp2_with fail
  (with_reducible refine (shown7_any _).mono ?_); rintro e wA ⟨rfl, hbA⟩
  have VGa := VG.out.keep hbA
  have HBa := Lib.hid (Below.chain HB.out hbA)
  have HZa := Lib.hid (HZ.out.keep hbA)
  have q0 := VGa.cell 0
  have q1 := VGa.cell 1
  simp only [List.getElem?_toArray, List.getElem?_cons_zero, List.getElem?_cons_succ] at q0 q1
  have HVa := Lib.hid VGa
  clear VGa VG HB HZ hbA
  go_wp2_with fail
  have CF := few_any HZa.out
  dsimp only [gv, Sl.v] at CF
  (with_reducible refine CF.mono ?_); rintro e wB ⟨y, rfl, hy, hbB⟩
  have HgN := Lib.hid (cutG_nodes g)
  have HgM := Lib.hid (cutG_edges g)
  clear CF q0 q1 HZa
  generalize cutG g = gc at *
  obtain ⟨⟨a1, n1, c1⟩, ⟨a2, n2, c2⟩⟩ := y
  have hn1 : gc.nodes.length = n1 := by obtain ⟨⟨xs, h1, h2⟩, -⟩ := hy; exact h2.1.trans h1.hd.1
  have hn2 : gc.edges.length = n2 := by obtain ⟨-, ⟨xs, h1, h2⟩, -⟩ := hy; exact h2.1.trans h1.hd.1
  have m1 : n1 ≤ 50 := by rw [← hn1]; exact HgN.out
  have m2 : n2 ≤ 50 := by rw [← hn2]; exact HgM.out
  have HL1 := Lib.hid hn1
  have HL2 := Lib.hid hn2
  clear hn1 hn2 HgN HgM
  have VGb := HVa.out.keep hbB
  have HBb := Lib.hid (Below.chain HBa.out hbB)
  have HS := Lib.hid (gz_other hy VGb ⟨a1, n1, c1⟩ ⟨a2, n2, c2⟩)
  have q0 := VGb.cell 0
  have q1 := VGb.cell 1
  simp only [List.getElem?_toArray, List.getElem?_cons_zero, List.getElem?_cons_succ] at q0 q1
  have t0 := VGb.thaw 0
  have t1 := VGb.thaw 1
  have HVs := Lib.hid (vr_set2 VGb (.slice a1 n1 c1) (.slice a2 n2 c2))
  have HBs := Lib.hid ((HBb.out.setCell (p := ⟨w.heap.size, 0, none⟩) (Nat.le_refl _) (.slice a1 n1 c1)).setCell (p := ⟨w.heap.size, 1, none⟩) (Nat.le_refl _) (.slice a2 n2 c2))
  dsimp only [gv, Sl.v] at HS HVs HBs ⊢
  clear hy hbB VGb HBa HBb HVa
  go_wp2_with fail
  clear q0 q1 t0 t1
  generalize (wB.setCell ⟨w.heap.size, 0, none⟩ (.slice a1 n1 c1)).setCell ⟨w.heap.size, 1, none⟩ (.slice a2 n2 c2) = wC at *
  have q0 := HVs.out.cell 0
  have q1 := HVs.out.cell 1
  simp only [List.getElem?_toArray, List.getElem?_cons_zero, List.getElem?_cons_succ] at q0 q1
  go_wp2_with fail
  have CN := new7_any HS.out
  dsimp only [gv, Sl.v] at CN
  (with_reducible refine CN.mono ?_); clear CN; rintro e wD ⟨hND, hbD⟩
  have HVd := Lib.hid (HVs.out.keep hbD)
  have HBd := Lib.hid (HBs.out.trans (hbD.mono HBs.out.size))
  have HZd := Lib.hid (HS.out.keep hbD)
  clear hbD HVs HBs HS q0 q1
  rcases hND with ⟨hr, p, rfl, hx⟩ | ⟨hr, rfl⟩
  · have HR0 := Lib.hid hr
    have HIx := Lib.hid hx
    have HM : Hid (gc.edges.length ≤ 1000) := Lib.hid (by rw [HL2.out]; omega)
    clear hr hx
    go_wp2_with fail
    go_loopg [6, 7] n1 (fun gg s6 s7 wr => ∃ i : Nat, gg + i = n1 ∧ s7 = .int .i64 i ∧ s6 = .int .i64 (sumR (turnW gc n2) i : Nat) ∧ Below wD.heap.size wD wr)
    case atStart => exact ⟨0, rfl, rfl, rfl, Below.refl _ _⟩
    case round =>
      obtain ⟨i, hg, rfl, rfl, hb⟩ := hrel
      have HBr := Lib.hid hb
      have HIr := Lib.hid (HIx.out.keep hb)
      have HVr := Lib.hid (HVd.out.keep hb)
      clear hb
      have q0 := HVr.out.cell 0
      have q1 := HVr.out.cell 1
      simp only [List.getElem?_toArray, List.getElem?_cons_zero, List.getElem?_cons_succ] at q0 q1
      by_cases hlt : i < n1
      · have ii : (i : Int) < (n1 : Int) := by omega
        have HiN : Hid (i < gc.nodes.length) := Lib.hid (by rw [HL1.out]; exact hlt)
        have hSb := sumR_le (turnW gc n2) 100 (fun j => turnW_le gc n2 j m2) i
        have hSn : sumR (turnW gc n2) (i + 1) = sumR (turnW gc n2) i + turnW gc n2 i := rfl
        have HSN := Lib.hid hSn
        clear hSn
        generalize sumR (turnW gc n2) i = Si at *
        have hSi : Si ≤ 5000 := by omega
        go_wp2_with fail
        (with_reducible refine (out7_any HIr.out HM.out i 7).mono ?_); rintro e w1 ⟨v1, rfl, ho1, hb1⟩
        rw [outG_in i HL2.out HiN.out] at ho1
        have hcn := cnt_turn gc i n2 (by rw [HL2.out]; exact Nat.le_refl _)
        have b7 := outN_len gc i 7 n2
        have b1 := outN_len gc i 1 n2
        have b2 := outN_len gc i 2 n2
        have b4 := outN_len gc i 4 n2
        have hed := fun x hx => out7_edge (g := gc) (n := i) (m := n2) (by rw [HL2.out]; exact Nat.le_refl _) (x := x) hx
        have hpw := out_less (g := gc) (n := i) (dir := 7) n2 (by rw [HL2.out]; exact Nat.le_refl _)
        have htw : turnW gc n2 i = ((outN gc i 7 n2).map (wtW gc)).sum := rfl
        generalize outN gc i 7 n2 = l at *
        obtain ⟨la, lc, rfl⟩ := ho1.shape
        have HOl := Lib.hid ho1.rw
        generalize hK1 : (outN gc i 1 n2).length = k1 at *
        generalize hK2 : (outN gc i 2 n2).length = k2 at *
        generalize hK4 : (outN gc i 4 n2).length = k4 at *
        generalize hLl : l.length = L8 at *
        have HK1 := Lib.hid hK1
        have HK2 := Lib.hid hK2
        have HK4 := Lib.hid hK4
        have HLl := Lib.hid hLl
        have HCN := Lib.hid hcn
        have HED := Lib.hid hed
        have HPW := Lib.hid hpw
        have HTW := Lib.hid htw
        have HB1 := Lib.hid (Below.chain HBr.out hb1)
        have HI1 := Lib.hid (HIr.out.keep hb1)
        have HV1 := Lib.hid (HVr.out.keep hb1)
        have b1' : k1 ≤ 50 := by omega
        have b2' : k2 ≤ 50 := by omega
        have b4' : k4 ≤ 50 := by omega
        have b7' : L8 ≤ 50 := by omega
        clear ho1 hb1 hK1 hK2 hK4 hLl hcn hed hpw htw b1 b2 b4 b7 q0 q1 HIr HVr HBr
        go_wp2_with fail
        go_loopg [9, 10] 3 (fun gg s9 s10 wr => ∃ d : Nat, gg + d = 3 ∧ s10 = .int .i64 d ∧ s9 = .int .i64 (accA k1 k2 k4 d : Nat) ∧ Below w1.heap.size w1 wr)
        case atStart => exact ⟨0, rfl, rfl, rfl, Below.refl _ _⟩
        case round =>
          obtain ⟨d, hgd, rfl, rfl, hbd⟩ := hrel
          have HBd1 := Lib.hid hbd
          have HId := Lib.hid (HI1.out.keep hbd)
          clear hbd
          have hd : d = 0 ∨ d = 1 ∨ d = 2 ∨ d = 3 := by omega
          rcases hd with rfl | rfl | rfl | rfl
          · go_wp2_with fail
            (with_reducible refine (out7_any HId.out HM.out i 1).mono ?_); rintro e w2 ⟨v2, rfl, ho2, hb2⟩
            have hlen : (outG gc i 1).length = k1 := by rw [outG_in i HL2.out HiN.out]; exact HK1.out
            have HTBs := Lib.hid (fun x (hx : x ∈ outG gc i 1) => turn_back HR0.out (n := i) (dir := 1) (back := 4) (by decide) ⟨by omega, by have := HiN.out; omega⟩ hx)
            generalize outG gc i 1 = lm at *
            obtain ⟨am, cm, rfl⟩ := ho2.shape
            have HOm := Lib.hid ho2.rw
            generalize hLm : lm.length = Lm at *
            have HLM := Lib.hid hLm
            clear hLm ho2
            have HI2 := Lib.hid (HId.out.keep hb2)
            have HB2 := Lib.hid (Below.chain HBd1.out hb2)
            obtain rfl := hlen
            clear hb2
            go_wp2_with fail
            go_loopg [12] Lm (fun gg s12 wr => ∃ k : Nat, gg + k = Lm ∧ s12 = .int .i64 k ∧ Below w2.heap.size w2 wr)
            case atStart => exact ⟨0, rfl, rfl, Below.refl _ _⟩
            case round =>
              obtain ⟨k, hgk, rfl, hbk⟩ := hrel
              have HBk := Lib.hid hbk
              have HIk := Lib.hid (HI2.out.keep hbk)
              clear hbk
              by_cases hkL : k < Lm
              · have kk : (k : Int) < (Lm : Int) := by omega
                have hk : k < lm.length := by rw [HLM.out]; exact hkL
                obtain ⟨b, o, rfl, z0, z1⟩ := steps_at (HOm.out.keep HBk.out) k hk
                have HTB := Lib.hid (HTBs.out _ (List.getElem_mem hk))
                generalize lm[k] = x at *
                clear hk
                go_wp2_with fail
                refine wp_region_facts 16 (VT p i k Lm ⟨b, o, none⟩ cm ⟨b, o + k * 2, none⟩ x 4 (outG gc x.2 4)) (fun a b => Below a.heap.size a b) (by kernel_rfl) (by decide) (by kernel_rfl) (by kernel_rfl) (fun a => Below.refl _ _) (fun a b c => Below.chain) VT.keep ?_ ?_
                · refine ⟨?_, ?_, ?_, ?_, ?_, ?_, ?_, ?_, ?_, ?_, ?_, ?_, ?_, ?_, ?_, ?_, trivial⟩
                  · intro a u hR hF hD
                    have hR1 := below_undrew hR
                    have f4 : a.eval (.tmp 4) = pv p := hF 4 (by kernel_rfl)
                    simp only [Act.eval, Array.getD_eq_getD_getElem?] at f4
                    show Oper.wp _ _ _ _ _ _
                    unfold Oper.wp
                    simp only [execOp]
                    go_simp
                    exact ⟨_, rfl, rfl, Below.refl _ _⟩
                  · intro a u hR hF hD
                    have hR1 := below_undrew hR
                    have f11 : a.eval (.tmp 11) = .slice (some ⟨b, o, none⟩) Lm cm := hF 11 (by kernel_rfl)
                    simp only [Act.eval, Array.getD_eq_getD_getElem?] at f11
                    show Oper.wp _ _ _ _ _ _
                    unfold Oper.wp
                    simp only [execOp]
                    go_simp
                    exact ⟨_, rfl, rfl, Below.refl _ _⟩
                  · intro a u hR hF hD
                    have hR1 := below_undrew hR
                    have f12 : a.eval (.tmp 12) = .int .i64 (k : Int) := hF 12 (by kernel_rfl)
                    simp only [Act.eval, Array.getD_eq_getD_getElem?] at f12
                    show Oper.wp _ _ _ _ _ _
                    unfold Oper.wp
                    simp only [execOp]
                    go_simp
                    exact ⟨_, rfl, rfl, Below.refl _ _⟩
                  · intro a u hR hF hD
                    have hR1 := below_undrew hR
                    have d71 : a.eval (.tmp 71) = .slice (some ⟨b, o, none⟩) Lm cm := hD 1 (by kernel_rfl)
                    have d72 : a.eval (.tmp 72) = .int .i64 (k : Int) := hD 2 (by kernel_rfl)
                    simp only [Act.eval, Array.getD_eq_getD_getElem?] at d71 d72
                    show Oper.wp _ _ _ _ _ _
                    unfold Oper.wp
                    simp only [execOp]
                    go_simp
                    exact ⟨_, rfl, rfl, Below.refl _ _⟩
                  · intro a u hR hF hD
                    have hR1 := below_undrew hR
                    have d73 : a.eval (.tmp 73) = .pointer (some ⟨b, o + k * 2, none⟩) := hD 3 (by kernel_rfl)
                    simp only [Act.eval, Array.getD_eq_getD_getElem?] at d73
                    show Oper.wp _ _ _ _ _ _
                    unfold Oper.wp
                    simp only [execOp]
                    go_simp
                    exact ⟨_, rfl, rfl, Below.refl _ _⟩
                  · intro a u hR hF hD
                    have hR1 := below_undrew hR
                    have d74 : a.eval (.tmp 74) = .pointer (some ⟨b, o + k * 2 + 1, none⟩) := hD 4 (by kernel_rfl)
                    simp only [Act.eval, Array.getD_eq_getD_getElem?] at d74
                    have kz1 := (hR1.cell (block_lt_of_cell z1)).trans z1
                    show Oper.wp _ _ _ _ _ _
                    unfold Oper.wp
                    simp only [execOp]
                    go_simp
                    exact ⟨_, rfl, rfl, Below.refl _ _⟩
                  · intro a u hR hF hD
                    have hR1 := below_undrew hR
                    have f13 : a.eval (.tmp 13) = .int .i64 4 := hF 13 (by kernel_rfl)
                    simp only [Act.eval, Array.getD_eq_getD_getElem?] at f13
                    show Oper.wp _ _ _ _ _ _
                    unfold Oper.wp
                    simp only [execOp]
                    go_simp
                    exact ⟨_, rfl, rfl, Below.refl _ _⟩
                  · intro a u hR hF hD
                    have hR1 := below_undrew hR
                    have d70 : a.eval (.tmp 70) = pv p := hD 0 (by kernel_rfl)
                    have d75 : a.eval (.tmp 75) = .int .i64 x.2 := hD 5 (by kernel_rfl)
                    have d76 : a.eval (.tmp 76) = .int .i64 4 := hD 6 (by kernel_rfl)
                    simp only [Act.eval, Array.getD_eq_getD_getElem?] at d70 d75 d76
                    show Oper.wp _ _ _ _ _ _
                    unfold Oper.wp
                    simp only [execOp]
                    go_simp
                    (with_reducible refine (out7_any (HIk.out.keep hR1) HM.out x.2 4).mono ?_); rintro e u2 ⟨v2, rfl, ho2, hb2⟩
                    exact ⟨_, rfl, ho2.rw, hb2⟩
                  · intro a u hR hF hD
                    have hR1 := below_undrew hR
                    have f11 : a.eval (.tmp 11) = .slice (some ⟨b, o, none⟩) Lm cm := hF 11 (by kernel_rfl)
                    simp only [Act.eval, Array.getD_eq_getD_getElem?] at f11
                    show Oper.wp _ _ _ _ _ _
                    unfold Oper.wp
                    simp only [execOp]
                    go_simp
                    exact ⟨_, rfl, rfl, Below.refl _ _⟩
                  · intro a u hR hF hD
                    have hR1 := below_undrew hR
                    have f12 : a.eval (.tmp 12) = .int .i64 (k : Int) := hF 12 (by kernel_rfl)
                    simp only [Act.eval, Array.getD_eq_getD_getElem?] at f12
                    show Oper.wp _ _ _ _ _ _
                    unfold Oper.wp
                    simp only [execOp]
                    go_simp
                    exact ⟨_, rfl, rfl, Below.refl _ _⟩
                  · intro a u hR hF hD
                    have hR1 := below_undrew hR
                    have d78 : a.eval (.tmp 78) = .slice (some ⟨b, o, none⟩) Lm cm := hD 8 (by kernel_rfl)
                    have d79 : a.eval (.tmp 79) = .int .i64 (k : Int) := hD 9 (by kernel_rfl)
                    simp only [Act.eval, Array.getD_eq_getD_getElem?] at d78 d79
                    show Oper.wp _ _ _ _ _ _
                    unfold Oper.wp
                    simp only [execOp]
                    go_simp
                    exact ⟨_, rfl, rfl, Below.refl _ _⟩
                  · intro a u hR hF hD
                    have hR1 := below_undrew hR
                    have d80 : a.eval (.tmp 80) = .pointer (some ⟨b, o + k * 2, none⟩) := hD 10 (by kernel_rfl)
                    simp only [Act.eval, Array.getD_eq_getD_getElem?] at d80
                    show Oper.wp _ _ _ _ _ _
                    unfold Oper.wp
                    simp only [execOp]
                    go_simp
                    exact ⟨_, rfl, rfl, Below.refl _ _⟩
                  · intro a u hR hF hD
                    have hR1 := below_undrew hR
                    have d81 : a.eval (.tmp 81) = .pointer (some ⟨b, o + k * 2, none⟩) := hD 11 (by kernel_rfl)
                    simp only [Act.eval, Array.getD_eq_getD_getElem?] at d81
                    have kz0 := (hR1.cell (block_lt_of_cell z0)).trans z0
                    show Oper.wp _ _ _ _ _ _
                    unfold Oper.wp
                    simp only [execOp]
                    go_simp
                    exact ⟨_, rfl, rfl, Below.refl _ _⟩
                  · intro a u hR hF hD
                    have hR1 := below_undrew hR
                    have f7 : a.eval (.tmp 7) = .int .i64 (i : Int) := hF 7 (by kernel_rfl)
                    simp only [Act.eval, Array.getD_eq_getD_getElem?] at f7
                    show Oper.wp _ _ _ _ _ _
                    unfold Oper.wp
                    simp only [execOp]
                    go_simp
                    exact ⟨_, rfl, rfl, Below.refl _ _⟩
                  · intro a u hR hF hD
                    have hR1 := below_undrew hR
                    have d82 : a.eval (.tmp 82) = .int .i64 x.1 := hD 12 (by kernel_rfl)
                    have d83 : a.eval (.tmp 83) = .int .i64 (i : Int) := hD 13 (by kernel_rfl)
                    have h7 : RwT u (a.eval (.tmp 77)) (outG gc x.2 4) := hD 7 (by kernel_rfl)
                    obtain ⟨a7, c7, g77⟩ := h7.shape
                    rw [g77] at h7
                    simp only [Act.eval, Array.getD_eq_getD_getElem?] at d82 d83 g77
                    show Oper.wp _ _ _ _ _ _
                    unfold Oper.wp
                    simp only [execOp]
                    go_simp
                    (with_reducible refine (has_any _ _ x.1 (i : Int) u h7).mono ?_); rintro e u2 ⟨rfl, hb2⟩; rw [HTB.out]
                    exact ⟨_, rfl, rfl, hb2⟩
                  · intro a u hR hF hD
                    have hR1 := below_undrew hR
                    have d84 : a.eval (.tmp 84) = .bool true := hD 14 (by kernel_rfl)
                    simp only [Act.eval, Array.getD_eq_getD_getElem?] at d84
                    show Oper.wp _ _ _ _ _ _
                    unfold Oper.wp
                    simp only [execOp]
                    go_simp
                    exact ⟨_, rfl, rfl, Below.refl _ _⟩
                · intro vs u hv hR
                  have e15 : vs 15 = .bool false := hv 15 (by decide)
                  have hR1 := below_undrew hR
                  simp only [putAll, List.take, List.drop, Act.put, List.setIfInBounds_toArray, List.set_cons_succ, List.set_cons_zero, Nat.zero_add, Nat.reduceAdd]
                  rw [e15]
                  generalize vs 0 = t0
                  generalize vs 1 = t1
                  generalize vs 2 = t2
                  generalize vs 3 = t3
                  generalize vs 4 = t4
                  generalize vs 5 = t5
                  generalize vs 6 = t6
                  generalize vs 7 = t7
                  generalize vs 8 = t8
                  generalize vs 9 = t9
                  generalize vs 10 = t10
                  generalize vs 11 = t11
                  generalize vs 12 = t12
                  generalize vs 13 = t13
                  generalize vs 14 = t14
                  clear hv e15 hR
                  go_wp2_with fail
                  go_roundg (Lm - (k + 1))
                  case rel => exact ⟨k + 1, by omega, by go_num, Below.chain HBk.out hR1⟩
                  case measure => omega
              · obtain rfl : Lm = k := by omega
                have kk : ¬ ((Lm : Int) < (Lm : Int)) := by omega
                go_wp2_with fail
                go_roundg 2
                case rel => exact ⟨1, rfl, rfl, by (have ea : accA Lm k2 k4 1 = accA Lm k2 k4 0 + Lm := by simp [accA]); (have eb : accA Lm k2 k4 0 ≤ 100 := by simp only [accA]; omega); rw [ea]; generalize accA Lm k2 k4 0 = ax at *; rw [IntWalk.wrap64_in _ ⟨by omega, by omega⟩]; exact congrArg (Value.int IntKind.i64) (by omega), Below.chain HB2.out HBk.out⟩
                case measure => omega
          · go_wp2_with fail
            (with_reducible refine (out7_any HId.out HM.out i 2).mono ?_); rintro e w2 ⟨v2, rfl, ho2, hb2⟩
            have hlen : (outG gc i 2).length = k2 := by rw [outG_in i HL2.out HiN.out]; exact HK2.out
            have HTBs := Lib.hid (fun x (hx : x ∈ outG gc i 2) => turn_back HR0.out (n := i) (dir := 2) (back := 2) (by decide) ⟨by omega, by have := HiN.out; omega⟩ hx)
            generalize outG gc i 2 = lm at *
            obtain ⟨am, cm, rfl⟩ := ho2.shape
            have HOm := Lib.hid ho2.rw
            generalize hLm : lm.length = Lm at *
            have HLM := Lib.hid hLm
            clear hLm ho2
            have HI2 := Lib.hid (HId.out.keep hb2)
            have HB2 := Lib.hid (Below.chain HBd1.out hb2)
            obtain rfl := hlen
            clear hb2
            go_wp2_with fail
            go_loopg [12] Lm (fun gg s12 wr => ∃ k : Nat, gg + k = Lm ∧ s12 = .int .i64 k ∧ Below w2.heap.size w2 wr)
            case atStart => exact ⟨0, rfl, rfl, Below.refl _ _⟩
            case round =>
              obtain ⟨k, hgk, rfl, hbk⟩ := hrel
              have HBk := Lib.hid hbk
              have HIk := Lib.hid (HI2.out.keep hbk)
              clear hbk
              by_cases hkL : k < Lm
              · have kk : (k : Int) < (Lm : Int) := by omega
                have hk : k < lm.length := by rw [HLM.out]; exact hkL
                obtain ⟨b, o, rfl, z0, z1⟩ := steps_at (HOm.out.keep HBk.out) k hk
                have HTB := Lib.hid (HTBs.out _ (List.getElem_mem hk))
                generalize lm[k] = x at *
                clear hk
                go_wp2_with fail
                refine wp_region_facts 16 (VT p i k Lm ⟨b, o, none⟩ cm ⟨b, o + k * 2, none⟩ x 2 (outG gc x.2 2)) (fun a b => Below a.heap.size a b) (by kernel_rfl) (by decide) (by kernel_rfl) (by kernel_rfl) (fun a => Below.refl _ _) (fun a b c => Below.chain) VT.keep ?_ ?_
                · refine ⟨?_, ?_, ?_, ?_, ?_, ?_, ?_, ?_, ?_, ?_, ?_, ?_, ?_, ?_, ?_, ?_, trivial⟩
                  · intro a u hR hF hD
                    have hR1 := below_undrew hR
                    have f4 : a.eval (.tmp 4) = pv p := hF 4 (by kernel_rfl)
                    simp only [Act.eval, Array.getD_eq_getD_getElem?] at f4
                    show Oper.wp _ _ _ _ _ _
                    unfold Oper.wp
                    simp only [execOp]
                    go_simp
                    exact ⟨_, rfl, rfl, Below.refl _ _⟩
                  · intro a u hR hF hD
                    have hR1 := below_undrew hR
                    have f11 : a.eval (.tmp 11) = .slice (some ⟨b, o, none⟩) Lm cm := hF 11 (by kernel_rfl)
                    simp only [Act.eval, Array.getD_eq_getD_getElem?] at f11
                    show Oper.wp _ _ _ _ _ _
                    unfold Oper.wp
                    simp only [execOp]
                    go_simp
                    exact ⟨_, rfl, rfl, Below.refl _ _⟩
                  · intro a u hR hF hD
                    have hR1 := below_undrew hR
                    have f12 : a.eval (.tmp 12) = .int .i64 (k : Int) := hF 12 (by kernel_rfl)
                    simp only [Act.eval, Array.getD_eq_getD_getElem?] at f12
                    show Oper.wp _ _ _ _ _ _
                    unfold Oper.wp
                    simp only [execOp]
                    go_simp
                    exact ⟨_, rfl, rfl, Below.refl _ _⟩
                  · intro a u hR hF hD
                    have hR1 := below_undrew hR
                    have d71 : a.eval (.tmp 71) = .slice (some ⟨b, o, none⟩) Lm cm := hD 1 (by kernel_rfl)
                    have d72 : a.eval (.tmp 72) = .int .i64 (k : Int) := hD 2 (by kernel_rfl)
                    simp only [Act.eval, Array.getD_eq_getD_getElem?] at d71 d72
                    show Oper.wp _ _ _ _ _ _
                    unfold Oper.wp
                    simp only [execOp]
                    go_simp
                    exact ⟨_, rfl, rfl, Below.refl _ _⟩
                  · intro a u hR hF hD
                    have hR1 := below_undrew hR
                    have d73 : a.eval (.tmp 73) = .pointer (some ⟨b, o + k * 2, none⟩) := hD 3 (by kernel_rfl)
                    simp only [Act.eval, Array.getD_eq_getD_getElem?] at d73
                    show Oper.wp _ _ _ _ _ _
                    unfold Oper.wp
                    simp only [execOp]
                    go_simp
                    exact ⟨_, rfl, rfl, Below.refl _ _⟩
                  · intro a u hR hF hD
                    have hR1 := below_undrew hR
                    have d74 : a.eval (.tmp 74) = .pointer (some ⟨b, o + k * 2 + 1, none⟩) := hD 4 (by kernel_rfl)
                    simp only [Act.eval, Array.getD_eq_getD_getElem?] at d74
                    have kz1 := (hR1.cell (block_lt_of_cell z1)).trans z1
                    show Oper.wp _ _ _ _ _ _
                    unfold Oper.wp
                    simp only [execOp]
                    go_simp
                    exact ⟨_, rfl, rfl, Below.refl _ _⟩
                  · intro a u hR hF hD
                    have hR1 := below_undrew hR
                    have f13 : a.eval (.tmp 13) = .int .i64 2 := hF 13 (by kernel_rfl)
                    simp only [Act.eval, Array.getD_eq_getD_getElem?] at f13
                    show Oper.wp _ _ _ _ _ _
                    unfold Oper.wp
                    simp only [execOp]
                    go_simp
                    exact ⟨_, rfl, rfl, Below.refl _ _⟩
                  · intro a u hR hF hD
                    have hR1 := below_undrew hR
                    have d70 : a.eval (.tmp 70) = pv p := hD 0 (by kernel_rfl)
                    have d75 : a.eval (.tmp 75) = .int .i64 x.2 := hD 5 (by kernel_rfl)
                    have d76 : a.eval (.tmp 76) = .int .i64 2 := hD 6 (by kernel_rfl)
                    simp only [Act.eval, Array.getD_eq_getD_getElem?] at d70 d75 d76
                    show Oper.wp _ _ _ _ _ _
                    unfold Oper.wp
                    simp only [execOp]
                    go_simp
                    (with_reducible refine (out7_any (HIk.out.keep hR1) HM.out x.2 2).mono ?_); rintro e u2 ⟨v2, rfl, ho2, hb2⟩
                    exact ⟨_, rfl, ho2.rw, hb2⟩
                  · intro a u hR hF hD
                    have hR1 := below_undrew hR
                    have f11 : a.eval (.tmp 11) = .slice (some ⟨b, o, none⟩) Lm cm := hF 11 (by kernel_rfl)
                    simp only [Act.eval, Array.getD_eq_getD_getElem?] at f11
                    show Oper.wp _ _ _ _ _ _
                    unfold Oper.wp
                    simp only [execOp]
                    go_simp
                    exact ⟨_, rfl, rfl, Below.refl _ _⟩
                  · intro a u hR hF hD
                    have hR1 := below_undrew hR
                    have f12 : a.eval (.tmp 12) = .int .i64 (k : Int) := hF 12 (by kernel_rfl)
                    simp only [Act.eval, Array.getD_eq_getD_getElem?] at f12
                    show Oper.wp _ _ _ _ _ _
                    unfold Oper.wp
                    simp only [execOp]
                    go_simp
                    exact ⟨_, rfl, rfl, Below.refl _ _⟩
                  · intro a u hR hF hD
                    have hR1 := below_undrew hR
                    have d78 : a.eval (.tmp 78) = .slice (some ⟨b, o, none⟩) Lm cm := hD 8 (by kernel_rfl)
                    have d79 : a.eval (.tmp 79) = .int .i64 (k : Int) := hD 9 (by kernel_rfl)
                    simp only [Act.eval, Array.getD_eq_getD_getElem?] at d78 d79
                    show Oper.wp _ _ _ _ _ _
                    unfold Oper.wp
                    simp only [execOp]
                    go_simp
                    exact ⟨_, rfl, rfl, Below.refl _ _⟩
                  · intro a u hR hF hD
                    have hR1 := below_undrew hR
                    have d80 : a.eval (.tmp 80) = .pointer (some ⟨b, o + k * 2, none⟩) := hD 10 (by kernel_rfl)
                    simp only [Act.eval, Array.getD_eq_getD_getElem?] at d80
                    show Oper.wp _ _ _ _ _ _
                    unfold Oper.wp
                    simp only [execOp]
                    go_simp
                    exact ⟨_, rfl, rfl, Below.refl _ _⟩
                  · intro a u hR hF hD
                    have hR1 := below_undrew hR
                    have d81 : a.eval (.tmp 81) = .pointer (some ⟨b, o + k * 2, none⟩) := hD 11 (by kernel_rfl)
                    simp only [Act.eval, Array.getD_eq_getD_getElem?] at d81
                    have kz0 := (hR1.cell (block_lt_of_cell z0)).trans z0
                    show Oper.wp _ _ _ _ _ _
                    unfold Oper.wp
                    simp only [execOp]
                    go_simp
                    exact ⟨_, rfl, rfl, Below.refl _ _⟩
                  · intro a u hR hF hD
                    have hR1 := below_undrew hR
                    have f7 : a.eval (.tmp 7) = .int .i64 (i : Int) := hF 7 (by kernel_rfl)
                    simp only [Act.eval, Array.getD_eq_getD_getElem?] at f7
                    show Oper.wp _ _ _ _ _ _
                    unfold Oper.wp
                    simp only [execOp]
                    go_simp
                    exact ⟨_, rfl, rfl, Below.refl _ _⟩
                  · intro a u hR hF hD
                    have hR1 := below_undrew hR
                    have d82 : a.eval (.tmp 82) = .int .i64 x.1 := hD 12 (by kernel_rfl)
                    have d83 : a.eval (.tmp 83) = .int .i64 (i : Int) := hD 13 (by kernel_rfl)
                    have h7 : RwT u (a.eval (.tmp 77)) (outG gc x.2 2) := hD 7 (by kernel_rfl)
                    obtain ⟨a7, c7, g77⟩ := h7.shape
                    rw [g77] at h7
                    simp only [Act.eval, Array.getD_eq_getD_getElem?] at d82 d83 g77
                    show Oper.wp _ _ _ _ _ _
                    unfold Oper.wp
                    simp only [execOp]
                    go_simp
                    (with_reducible refine (has_any _ _ x.1 (i : Int) u h7).mono ?_); rintro e u2 ⟨rfl, hb2⟩; rw [HTB.out]
                    exact ⟨_, rfl, rfl, hb2⟩
                  · intro a u hR hF hD
                    have hR1 := below_undrew hR
                    have d84 : a.eval (.tmp 84) = .bool true := hD 14 (by kernel_rfl)
                    simp only [Act.eval, Array.getD_eq_getD_getElem?] at d84
                    show Oper.wp _ _ _ _ _ _
                    unfold Oper.wp
                    simp only [execOp]
                    go_simp
                    exact ⟨_, rfl, rfl, Below.refl _ _⟩
                · intro vs u hv hR
                  have e15 : vs 15 = .bool false := hv 15 (by decide)
                  have hR1 := below_undrew hR
                  simp only [putAll, List.take, List.drop, Act.put, List.setIfInBounds_toArray, List.set_cons_succ, List.set_cons_zero, Nat.zero_add, Nat.reduceAdd]
                  rw [e15]
                  generalize vs 0 = t0
                  generalize vs 1 = t1
                  generalize vs 2 = t2
                  generalize vs 3 = t3
                  generalize vs 4 = t4
                  generalize vs 5 = t5
                  generalize vs 6 = t6
                  generalize vs 7 = t7
                  generalize vs 8 = t8
                  generalize vs 9 = t9
                  generalize vs 10 = t10
                  generalize vs 11 = t11
                  generalize vs 12 = t12
                  generalize vs 13 = t13
                  generalize vs 14 = t14
                  clear hv e15 hR
                  go_wp2_with fail
                  go_roundg (Lm - (k + 1))
                  case rel => exact ⟨k + 1, by omega, by go_num, Below.chain HBk.out hR1⟩
                  case measure => omega
              · obtain rfl : Lm = k := by omega
                have kk : ¬ ((Lm : Int) < (Lm : Int)) := by omega
                go_wp2_with fail
                go_roundg 1
                case rel => exact ⟨2, rfl, rfl, by (have ea : accA k1 Lm k4 2 = accA k1 Lm k4 1 + Lm := by simp [accA]); (have eb : accA k1 Lm k4 1 ≤ 100 := by simp only [accA]; omega); rw [ea]; generalize accA k1 Lm k4 1 = ax at *; rw [IntWalk.wrap64_in _ ⟨by omega, by omega⟩]; exact congrArg (Value.int IntKind.i64) (by omega), Below.chain HB2.out HBk.out⟩
                case measure => omega
          · go_wp2_with fail
            (with_reducible refine (out7_any HId.out HM.out i 4).mono ?_); rintro e w2 ⟨v2, rfl, ho2, hb2⟩
            have hlen : (outG gc i 4).length = k4 := by rw [outG_in i HL2.out HiN.out]; exact HK4.out
            have HTBs := Lib.hid (fun x (hx : x ∈ outG gc i 4) => turn_back HR0.out (n := i) (dir := 4) (back := 1) (by decide) ⟨by omega, by have := HiN.out; omega⟩ hx)
            generalize outG gc i 4 = lm at *
            obtain ⟨am, cm, rfl⟩ := ho2.shape
            have HOm := Lib.hid ho2.rw
            generalize hLm : lm.length = Lm at *
            have HLM := Lib.hid hLm
            clear hLm ho2
            have HI2 := Lib.hid (HId.out.keep hb2)
            have HB2 := Lib.hid (Below.chain HBd1.out hb2)
            obtain rfl := hlen
            clear hb2
            go_wp2_with fail
            go_loopg [12] Lm (fun gg s12 wr => ∃ k : Nat, gg + k = Lm ∧ s12 = .int .i64 k ∧ Below w2.heap.size w2 wr)
            case atStart => exact ⟨0, rfl, rfl, Below.refl _ _⟩
            case round =>
              obtain ⟨k, hgk, rfl, hbk⟩ := hrel
              have HBk := Lib.hid hbk
              have HIk := Lib.hid (HI2.out.keep hbk)
              clear hbk
              by_cases hkL : k < Lm
              · have kk : (k : Int) < (Lm : Int) := by omega
                have hk : k < lm.length := by rw [HLM.out]; exact hkL
                obtain ⟨b, o, rfl, z0, z1⟩ := steps_at (HOm.out.keep HBk.out) k hk
                have HTB := Lib.hid (HTBs.out _ (List.getElem_mem hk))
                generalize lm[k] = x at *
                clear hk
                go_wp2_with fail
                refine wp_region_facts 16 (VT p i k Lm ⟨b, o, none⟩ cm ⟨b, o + k * 2, none⟩ x 1 (outG gc x.2 1)) (fun a b => Below a.heap.size a b) (by kernel_rfl) (by decide) (by kernel_rfl) (by kernel_rfl) (fun a => Below.refl _ _) (fun a b c => Below.chain) VT.keep ?_ ?_
                · refine ⟨?_, ?_, ?_, ?_, ?_, ?_, ?_, ?_, ?_, ?_, ?_, ?_, ?_, ?_, ?_, ?_, trivial⟩
                  · intro a u hR hF hD
                    have hR1 := below_undrew hR
                    have f4 : a.eval (.tmp 4) = pv p := hF 4 (by kernel_rfl)
                    simp only [Act.eval, Array.getD_eq_getD_getElem?] at f4
                    show Oper.wp _ _ _ _ _ _
                    unfold Oper.wp
                    simp only [execOp]
                    go_simp
                    exact ⟨_, rfl, rfl, Below.refl _ _⟩
                  · intro a u hR hF hD
                    have hR1 := below_undrew hR
                    have f11 : a.eval (.tmp 11) = .slice (some ⟨b, o, none⟩) Lm cm := hF 11 (by kernel_rfl)
                    simp only [Act.eval, Array.getD_eq_getD_getElem?] at f11
                    show Oper.wp _ _ _ _ _ _
                    unfold Oper.wp
                    simp only [execOp]
                    go_simp
                    exact ⟨_, rfl, rfl, Below.refl _ _⟩
                  · intro a u hR hF hD
                    have hR1 := below_undrew hR
                    have f12 : a.eval (.tmp 12) = .int .i64 (k : Int) := hF 12 (by kernel_rfl)
                    simp only [Act.eval, Array.getD_eq_getD_getElem?] at f12
                    show Oper.wp _ _ _ _ _ _
                    unfold Oper.wp
                    simp only [execOp]
                    go_simp
                    exact ⟨_, rfl, rfl, Below.refl _ _⟩
                  · intro a u hR hF hD
                    have hR1 := below_undrew hR
                    have d71 : a.eval (.tmp 71) = .slice (some ⟨b, o, none⟩) Lm cm := hD 1 (by kernel_rfl)
                    have d72 : a.eval (.tmp 72) = .int .i64 (k : Int) := hD 2 (by kernel_rfl)
                    simp only [Act.eval, Array.getD_eq_getD_getElem?] at d71 d72
                    show Oper.wp _ _ _ _ _ _
                    unfold Oper.wp
                    simp only [execOp]
                    go_simp
                    exact ⟨_, rfl, rfl, Below.refl _ _⟩
                  · intro a u hR hF hD
                    have hR1 := below_undrew hR
                    have d73 : a.eval (.tmp 73) = .pointer (some ⟨b, o + k * 2, none⟩) := hD 3 (by kernel_rfl)
                    simp only [Act.eval, Array.getD_eq_getD_getElem?] at d73
                    show Oper.wp _ _ _ _ _ _
                    unfold Oper.wp
                    simp only [execOp]
                    go_simp
                    exact ⟨_, rfl, rfl, Below.refl _ _⟩
                  · intro a u hR hF hD
                    have hR1 := below_undrew hR
                    have d74 : a.eval (.tmp 74) = .pointer (some ⟨b, o + k * 2 + 1, none⟩) := hD 4 (by kernel_rfl)
                    simp only [Act.eval, Array.getD_eq_getD_getElem?] at d74
                    have kz1 := (hR1.cell (block_lt_of_cell z1)).trans z1
                    show Oper.wp _ _ _ _ _ _
                    unfold Oper.wp
                    simp only [execOp]
                    go_simp
                    exact ⟨_, rfl, rfl, Below.refl _ _⟩
                  · intro a u hR hF hD
                    have hR1 := below_undrew hR
                    have f13 : a.eval (.tmp 13) = .int .i64 1 := hF 13 (by kernel_rfl)
                    simp only [Act.eval, Array.getD_eq_getD_getElem?] at f13
                    show Oper.wp _ _ _ _ _ _
                    unfold Oper.wp
                    simp only [execOp]
                    go_simp
                    exact ⟨_, rfl, rfl, Below.refl _ _⟩
                  · intro a u hR hF hD
                    have hR1 := below_undrew hR
                    have d70 : a.eval (.tmp 70) = pv p := hD 0 (by kernel_rfl)
                    have d75 : a.eval (.tmp 75) = .int .i64 x.2 := hD 5 (by kernel_rfl)
                    have d76 : a.eval (.tmp 76) = .int .i64 1 := hD 6 (by kernel_rfl)
                    simp only [Act.eval, Array.getD_eq_getD_getElem?] at d70 d75 d76
                    show Oper.wp _ _ _ _ _ _
                    unfold Oper.wp
                    simp only [execOp]
                    go_simp
                    (with_reducible refine (out7_any (HIk.out.keep hR1) HM.out x.2 1).mono ?_); rintro e u2 ⟨v2, rfl, ho2, hb2⟩
                    exact ⟨_, rfl, ho2.rw, hb2⟩
                  · intro a u hR hF hD
                    have hR1 := below_undrew hR
                    have f11 : a.eval (.tmp 11) = .slice (some ⟨b, o, none⟩) Lm cm := hF 11 (by kernel_rfl)
                    simp only [Act.eval, Array.getD_eq_getD_getElem?] at f11
                    show Oper.wp _ _ _ _ _ _
                    unfold Oper.wp
                    simp only [execOp]
                    go_simp
                    exact ⟨_, rfl, rfl, Below.refl _ _⟩
                  · intro a u hR hF hD
                    have hR1 := below_undrew hR
                    have f12 : a.eval (.tmp 12) = .int .i64 (k : Int) := hF 12 (by kernel_rfl)
                    simp only [Act.eval, Array.getD_eq_getD_getElem?] at f12
                    show Oper.wp _ _ _ _ _ _
                    unfold Oper.wp
                    simp only [execOp]
                    go_simp
                    exact ⟨_, rfl, rfl, Below.refl _ _⟩
                  · intro a u hR hF hD
                    have hR1 := below_undrew hR
                    have d78 : a.eval (.tmp 78) = .slice (some ⟨b, o, none⟩) Lm cm := hD 8 (by kernel_rfl)
                    have d79 : a.eval (.tmp 79) = .int .i64 (k : Int) := hD 9 (by kernel_rfl)
                    simp only [Act.eval, Array.getD_eq_getD_getElem?] at d78 d79
                    show Oper.wp _ _ _ _ _ _
                    unfold Oper.wp
                    simp only [execOp]
                    go_simp
                    exact ⟨_, rfl, rfl, Below.refl _ _⟩
                  · intro a u hR hF hD
                    have hR1 := below_undrew hR
                    have d80 : a.eval (.tmp 80) = .pointer (some ⟨b, o + k * 2, none⟩) := hD 10 (by kernel_rfl)
                    simp only [Act.eval, Array.getD_eq_getD_getElem?] at d80
                    show Oper.wp _ _ _ _ _ _
                    unfold Oper.wp
                    simp only [execOp]
                    go_simp
                    exact ⟨_, rfl, rfl, Below.refl _ _⟩
                  · intro a u hR hF hD
                    have hR1 := below_undrew hR
                    have d81 : a.eval (.tmp 81) = .pointer (some ⟨b, o + k * 2, none⟩) := hD 11 (by kernel_rfl)
                    simp only [Act.eval, Array.getD_eq_getD_getElem?] at d81
                    have kz0 := (hR1.cell (block_lt_of_cell z0)).trans z0
                    show Oper.wp _ _ _ _ _ _
                    unfold Oper.wp
                    simp only [execOp]
                    go_simp
                    exact ⟨_, rfl, rfl, Below.refl _ _⟩
                  · intro a u hR hF hD
                    have hR1 := below_undrew hR
                    have f7 : a.eval (.tmp 7) = .int .i64 (i : Int) := hF 7 (by kernel_rfl)
                    simp only [Act.eval, Array.getD_eq_getD_getElem?] at f7
                    show Oper.wp _ _ _ _ _ _
                    unfold Oper.wp
                    simp only [execOp]
                    go_simp
                    exact ⟨_, rfl, rfl, Below.refl _ _⟩
                  · intro a u hR hF hD
                    have hR1 := below_undrew hR
                    have d82 : a.eval (.tmp 82) = .int .i64 x.1 := hD 12 (by kernel_rfl)
                    have d83 : a.eval (.tmp 83) = .int .i64 (i : Int) := hD 13 (by kernel_rfl)
                    have h7 : RwT u (a.eval (.tmp 77)) (outG gc x.2 1) := hD 7 (by kernel_rfl)
                    obtain ⟨a7, c7, g77⟩ := h7.shape
                    rw [g77] at h7
                    simp only [Act.eval, Array.getD_eq_getD_getElem?] at d82 d83 g77
                    show Oper.wp _ _ _ _ _ _
                    unfold Oper.wp
                    simp only [execOp]
                    go_simp
                    (with_reducible refine (has_any _ _ x.1 (i : Int) u h7).mono ?_); rintro e u2 ⟨rfl, hb2⟩; rw [HTB.out]
                    exact ⟨_, rfl, rfl, hb2⟩
                  · intro a u hR hF hD
                    have hR1 := below_undrew hR
                    have d84 : a.eval (.tmp 84) = .bool true := hD 14 (by kernel_rfl)
                    simp only [Act.eval, Array.getD_eq_getD_getElem?] at d84
                    show Oper.wp _ _ _ _ _ _
                    unfold Oper.wp
                    simp only [execOp]
                    go_simp
                    exact ⟨_, rfl, rfl, Below.refl _ _⟩
                · intro vs u hv hR
                  have e15 : vs 15 = .bool false := hv 15 (by decide)
                  have hR1 := below_undrew hR
                  simp only [putAll, List.take, List.drop, Act.put, List.setIfInBounds_toArray, List.set_cons_succ, List.set_cons_zero, Nat.zero_add, Nat.reduceAdd]
                  rw [e15]
                  generalize vs 0 = t0
                  generalize vs 1 = t1
                  generalize vs 2 = t2
                  generalize vs 3 = t3
                  generalize vs 4 = t4
                  generalize vs 5 = t5
                  generalize vs 6 = t6
                  generalize vs 7 = t7
                  generalize vs 8 = t8
                  generalize vs 9 = t9
                  generalize vs 10 = t10
                  generalize vs 11 = t11
                  generalize vs 12 = t12
                  generalize vs 13 = t13
                  generalize vs 14 = t14
                  clear hv e15 hR
                  go_wp2_with fail
                  go_roundg (Lm - (k + 1))
                  case rel => exact ⟨k + 1, by omega, by go_num, Below.chain HBk.out hR1⟩
                  case measure => omega
              · obtain rfl : Lm = k := by omega
                have kk : ¬ ((Lm : Int) < (Lm : Int)) := by omega
                go_wp2_with fail
                go_roundg 0
                case rel => exact ⟨3, rfl, rfl, by (have ea : accA k1 k2 Lm 3 = accA k1 k2 Lm 2 + Lm := by simp [accA]); (have eb : accA k1 k2 Lm 2 ≤ 100 := by simp only [accA]; omega); rw [ea]; generalize accA k1 k2 Lm 2 = ax at *; rw [IntWalk.wrap64_in _ ⟨by omega, by omega⟩]; exact congrArg (Value.int IntKind.i64) (by omega), Below.chain HB2.out HBk.out⟩
                case measure => omega
          · have hA : accA k1 k2 k4 3 = L8 + (l.map (lpW gc)).sum := by rw [← HCN.out]; rfl
            have hA2 : accA k1 k2 k4 3 ≤ 150 := by simp only [accA]; omega
            generalize accA k1 k2 k4 3 = A at *
            have HA := Lib.hid hA
            have HZx := Lib.hid (HZd.out.keep (Below.chain HB1.out HBd1.out))
            have HVx := Lib.hid (HV1.out.keep HBd1.out)
            have HBx := Lib.hid (Below.chain HB1.out HBd1.out)
            have HOx := Lib.hid (HOl.out.keep HBd1.out)
            clear hA HBd1 HB1 HV1 HOl HI1 HId
            generalize wr = wX at *
            go_wp2_with fail
            go_loopg [6, 9, 14] L8 (fun gg s6 s9 s14 wr => ∃ k N M : Nat, gg + k = L8 ∧ s14 = .int .i64 k ∧ s6 = .int .i64 ((Si + N : Nat) : Int) ∧ s9 = .int .i64 (M : Int) ∧ N = ((l.take k).map (wtW gc)).sum ∧ M + ((l.take k).map (lpW gc)).sum = A ∧ Below wX.heap.size wX wr)
            case atStart => exact ⟨0, 0, A, rfl, rfl, rfl, rfl, rfl, rfl, Below.refl _ _⟩
            case round =>
              obtain ⟨k, N, M, hgk, rfl, rfl, rfl, hN, hM, hbk⟩ := hrel
              have HBk := Lib.hid hbk
              have HVk := Lib.hid (HVx.out.keep hbk)
              have hNb : N ≤ 2 * k := by
                rw [hN]
                refine Nat.le_trans (sum_take_le _ 2 (wtW_le gc) _) ?_
                rw [List.length_take]
                omega
              have hMA : M ≤ A := by omega
              have HN := Lib.hid hN
              have HMM := Lib.hid hM
              clear hbk hN hM
              by_cases hkL : k < L8
              · have kk : (k : Int) < (L8 : Int) := by omega
                have hk : k < l.length := by rw [HLl.out]; exact hkL
                obtain ⟨b, o, rfl, z0, z1⟩ := steps_at (HOx.out.keep HBk.out) k hk
                have hprev : ∀ j, k = j + 1 → ∃ y : Int, wr.cell? ⟨b, o + j * 2, none⟩ = some (.int .i64 y) ∧ y < l[k].1 := by
                  intro j hj
                  obtain ⟨b', o', e', z', -⟩ := steps_at (HOx.out.keep HBk.out) j (by omega)
                  cases e'
                  exact ⟨_, z', (List.pairwise_iff_getElem.1 HPW.out) j k (by omega) hk (by omega)⟩
                obtain ⟨e, he, hem, hx1, hft⟩ := HED.out _ (List.getElem_mem hk)
                have hN1 := sum_take (wtW gc) l k hk
                have hM1 := sum_take (lpW gc) l k hk
                have hM2 := sum_take_mono (lpW gc) l (k + 1)
                have hw1 : wtW gc l[k] = if gc.edges[e].fro = gc.edges[e].to then 2 else 1 := by
                  unfold wtW; rw [hx1, Int.toNat_natCast, getElem!_pos gc.edges e he]
                have hw2 : lpW gc l[k] = if gc.edges[e].fro = gc.edges[e].to ∧ gc.edges[e].dir = true then 1 else 0 := by
                  unfold lpW; rw [hx1, Int.toNat_natCast, getElem!_pos gc.edges e he]
                rw [hw1, ← HN.out] at hN1
                rw [hw2] at hM1
                rw [hx1] at z0 hprev
                clear z1 hw1 hw2 hx1
                obtain ⟨-, ⟨ys, hy, hyk⟩, -⟩ := HZx.out.keep HBk.out
                dsimp only [Sl.v] at hy
                have he2 : e < ys.length := by rw [← hyk.1]; exact he
                obtain ⟨b2, o2, rfl, hc⟩ := RwD.at hy e he2
                obtain ⟨g0, g1, g2, g3, g4, g5⟩ := hc e he2
                obtain ⟨-, d1, d2, d3, -⟩ := hyk.2 e he he2
                rw [d1] at g1
                rw [d2] at g2
                rw [d3] at g3
                have hen : e < n2 := hem
                have hen' : (e : Int) < (n2 : Int) := by omega
                generalize gc.edges[e].fro = f at *
                generalize gc.edges[e].to = t at *
                generalize gc.edges[e].dir = d at *
                generalize ys[e].name = nm at *
                generalize ys[e].l = sl at *
                generalize ys[e].p = pl at *
                obtain ⟨sa, sn, sc⟩ := sl
                obtain ⟨pa, pn, pc⟩ := pl
                dsimp only [Sl.v] at g4 g5
                clear hy hyk hc he2 d1 d2 d3 hem he
                have HPV := Lib.hid hprev
                have HN1 := Lib.hid hN1
                have HM1 := Lib.hid hM1
                have HM2 := Lib.hid hM2
                have HFT := Lib.hid hft
                clear hprev hN1 hM1 hM2 hft hk
                go_wp2_with fail
                refine wp_region_facts 10 (VS wr.heap.size w.heap.size ⟨b2, o2, none⟩ n2 c2 ⟨b, o, none⟩ L8 lc k ⟨b, o + k * 2, none⟩ e ⟨b2, o2 + e * 6, none⟩ (.agg #[.string nm, .int .i64 f, .int .i64 t, .bool d, .slice sa sn sc, .slice pa pn pc])) (fun a b => Below a.heap.size a b) (by kernel_rfl) (by decide) (by kernel_rfl) (by kernel_rfl) (fun a => Below.refl _ _) (fun a b c => Below.chain) VS.keep ?_ ?_
                · refine ⟨?_, ?_, ?_, ?_, ?_, ?_, ?_, ?_, ?_, ?_, trivial⟩
                  · intro a u hR hF hD
                    have hR1 := below_undrew hR
                    have f1 : a.eval (.tmp 1) = .pointer (some ⟨w.heap.size, 0, none⟩) := hF 1 (by kernel_rfl)
                    simp only [Act.eval, Array.getD_eq_getD_getElem?] at f1
                    show Oper.wp _ _ _ _ _ _
                    unfold Oper.wp
                    simp only [execOp]
                    go_simp
                    exact ⟨_, rfl, rfl, Below.refl _ _⟩
                  · intro a u hR hF hD
                    have hR1 := below_undrew hR
                    have d92 : a.eval (.tmp 92) = .pointer (some ⟨w.heap.size, 1, none⟩) := hD 0 (by kernel_rfl)
                    simp only [Act.eval, Array.getD_eq_getD_getElem?] at d92
                    have y1 := (HVk.out.keep hR1).cell 1
                    simp only [List.getElem?_toArray, List.getElem?_cons_zero, List.getElem?_cons_succ] at y1
                    show Oper.wp _ _ _ _ _ _
                    unfold Oper.wp
                    simp only [execOp]
                    go_simp
                    exact ⟨_, rfl, rfl, Below.refl _ _⟩
                  · intro a u hR hF hD
                    have hR1 := below_undrew hR
                    have f8 : a.eval (.tmp 8) = .slice (some ⟨b, o, none⟩) L8 lc := hF 8 (by kernel_rfl)
                    simp only [Act.eval, Array.getD_eq_getD_getElem?] at f8
                    show Oper.wp _ _ _ _ _ _
                    unfold Oper.wp
                    simp only [execOp]
                    go_simp
                    exact ⟨_, rfl, rfl, Below.refl _ _⟩
                  · intro a u hR hF hD
                    have hR1 := below_undrew hR
                    have f14 : a.eval (.tmp 14) = .int .i64 (k : Int) := hF 14 (by kernel_rfl)
                    simp only [Act.eval, Array.getD_eq_getD_getElem?] at f14
                    show Oper.wp _ _ _ _ _ _
                    unfold Oper.wp
                    simp only [execOp]
                    go_simp
                    exact ⟨_, rfl, rfl, Below.refl _ _⟩
                  · intro a u hR hF hD
                    have hR1 := below_undrew hR
                    have d94 : a.eval (.tmp 94) = .slice (some ⟨b, o, none⟩) L8 lc := hD 2 (by kernel_rfl)
                    have d95 : a.eval (.tmp 95) = .int .i64 (k : Int) := hD 3 (by kernel_rfl)
                    simp only [Act.eval, Array.getD_eq_getD_getElem?] at d94 d95
                    show Oper.wp _ _ _ _ _ _
                    unfold Oper.wp
                    simp only [execOp]
                    go_simp
                    exact ⟨_, rfl, rfl, Below.refl _ _⟩
                  · intro a u hR hF hD
                    have hR1 := below_undrew hR
                    have d96 : a.eval (.tmp 96) = .pointer (some ⟨b, o + k * 2, none⟩) := hD 4 (by kernel_rfl)
                    simp only [Act.eval, Array.getD_eq_getD_getElem?] at d96
                    show Oper.wp _ _ _ _ _ _
                    unfold Oper.wp
                    simp only [execOp]
                    go_simp
                    exact ⟨_, rfl, rfl, Below.refl _ _⟩
                  · intro a u hR hF hD
                    have hR1 := below_undrew hR
                    have d97 : a.eval (.tmp 97) = .pointer (some ⟨b, o + k * 2, none⟩) := hD 5 (by kernel_rfl)
                    simp only [Act.eval, Array.getD_eq_getD_getElem?] at d97
                    have kz0 := (hR1.cell (block_lt_of_cell z0)).trans z0
                    show Oper.wp _ _ _ _ _ _
                    unfold Oper.wp
                    simp only [execOp]
                    go_simp
                    exact ⟨_, rfl, rfl, Below.refl _ _⟩
                  · intro a u hR hF hD
                    have hR1 := below_undrew hR
                    have d93 : a.eval (.tmp 93) = .slice (some ⟨b2, o2, none⟩) n2 c2 := hD 1 (by kernel_rfl)
                    have d98 : a.eval (.tmp 98) = .int .i64 (e : Int) := hD 6 (by kernel_rfl)
                    simp only [Act.eval, Array.getD_eq_getD_getElem?] at d93 d98
                    show Oper.wp _ _ _ _ _ _
                    unfold Oper.wp
                    simp only [execOp]
                    go_simp
                    exact ⟨_, rfl, rfl, Below.refl _ _⟩
                  · intro a u hR hF hD
                    have hR1 := below_undrew hR
                    have d99 : a.eval (.tmp 99) = .pointer (some ⟨b2, o2 + e * 6, none⟩) := hD 7 (by kernel_rfl)
                    simp only [Act.eval, Array.getD_eq_getD_getElem?] at d99
                    have kg0 := (hR1.cell (block_lt_of_cell g0)).trans g0
                    have kg1 := (hR1.cell (block_lt_of_cell g1)).trans g1
                    have kg2 := (hR1.cell (block_lt_of_cell g2)).trans g2
                    have kg3 := (hR1.cell (block_lt_of_cell g3)).trans g3
                    have kg4 := (hR1.cell (block_lt_of_cell g4)).trans g4
                    have kg5 := (hR1.cell (block_lt_of_cell g5)).trans g5
                    show Oper.wp _ _ _ _ _ _
                    unfold Oper.wp
                    simp only [execOp]
                    go_simp
                    exact ⟨_, rfl, rfl, Below.refl _ _⟩
                  · intro a u hR hF hD
                    have hR1 := below_undrew hR
                    show Oper.wp _ _ _ _ _ _
                    unfold Oper.wp
                    simp only [execOp]
                    go_simp
                    exact ⟨_, rfl, ⟨_, rfl, hR1.size, Vr.new _ _ _⟩, below_a1 _ _⟩
                · intro vs u hv hR
                  have hR1 := below_undrew hR
                  have e8 : vs 8 = .agg #[.string nm, .int .i64 f, .int .i64 t, .bool d, .slice sa sn sc, .slice pa pn pc] := hv 8 (by decide)
                  obtain ⟨c, e9, hwc, hvc⟩ : ∃ c, vs 9 = .pointer (some ⟨c, 0, none⟩) ∧ wr.heap.size ≤ c ∧ Vr u c 45 #[.string ⟨#[]⟩, .int .i64 0, .int .i64 0, .bool false, .slice none 0 0, .slice none 0 0] := hv 9 (by decide)
                  simp only [putAll, List.take, List.drop, Act.put, List.setIfInBounds_toArray, List.set_cons_succ, List.set_cons_zero, Nat.zero_add, Nat.reduceAdd]
                  rw [e8, e9]
                  generalize vs 0 = t0
                  generalize vs 1 = t1
                  generalize vs 2 = t2
                  generalize vs 3 = t3
                  generalize vs 4 = t4
                  generalize vs 5 = t5
                  generalize vs 6 = t6
                  generalize vs 7 = t7
                  clear hv e8 e9 hR
                  have X1 := Lib.hid (hvc.set #[.string nm, .int .i64 f, .int .i64 t, .bool d, .slice sa sn sc, .slice pa pn pc])
                  have X4 := Lib.hid (below_setRow hR1 hwc #[.string nm, .int .i64 f, .int .i64 t, .bool d, .slice sa sn sc, .slice pa pn pc])
                  refine wpList_store_row rfl _ _ _ rfl c #[.string nm, .int .i64 f, .int .i64 t, .bool d, .slice sa sn sc, .slice pa pn pc] (by simp [Act.eval]) (by simp [Act.eval]) 45 _ hvc (by kernel_rfl) rfl (by simp [Value.oneCell']) ?_
                  generalize u.setRow c #[.string nm, .int .i64 f, .int .i64 t, .bool d, .slice sa sn sc, .slice pa pn pc] = W2 at *
                  clear hvc hR1 u
                  have v1 := X1.out.cell 1
                  have v2 := X1.out.cell 2
                  have v3 := X1.out.cell 3
                  simp only [List.getElem?_toArray, List.getElem?_cons_zero, List.getElem?_cons_succ] at v1 v2 v3
                  have kz0 := (X4.out.cell (block_lt_of_cell z0)).trans z0
                  have HBW := Lib.hid (Below.chain HBk.out X4.out)
                  clear g0 g1 g2 g3 g4 g5 z0
                  have hft := HFT.out
                  have hN1 := HN1.out
                  have hM1 := HM1.out
                  have hM2 := HM2.out
                  have hMM := HMM.out
                  have hA := HA.out
                  have HI : (i : Int) < 51 := by omega
                  rcases Nat.eq_zero_or_pos k with hk0 | hk0
                  · subst hk0
                    by_cases hf : f = i
                    · by_cases ht : t = i
                      · cases d
                        · have e1 : (f == t) = true := by simp [hf, ht]
                          have e2 : (f != (i : Int)) = false := by simp [hf]
                          have e2t : (t != (i : Int)) = false := by simp [ht]
                          rw [if_pos (hf.trans ht.symm)] at hN1
                          rw [if_neg (by simp)] at hM1
                          clear hf ht
                          go_wp2_with fail
                          go_quiet (fail)
                          all_goals
                            go_wp2_with fail
                            go_roundg (L8 - (0 + 1))
                            case rel => exact ⟨0 + 1, N + 2, M, by omega, by go_num, by first | rfl | (refine congrArg (Value.int IntKind.i64) ?_; omega), by first | rfl | (refine congrArg (Value.int IntKind.i64) ?_; omega), by omega, by omega, by first | exact HBW.out | exact below_drewN HBW.out _⟩
                            case measure => omega
                        · have e1 : (f == t) = true := by simp [hf, ht]
                          have e2 : (f != (i : Int)) = false := by simp [hf]
                          have e2t : (t != (i : Int)) = false := by simp [ht]
                          rw [if_pos (hf.trans ht.symm)] at hN1
                          rw [if_pos ⟨hf.trans ht.symm, rfl⟩] at hM1
                          clear hf ht
                          go_wp2_with fail
                          go_quiet (fail)
                          all_goals
                            go_wp2_with fail
                            go_roundg (L8 - (0 + 1))
                            case rel => exact ⟨0 + 1, N + 2, M - 1, by omega, by go_num, by first | rfl | (refine congrArg (Value.int IntKind.i64) ?_; omega), by first | rfl | (refine congrArg (Value.int IntKind.i64) ?_; omega), by omega, by omega, by first | exact HBW.out | exact below_drewN HBW.out _⟩
                            case measure => omega
                      · have hne : ¬ f = t := fun h => ht (h.symm.trans hf)
                        have e1 : (f == t) = false := by simp [hne]
                        have e2 : (f != (i : Int)) = false := by simp [hf]
                        rw [if_neg hne] at hN1
                        rw [if_neg (fun h => hne h.1)] at hM1
                        clear hf ht hne
                        go_wp2_with fail
                        go_quiet (fail)
                        all_goals
                          go_wp2_with fail
                          go_roundg (L8 - (0 + 1))
                          case rel => exact ⟨0 + 1, N + 1, M, by omega, by go_num, by first | rfl | (refine congrArg (Value.int IntKind.i64) ?_; omega), by first | rfl | (refine congrArg (Value.int IntKind.i64) ?_; omega), by omega, by omega, by first | exact HBW.out | exact below_drewN HBW.out _⟩
                          case measure => omega
                    · have ht : t = i := hft.resolve_left hf
                      have hne : ¬ f = t := fun h => hf (h.trans ht)
                      have e1 : (f == t) = false := by simp [hne]
                      have e2 : (f != (i : Int)) = true := by simp [hf]
                      have e2t : (t != (i : Int)) = false := by simp [ht]
                      rw [if_neg hne] at hN1
                      rw [if_neg (fun h => hne h.1)] at hM1
                      clear hf ht hne
                      go_wp2_with fail
                      go_quiet (fail)
                      all_goals
                        go_wp2_with fail
                        go_roundg (L8 - (0 + 1))
                        case rel => exact ⟨0 + 1, N + 1, M, by omega, by go_num, by first | rfl | (refine congrArg (Value.int IntKind.i64) ?_; omega), by first | rfl | (refine congrArg (Value.int IntKind.i64) ?_; omega), by omega, by omega, by first | exact HBW.out | exact below_drewN HBW.out _⟩
                        case measure => omega
                  · obtain ⟨j, rfl⟩ : ∃ j, k = j + 1 := ⟨k - 1, by omega⟩
                    obtain ⟨y, zy, hye⟩ := HPV.out j rfl
                    have kzy := (X4.out.cell (block_lt_of_cell zy)).trans zy
                    have hge : ¬ ((e : Int) ≤ y) := by omega
                    have kp : (0 : Int) < (j : Int) + 1 := by omega
                    have kp2 : (0 : Int) < ((j + 1 : Nat) : Int) := by omega
                    have jj : (j : Int) < (L8 : Int) := by omega
                    clear zy
                    by_cases hf : f = i
                    · by_cases ht : t = i
                      · cases d
                        · have e1 : (f == t) = true := by simp [hf, ht]
                          have e2 : (f != (i : Int)) = false := by simp [hf]
                          have e2t : (t != (i : Int)) = false := by simp [ht]
                          rw [if_pos (hf.trans ht.symm)] at hN1
                          rw [if_neg (by simp)] at hM1
                          clear hf ht
                          go_wp2_with fail
                          go_quiet (fail)
                          all_goals
                            go_wp2_with fail
                            go_roundg (L8 - ((j + 1) + 1))
                            case rel => exact ⟨(j + 1) + 1, N + 2, M, by omega, by go_num, by first | rfl | (refine congrArg (Value.int IntKind.i64) ?_; omega), by first | rfl | (refine congrArg (Value.int IntKind.i64) ?_; omega), by omega, by omega, by first | exact HBW.out | exact below_drewN HBW.out _⟩
                            case measure => omega
                        · have e1 : (f == t) = true := by simp [hf, ht]
                          have e2 : (f != (i : Int)) = false := by simp [hf]
                          have e2t : (t != (i : Int)) = false := by simp [ht]
                          rw [if_pos (hf.trans ht.symm)] at hN1
                          rw [if_pos ⟨hf.trans ht.symm, rfl⟩] at hM1
                          clear hf ht
                          go_wp2_with fail
                          go_quiet (fail)
                          all_goals
                            go_wp2_with fail
                            go_roundg (L8 - ((j + 1) + 1))
                            case rel => exact ⟨(j + 1) + 1, N + 2, M - 1, by omega, by go_num, by first | rfl | (refine congrArg (Value.int IntKind.i64) ?_; omega), by first | rfl | (refine congrArg (Value.int IntKind.i64) ?_; omega), by omega, by omega, by first | exact HBW.out | exact below_drewN HBW.out _⟩
                            case measure => omega
                      · have hne : ¬ f = t := fun h => ht (h.symm.trans hf)
                        have e1 : (f == t) = false := by simp [hne]
                        have e2 : (f != (i : Int)) = false := by simp [hf]
                        rw [if_neg hne] at hN1
                        rw [if_neg (fun h => hne h.1)] at hM1
                        clear hf ht hne
                        go_wp2_with fail
                        go_quiet (fail)
                        all_goals
                          go_wp2_with fail
                          go_roundg (L8 - ((j + 1) + 1))
                          case rel => exact ⟨(j + 1) + 1, N + 1, M, by omega, by go_num, by first | rfl | (refine congrArg (Value.int IntKind.i64) ?_; omega), by first | rfl | (refine congrArg (Value.int IntKind.i64) ?_; omega), by omega, by omega, by first | exact HBW.out | exact below_drewN HBW.out _⟩
                          case measure => omega
                    · have ht : t = i := hft.resolve_left hf
                      have hne : ¬ f = t := fun h => hf (h.trans ht)
                      have e1 : (f == t) = false := by simp [hne]
                      have e2 : (f != (i : Int)) = true := by simp [hf]
                      have e2t : (t != (i : Int)) = false := by simp [ht]
                      rw [if_neg hne] at hN1
                      rw [if_neg (fun h => hne h.1)] at hM1
                      clear hf ht hne
                      go_wp2_with fail
                      go_quiet (fail)
                      all_goals
                        go_wp2_with fail
                        go_roundg (L8 - ((j + 1) + 1))
                        case rel => exact ⟨(j + 1) + 1, N + 1, M, by omega, by go_num, by first | rfl | (refine congrArg (Value.int IntKind.i64) ?_; omega), by first | rfl | (refine congrArg (Value.int IntKind.i64) ?_; omega), by omega, by omega, by first | exact HBW.out | exact below_drewN HBW.out _⟩
                        case measure => omega
              · obtain rfl : L8 = k := by omega
                have kk : ¬ ((L8 : Int) < (L8 : Int)) := by omega
                have ht : l.take L8 = l := List.take_of_length_le (by rw [HLl.out]; exact Nat.le_refl _)
                have hML : M = L8 := by have h1 := HMM.out; have h2 := HA.out; rw [ht] at h1; omega
                have hNL : sumR (turnW gc n2) (i + 1) = Si + N := by rw [HSN.out, HTW.out, HN.out, ht]
                subst hML
                have ee : ((M : Int) != (M : Int)) = false := by simp
                have HNL := Lib.hid hNL
                clear ht hNL
                go_wp2_with fail
                go_roundg (n1 - (i + 1))
                case rel => exact ⟨i + 1, by omega, by go_num, by rw [HNL.out]; exact congrArg (Value.int IntKind.i64) (by omega), Below.chain HBx.out HBk.out⟩
                case measure => omega
      · obtain rfl : n1 = i := by omega
        have ii : ¬ ((n1 : Int) < (n1 : Int)) := by omega
        have hs := sum_turn HR0.out n2 (by rw [HL2.out]; exact Nat.le_refl _)
        rw [HL1.out] at hs
        rw [hs]
        have hc : (((2 * n2 : Nat) : Int) == 2 * (n2 : Int)) = true := by simp
        go_wp2_with fail
        go_ret
        exact ⟨by simp, HBd.out.trans (HBr.out.mono HBd.out.size)⟩
  · have hr' : (rightG gc != 0) = true := by simpa using hr
    have q0 := HVd.out.cell 0
    have q1 := HVd.out.cell 1
    simp only [List.getElem?_toArray, List.getElem?_cons_zero, List.getElem?_cons_succ] at q0 q1
    go_wp2_with fail
    have CR := right7_any HZd.out
    dsimp only [gv, Sl.v] at CR
    (with_reducible refine CR.mono ?_); clear CR; rintro e wE ⟨rfl, hbE⟩
    go_wp2_with fail
    go_ret
    exact ⟨by simp, HBd.out.trans (hbE.mono HBd.out.size)⟩
end Go.Proofs.Ytmfjcphjncgigaa.GraphTurns
