import Derived.Test.YtmfjcphjncgigaaVGraphProps
import Derived.Test.YtmfjcphjncgigaaHK
import Derived.BigQuiet
namespace Go.Proofs.Ytmfjcphjncgigaa.GraphFlat
open Go.ChangeShapes Go.WideShapes Go.ChangeAt Go.RowKit
set_option linter.unusedVariables false
def flX (y : Dx) : Dx := ⟨y.name, y.fro, y.to, false, y.l, y.p⟩
theorem vr_other {w : World} {b : Nat} {e : TypeId} {cs : Array Value} (h : Vr w b e cs) {a : Addr} (ha : a.block ≠ b) (u : Value) : Vr (w.setCell a u) b e cs := by
  have hb : w.heap[b]? = some (.cells cs e (0, 0)) := h
  show (w.setCell a u).heap[b]? = _
  unfold World.setCell
  rw [Array.getElem?_modify, if_neg ha]
  exact hb
theorem one_edge (w : World) (y : Dx) (b : Nat) (hb : b = w.heap.size) : RwD (w.alloc (.cells #[.string y.name, .int .i64 y.fro, .int .i64 y.to, .bool y.dir, y.l.v, y.p.v] 45)) (.slice (some ⟨b, 0, none⟩) 1 1) [y] := by
  subst hb
  exact (Ow.lit (E := encD) (e := 45) w 0 [y] (Nat.zero_le _) (by simp) _ rfl).rw
def bkX (y : Dx) : Dx := ⟨y.name, y.to, y.fro, y.dir, y.l, y.p⟩
theorem ds_flat {w : World} {l : List Ed} {ys : List Dx} (h : Ds w l ys) : Ds w (l.map flE) (ys.map flX) := by
  refine ⟨by rw [List.length_map, List.length_map]; exact h.1, fun i hi hi' => ?_⟩
  rw [List.getElem_map, List.getElem_map]
  obtain ⟨e1, e2, e3, e4, e5, e6, e7⟩ := h.2 i (by simpa using hi) (by simpa using hi')
  exact ⟨e1, e2, e3, rfl, e5, e6, e7⟩
theorem ds_back {w : World} {l : List Ed} {ys : List Dx} (h : Ds w l ys) : Ds w (l.map bkE) (ys.map bkX) := by
  refine ⟨by rw [List.length_map, List.length_map]; exact h.1, fun i hi hi' => ?_⟩
  rw [List.getElem_map, List.getElem_map]
  obtain ⟨e1, e2, e3, e4, e5, e6, e7⟩ := h.2 i (by simpa using hi) (by simpa using hi')
  exact ⟨e1, e3, e2, e4, e6, e5, e7⟩
set_option maxRecDepth 100000 in
set_option maxHeartbeats 4000000 in
theorem walk (g : Gd) (x : Gx) (w : World) (h : Gz w g x) :
    Calls Try.prog 7 #[gv x] w fun e w' => e = .returned (.bool true) ∧ Below w.heap.size w w' := by
  obtain ⟨⟨ao, L, cap⟩, ⟨bo, M, cbp⟩⟩ := x
  have VG := Lib.hid (Vr.new w 25 #[.slice ao L cap, .slice bo M cbp])
  have HB := Lib.hid (below_a1 w (.cells #[.slice ao L cap, .slice bo M cbp] 25))
  have HZ := Lib.hid (h.keep HB.out)
  clear h
  dsimp only [gv, Sl.v] at HZ ⊢
  go_enter Try.func7, Try.ntmps7
  go_wp2_with fail
  (with_reducible refine (shown7_any _).mono ?_); rintro e wA ⟨rfl, hbA⟩
  have VGa := VG.out.keep hbA
  have HBa := Lib.hid (Below.chain HB.out hbA)
  have HZa := Lib.hid (HZ.out.keep hbA)
  have q0 := VGa.cell 0
  have q1 := VGa.cell 1
  simp only [List.getElem?_toArray, List.getElem?_cons_zero, List.getElem?_cons_succ] at q0 q1
  have HVa := Lib.hid VGa
  clear VGa VG HB HZ hbA
  go_wp2_with fail
  have CF := few_any HZa.out
  dsimp only [gv, Sl.v] at CF
  (with_reducible refine CF.mono ?_); rintro e wB ⟨y, rfl, hy, hbB⟩
  have HgN := Lib.hid (cutG_nodes g)
  have HgM := Lib.hid (cutG_edges g)
  clear CF q0 q1 HZa
  generalize cutG g = gc at *
  obtain ⟨⟨a1, n1, c1⟩, ⟨a2, n2, c2⟩⟩ := y
  have hn1 : gc.nodes.length = n1 := by obtain ⟨⟨xs, h1, h2⟩, -⟩ := hy; exact h2.1.trans h1.hd.1
  have hn2 : gc.edges.length = n2 := by obtain ⟨-, ⟨xs, h1, h2⟩, -⟩ := hy; exact h2.1.trans h1.hd.1
  have m1 : n1 ≤ 50 := by rw [← hn1]; exact HgN.out
  have m2 : n2 ≤ 50 := by rw [← hn2]; exact HgM.out
  have HL1 := Lib.hid hn1
  have HL2 := Lib.hid hn2
  clear hn1 hn2 HgN HgM
  have VGb := HVa.out.keep hbB
  have HBb := Lib.hid (Below.chain HBa.out hbB)
  have HS := Lib.hid (gz_other hy VGb ⟨a1, n1, c1⟩ ⟨a2, n2, c2⟩)
  have q0 := VGb.cell 0
  have q1 := VGb.cell 1
  simp only [List.getElem?_toArray, List.getElem?_cons_zero, List.getElem?_cons_succ] at q0 q1
  have t0 := VGb.thaw 0
  have t1 := VGb.thaw 1
  have HVs := Lib.hid (vr_set2 VGb (.slice a1 n1 c1) (.slice a2 n2 c2))
  have HBs := Lib.hid ((HBb.out.setCell (p := ⟨w.heap.size, 0, none⟩) (Nat.le_refl _) (.slice a1 n1 c1)).setCell (p := ⟨w.heap.size, 1, none⟩) (Nat.le_refl _) (.slice a2 n2 c2))
  dsimp only [gv, Sl.v] at HS HVs HBs ⊢
  clear hy hbB VGb HBa HBb HVa
  go_wp2_with fail
  clear q0 q1 t0 t1
  generalize (wB.setCell ⟨w.heap.size, 0, none⟩ (.slice a1 n1 c1)).setCell ⟨w.heap.size, 1, none⟩ (.slice a2 n2 c2) = wC at *
  have q0 := HVs.out.cell 0
  have q1 := HVs.out.cell 1
  simp only [List.getElem?_toArray, List.getElem?_cons_zero, List.getElem?_cons_succ] at q0 q1
  go_wp2_with fail
  have CN := new7_any HS.out
  dsimp only [gv, Sl.v] at CN
  (with_reducible refine CN.mono ?_); clear CN; rintro e wD ⟨hND, hbD⟩
  have HVd := Lib.hid (HVs.out.keep hbD)
  have HBd := Lib.hid (HBs.out.trans (hbD.mono HBs.out.size))
  have HZd := Lib.hid (HS.out.keep hbD)
  clear hbD HVs HBs HS q0 q1
  rcases hND with ⟨hr, p, rfl, hx⟩ | ⟨hr, rfl⟩
  · have HR0 := Lib.hid hr
    have HIx := Lib.hid hx
    have HM : Hid (gc.edges.length ≤ 1000) := Lib.hid (by rw [HL2.out]; omega)
    clear hr hx
    have q0 := HVd.out.cell 0
    have q1 := HVd.out.cell 1
    simp only [List.getElem?_toArray, List.getElem?_cons_zero, List.getElem?_cons_succ] at q0 q1
    have hb0 : w.heap.size < wD.heap.size := HVd.out.lt
    have HV6 := Lib.hid ((Vr.new wD 25 #[.slice a1 n1 c1, .slice none 0 0]).al (o := .cells #[.slice a1 n1 c1, .slice none 0 0] 25))
    have HV7 := Lib.hid (Vr.at' (wD.alloc (.cells #[.slice a1 n1 c1, .slice none 0 0] 25)) 25 #[.slice a1 n1 c1, .slice none 0 0] (wD.heap.size + 1) (by simp))
    have HBE := Lib.hid (below_a2 wD (.cells #[.slice a1 n1 c1, .slice none 0 0] 25) (.cells #[.slice a1 n1 c1, .slice none 0 0] 25))
    have HSE := Lib.hid (show ((wD.alloc (.cells #[.slice a1 n1 c1, .slice none 0 0] 25)).alloc (.cells #[.slice a1 n1 c1, .slice none 0 0] 25)).heap.size = wD.heap.size + 2 by simp)
    obtain ⟨-, ⟨ys, hy, hyk⟩, -⟩ := HZd.out
    dsimp only [Sl.v] at hy
    have HY := Lib.hid hy
    have HYK := Lib.hid hyk
    have HYL : Hid (ys.length = n2) := Lib.hid (by rw [← hyk.1]; exact HL2.out)
    clear hy hyk
    go_wp2_with fail
    generalize (wD.alloc (.cells #[.slice a1 n1 c1, .slice none 0 0] 25)).alloc (.cells #[.slice a1 n1 c1, .slice none 0 0] 25) = wE at *
    clear q0 q1
    go_loopg [8] n2 (fun gg s8 wr => ∃ (i : Nat) (vF vB : Value), gg + i = n2 ∧ s8 = .int .i64 i ∧ Vr wr wD.heap.size 25 #[.slice a1 n1 c1, vF] ∧ Vr wr (wD.heap.size + 1) 25 #[.slice a1 n1 c1, vB] ∧ OwD wr (wD.heap.size + 2) vF ((ys.take i).map flX) ∧ OwD wr (wD.heap.size + 2) vB ((ys.take i).map bkX) ∧ Apart vF vB ∧ Below wD.heap.size wD wr)
    case atStart => exact ⟨0, .slice none 0 0, .slice none 0 0, rfl, rfl, HV6.out, HV7.out, Ow.nil _ _, Ow.nil _ _, (fun k h => by cases h), HBE.out⟩
    case round =>
      obtain ⟨i, vF, vB, hg, rfl, h6, h7, hF, hB, hFB, hb⟩ := hrel
      have HBr := Lib.hid hb
      have HVr := Lib.hid (HVd.out.keep hb)
      have q0 := HVr.out.cell 0
      have q1 := HVr.out.cell 1
      simp only [List.getElem?_toArray, List.getElem?_cons_zero, List.getElem?_cons_succ] at q0 q1
      by_cases hlt : i < n2
      · have ii : (i : Int) < (n2 : Int) := by omega
        have hi2 : i < ys.length := by rw [HYL.out]; exact hlt
        obtain ⟨b2, o2, rfl, hc⟩ := RwD.at (HY.out.keep hb) i hi2
        obtain ⟨g0, g1, g2, g3, g4, g5⟩ := hc i hi2
        have hTF : (ys.take (i + 1)).map flX = (ys.take i).map flX ++ [flX ys[i]] := by rw [List.take_succ_eq_append_getElem hi2, List.map_append]; rfl
        have hTB : (ys.take (i + 1)).map bkX = (ys.take i).map bkX ++ [bkX ys[i]] := by rw [List.take_succ_eq_append_getElem hi2, List.map_append]; rfl
        have hlF : ((ys.take i).map flX).length = i := by rw [List.length_map, List.length_take]; omega
        have hlB : ((ys.take i).map bkX).length = i := by rw [List.length_map, List.length_take]; omega
        have hbw : b2 < wD.heap.size := by
          obtain ⟨b3, o3, e3, hc3⟩ := RwD.at HY.out i hi2
          cases e3
          exact block_lt_of_cell (hc3 i hi2).1
        generalize (ys.take i).map flX = lF at *
        generalize (ys.take i).map bkX = lB at *
        obtain ⟨y, hyi⟩ : ∃ y, y = ys[i] := ⟨_, rfl⟩
        rw [← hyi] at g0 g1 g2 g3 g4 g5 hTF hTB
        obtain ⟨nm, f, t, d, ⟨sa, sn, sc⟩, ⟨pa, pn, pc⟩⟩ := y
        have HYi := Lib.hid hyi.symm
        clear hyi
        dsimp only [Sl.v, flX, bkX] at g0 g1 g2 g3 g4 g5 hTF hTB
        obtain ⟨fa, fc, rfl⟩ := hF.shape
        obtain ⟨ka, kc, rfl⟩ := hB.shape
        rw [hlF] at h6 hF
        rw [hlB] at h7 hB
        rw [hlF, hlB] at hFB
        have hS : wD.heap.size + 2 ≤ wr.heap.size := by have := h7.lt; omega
        have p0 := h6.cell 0
        have p1 := h6.cell 1
        have r0 := h7.cell 0
        have r1 := h7.cell 1
        simp only [List.getElem?_toArray, List.getElem?_cons_zero, List.getElem?_cons_succ] at p0 p1 r0 r1
        have HTF := Lib.hid hTF
        have HTB := Lib.hid hTB
        have HF := Lib.hid hF
        have HB := Lib.hid hB
        have HFB := Lib.hid hFB
        have H6 := Lib.hid h6
        have H7 := Lib.hid h7
        have HlF := Lib.hid hlF
        have HlB := Lib.hid hlB
        have hlt2 : b2 < wr.heap.size := by omega
        have hlt3 : w.heap.size < wr.heap.size := by omega
        have hlt4 : wD.heap.size < wr.heap.size := by omega
        have hlt5 : wD.heap.size + 1 < wr.heap.size := by omega
        clear hTF hTB hF hB hFB h6 h7 hc hb hlF hlB
        have HFw := Lib.hid (HF.out.below (bl_al (o := .cells #[.string nm, .int .i64 f, .int .i64 t, .bool false, .slice sa sn sc, .slice pa pn pc] 45) (bl_al (o := .cells #[.string nm, .int .i64 f, .int .i64 t, .bool false, .slice sa sn sc, .slice pa pn pc] 45) (Below.refl wr.heap.size wr))))
        have HBw := Lib.hid (HB.out.below (bl_al (o := .cells #[.string nm, .int .i64 f, .int .i64 t, .bool false, .slice sa sn sc, .slice pa pn pc] 45) (bl_al (o := .cells #[.string nm, .int .i64 f, .int .i64 t, .bool false, .slice sa sn sc, .slice pa pn pc] 45) (Below.refl wr.heap.size wr))))
        have H6w := Lib.hid (H6.out.keep (bl_al (o := .cells #[.string nm, .int .i64 f, .int .i64 t, .bool false, .slice sa sn sc, .slice pa pn pc] 45) (bl_al (o := .cells #[.string nm, .int .i64 f, .int .i64 t, .bool false, .slice sa sn sc, .slice pa pn pc] 45) (Below.refl wr.heap.size wr))))
        have H7w := Lib.hid (H7.out.keep (bl_al (o := .cells #[.string nm, .int .i64 f, .int .i64 t, .bool false, .slice sa sn sc, .slice pa pn pc] 45) (bl_al (o := .cells #[.string nm, .int .i64 f, .int .i64 t, .bool false, .slice sa sn sc, .slice pa pn pc] 45) (Below.refl wr.heap.size wr))))
        have HVw := Lib.hid (HVr.out.keep (bl_al (o := .cells #[.string nm, .int .i64 f, .int .i64 t, .bool false, .slice sa sn sc, .slice pa pn pc] 45) (bl_al (o := .cells #[.string nm, .int .i64 f, .int .i64 t, .bool false, .slice sa sn sc, .slice pa pn pc] 45) (Below.refl wr.heap.size wr))))
        have HBrw := Lib.hid (Below.chain HBr.out (bl_al (o := .cells #[.string nm, .int .i64 f, .int .i64 t, .bool false, .slice sa sn sc, .slice pa pn pc] 45) (bl_al (o := .cells #[.string nm, .int .i64 f, .int .i64 t, .bool false, .slice sa sn sc, .slice pa pn pc] 45) (Below.refl wr.heap.size wr))))
        have HSw := Lib.hid ((Vr.new wr 45 #[.string nm, .int .i64 f, .int .i64 t, .bool false, .slice sa sn sc, .slice pa pn pc]).al (o := .cells #[.string nm, .int .i64 f, .int .i64 t, .bool false, .slice sa sn sc, .slice pa pn pc] 45))
        have HLw := Lib.hid (one_edge (wr.alloc (.cells #[.string nm, .int .i64 f, .int .i64 t, .bool false, .slice sa sn sc, .slice pa pn pc] 45)) ⟨nm, f, t, false, ⟨sa, sn, sc⟩, ⟨pa, pn, pc⟩⟩ (wr.heap.size + 1) (by simp))
        have HS1 := Lib.hid (show ((wr.alloc (.cells #[.string nm, .int .i64 f, .int .i64 t, .bool false, .slice sa sn sc, .slice pa pn pc] 45)).alloc (.cells #[.string nm, .int .i64 f, .int .i64 t, .bool false, .slice sa sn sc, .slice pa pn pc] 45)).heap.size = wr.heap.size + 2 by simp)
        dsimp only [Sl.v] at HLw
        clear HVr HBr H6 H7
        go_upto_region 14 with (at_builtin; refine wpList_append_rw (E := encD) rfl _ _ _ rfl Try.underlying23 info_d rfl (by decide) (by decide) rfl rfl HFw.out HLw.out (show lF.length + 1 ≤ 1000000 by rw [HlF.out]; omega) (show wD.heap.size + 2 ≤ _ by rw [HS1.out]; omega) ?_; intro v5 w5 hO5 hg5 hat5; obtain ⟨f5a, f5c, rfl⟩ := hO5.shape; (have p5 := (H6w.out.grown hg5 (fun e => by have := HFw.out.row _ e.symm; omega)).cell 1); (have t5 := (H6w.out.grown hg5 (fun e => by have := HFw.out.row _ e.symm; omega)).thaw 1); simp only [List.getElem?_toArray, List.getElem?_cons_zero, List.getElem?_cons_succ] at p5)
        have hg6 : ((wr.alloc (.cells #[.string nm, .int .i64 f, .int .i64 t, .bool false, .slice sa sn sc, .slice pa pn pc] 45)).alloc (.cells #[.string nm, .int .i64 f, .int .i64 t, .bool false, .slice sa sn sc, .slice pa pn pc] 45)).grownBy w5 (Value.slice fa i fc).ownBlock := hg5
        have hat6 : (Value.slice f5a (i + 1) f5c).ownBlock = (Value.slice fa i fc).ownBlock ∨ (Value.slice f5a (i + 1) f5c).ownBlock = some ((wr.alloc (.cells #[.string nm, .int .i64 f, .int .i64 t, .bool false, .slice sa sn sc, .slice pa pn pc] 45)).alloc (.cells #[.string nm, .int .i64 f, .int .i64 t, .bool false, .slice sa sn sc, .slice pa pn pc] 45)).heap.size := by
          rw [List.length_append, HlF.out, List.length_singleton] at hat5
          exact hat5
        rw [List.length_append, HlF.out, List.length_singleton] at hO5
        rw [HlF.out]
        have nF : some wr.heap.size ≠ (Value.slice fa i fc).ownBlock := fun e => HF.out.far (Nat.le_refl _) e.symm
        have hrow : ∀ k, (Value.slice fa i fc).ownBlock = some k → wD.heap.size + 2 ≤ k := fun k hk => HFw.out.row k hk
        have hb5 := HBrw.out.trans (below_of_grown hg6 HBrw.out.size (fun k hk => by have := hrow k hk; omega))
        have V6 := (H6w.out.grown hg6 (fun e => by have := hrow _ e.symm; omega)).setCell 1 (.slice f5a (i + 1) f5c)
        have V7 := vr_other (H7w.out.grown hg6 (fun e => by have := hrow _ e.symm; omega)) (a := ⟨wD.heap.size, 1, none⟩) (show wD.heap.size ≠ wD.heap.size + 1 by omega) (.slice f5a (i + 1) f5c)
        have VS := vr_other (HSw.out.grown hg6 nF) (a := ⟨wD.heap.size, 1, none⟩) (show wD.heap.size ≠ wr.heap.size by omega) (.slice f5a (i + 1) f5c)
        have VV := vr_other (HVw.out.grown hg6 (fun e => by have := hrow _ e.symm; omega)) (a := ⟨wD.heap.size, 1, none⟩) (show wD.heap.size ≠ w.heap.size by omega) (.slice f5a (i + 1) f5c)
        have A5 := HFB.out.grow HBw.out hat6
        have nf6 : (Value.slice f5a (i + 1) f5c).ownBlock ≠ some wD.heap.size := fun e => by have := hO5.row _ e; omega
        have B5 := HBw.out.beside hg6 HFB.out
        have nb6 : (Value.slice ka i kc).ownBlock ≠ some wD.heap.size := fun e => by have := B5.row _ e; omega
        have O6 := hO5.set (a := ⟨wD.heap.size, 1, none⟩) nf6 (.slice f5a (i + 1) f5c)
        have B6 := B5.set (a := ⟨wD.heap.size, 1, none⟩) nb6 (.slice f5a (i + 1) f5c)
        have hb6 := hb5.setCell (p := ⟨wD.heap.size, 1, none⟩) (Nat.le_refl _) (.slice f5a (i + 1) f5c)
        have nS : (Value.slice f5a (i + 1) f5c).ownBlock ≠ some wr.heap.size := fun e => by
          rcases hat6 with h | h
          · exact nF (h.symm.trans e).symm
          · rw [HS1.out] at h
            have := h.symm.trans e
            injection this with this
            omega
        have nS2 : (Value.slice ka i kc).ownBlock ≠ some wr.heap.size := fun e => HB.out.far (Nat.le_refl _) e
        have hsz : wr.heap.size + 2 ≤ w5.heap.size := by have := hg6.size; rw [HS1.out] at this; exact this
        simp only [List.setIfInBounds_toArray, List.set_cons_succ, List.set_cons_zero] at V6
        have hsz6 : wr.heap.size + 2 ≤ (w5.setCell ⟨wD.heap.size, 1, none⟩ (.slice f5a (i + 1) f5c)).heap.size := by simpa using hsz
        clear hO5 hg5 hat5 hg6 hat6 hb5 B5 nF hrow nf6 nb6 HFw HBw H6w H7w HVw HBrw HSw HLw HS1 HF HB HFB p0 p1 r0 r1 q0 q1 g0 g1 g2 g3 g4 g5 p5 t5 hsz
        generalize w5.setCell ⟨wD.heap.size, 1, none⟩ (.slice f5a (i + 1) f5c) = w6 at *
        obtain ⟨b3, o3, e3, hc3⟩ := RwD.at (HY.out.keep hb6) i (by rw [HYL.out]; exact hlt)
        cases e3
        have hg := hc3 i (by rw [HYL.out]; exact hlt)
        rw [HYi.out] at hg
        obtain ⟨g0, g1, g2, g3, g4, g5⟩ := hg
        dsimp only [Sl.v] at g4 g5
        have q0 := VV.cell 0
        have q1 := VV.cell 1
        have s0 := VS.cell 0
        have s1 := VS.cell 1
        have s2 := VS.cell 2
        have s3 := VS.cell 3
        have s4 := VS.cell 4
        have s5 := VS.cell 5
        have t0 := VS.thaw 0
        have t1 := VS.thaw 1
        have t2 := VS.thaw 2
        have t3 := VS.thaw 3
        have t4 := VS.thaw 4
        have t5 := VS.thaw 5
        simp only [List.getElem?_toArray, List.getElem?_cons_zero, List.getElem?_cons_succ] at q0 q1 s0 s1 s2 s3 s4 s5
        have H6 := Lib.hid V6
        have H7 := Lib.hid V7
        have HS := Lib.hid VS
        have HVV := Lib.hid VV
        have HO := Lib.hid O6
        have HBB := Lib.hid B6
        have HA := Lib.hid A5
        have Hb := Lib.hid hb6
        have HnS := Lib.hid nS
        have HnS2 := Lib.hid nS2
        clear V6 V7 VS VV O6 B6 A5 hb6 nS nS2 hc3
        go_upto_region 16 with fail
        have S8 := ((((((((HS.out.setCell 0 (.string nm)).setCell 1 (.int .i64 f)).setCell 2 (.int .i64 t)).setCell 3 (.bool d)).setCell 4 (.slice sa sn sc)).setCell 5 (.slice pa pn pc)).setCell 1 (.int .i64 t)).setCell 2 (.int .i64 f))
        have V6 := (vr_other (vr_other (vr_other (vr_other (vr_other (vr_other (vr_other (vr_other H6.out (a := ⟨wr.heap.size, 0, none⟩) (show wr.heap.size ≠ wD.heap.size by omega) (.string nm)) (a := ⟨wr.heap.size, 1, none⟩) (show wr.heap.size ≠ wD.heap.size by omega) (.int .i64 f)) (a := ⟨wr.heap.size, 2, none⟩) (show wr.heap.size ≠ wD.heap.size by omega) (.int .i64 t)) (a := ⟨wr.heap.size, 3, none⟩) (show wr.heap.size ≠ wD.heap.size by omega) (.bool d)) (a := ⟨wr.heap.size, 4, none⟩) (show wr.heap.size ≠ wD.heap.size by omega) (.slice sa sn sc)) (a := ⟨wr.heap.size, 5, none⟩) (show wr.heap.size ≠ wD.heap.size by omega) (.slice pa pn pc)) (a := ⟨wr.heap.size, 1, none⟩) (show wr.heap.size ≠ wD.heap.size by omega) (.int .i64 t)) (a := ⟨wr.heap.size, 2, none⟩) (show wr.heap.size ≠ wD.heap.size by omega) (.int .i64 f))
        have V7 := (vr_other (vr_other (vr_other (vr_other (vr_other (vr_other (vr_other (vr_other H7.out (a := ⟨wr.heap.size, 0, none⟩) (show wr.heap.size ≠ wD.heap.size + 1 by omega) (.string nm)) (a := ⟨wr.heap.size, 1, none⟩) (show wr.heap.size ≠ wD.heap.size + 1 by omega) (.int .i64 f)) (a := ⟨wr.heap.size, 2, none⟩) (show wr.heap.size ≠ wD.heap.size + 1 by omega) (.int .i64 t)) (a := ⟨wr.heap.size, 3, none⟩) (show wr.heap.size ≠ wD.heap.size + 1 by omega) (.bool d)) (a := ⟨wr.heap.size, 4, none⟩) (show wr.heap.size ≠ wD.heap.size + 1 by omega) (.slice sa sn sc)) (a := ⟨wr.heap.size, 5, none⟩) (show wr.heap.size ≠ wD.heap.size + 1 by omega) (.slice pa pn pc)) (a := ⟨wr.heap.size, 1, none⟩) (show wr.heap.size ≠ wD.heap.size + 1 by omega) (.int .i64 t)) (a := ⟨wr.heap.size, 2, none⟩) (show wr.heap.size ≠ wD.heap.size + 1 by omega) (.int .i64 f))
        have O8 := ((((((((HO.out.set (a := ⟨wr.heap.size, 0, none⟩) HnS.out (.string nm)).set (a := ⟨wr.heap.size, 1, none⟩) HnS.out (.int .i64 f)).set (a := ⟨wr.heap.size, 2, none⟩) HnS.out (.int .i64 t)).set (a := ⟨wr.heap.size, 3, none⟩) HnS.out (.bool d)).set (a := ⟨wr.heap.size, 4, none⟩) HnS.out (.slice sa sn sc)).set (a := ⟨wr.heap.size, 5, none⟩) HnS.out (.slice pa pn pc)).set (a := ⟨wr.heap.size, 1, none⟩) HnS.out (.int .i64 t)).set (a := ⟨wr.heap.size, 2, none⟩) HnS.out (.int .i64 f))
        have B8 := ((((((((HBB.out.set (a := ⟨wr.heap.size, 0, none⟩) HnS2.out (.string nm)).set (a := ⟨wr.heap.size, 1, none⟩) HnS2.out (.int .i64 f)).set (a := ⟨wr.heap.size, 2, none⟩) HnS2.out (.int .i64 t)).set (a := ⟨wr.heap.size, 3, none⟩) HnS2.out (.bool d)).set (a := ⟨wr.heap.size, 4, none⟩) HnS2.out (.slice sa sn sc)).set (a := ⟨wr.heap.size, 5, none⟩) HnS2.out (.slice pa pn pc)).set (a := ⟨wr.heap.size, 1, none⟩) HnS2.out (.int .i64 t)).set (a := ⟨wr.heap.size, 2, none⟩) HnS2.out (.int .i64 f))
        have hb8 := ((((((((Hb.out.setCell (p := ⟨wr.heap.size, 0, none⟩) (show wD.heap.size ≤ wr.heap.size by omega) (.string nm)).setCell (p := ⟨wr.heap.size, 1, none⟩) (show wD.heap.size ≤ wr.heap.size by omega) (.int .i64 f)).setCell (p := ⟨wr.heap.size, 2, none⟩) (show wD.heap.size ≤ wr.heap.size by omega) (.int .i64 t)).setCell (p := ⟨wr.heap.size, 3, none⟩) (show wD.heap.size ≤ wr.heap.size by omega) (.bool d)).setCell (p := ⟨wr.heap.size, 4, none⟩) (show wD.heap.size ≤ wr.heap.size by omega) (.slice sa sn sc)).setCell (p := ⟨wr.heap.size, 5, none⟩) (show wD.heap.size ≤ wr.heap.size by omega) (.slice pa pn pc)).setCell (p := ⟨wr.heap.size, 1, none⟩) (show wD.heap.size ≤ wr.heap.size by omega) (.int .i64 t)).setCell (p := ⟨wr.heap.size, 2, none⟩) (show wD.heap.size ≤ wr.heap.size by omega) (.int .i64 f))
        simp only [List.setIfInBounds_toArray, List.set_cons_succ, List.set_cons_zero] at S8
        have hsz8 : wr.heap.size + 2 ≤ (((((((((w6.setCell ⟨wr.heap.size, 0, none⟩ (.string nm)).setCell ⟨wr.heap.size, 1, none⟩ (.int .i64 f)).setCell ⟨wr.heap.size, 2, none⟩ (.int .i64 t)).setCell ⟨wr.heap.size, 3, none⟩ (.bool d)).setCell ⟨wr.heap.size, 4, none⟩ (.slice sa sn sc)).setCell ⟨wr.heap.size, 5, none⟩ (.slice pa pn pc)).setCell ⟨wr.heap.size, 1, none⟩ (.int .i64 t)).setCell ⟨wr.heap.size, 2, none⟩ (.int .i64 f))).heap.size := by simpa using hsz6
        clear q0 q1 s0 s1 s2 s3 s4 s5 t0 t1 t2 t3 t4 t5 g0 g1 g2 g3 g4 g5 H6 H7 HS HVV HO HBB Hb HnS HnS2 hsz6
        generalize ((((((((w6.setCell ⟨wr.heap.size, 0, none⟩ (.string nm)).setCell ⟨wr.heap.size, 1, none⟩ (.int .i64 f)).setCell ⟨wr.heap.size, 2, none⟩ (.int .i64 t)).setCell ⟨wr.heap.size, 3, none⟩ (.bool d)).setCell ⟨wr.heap.size, 4, none⟩ (.slice sa sn sc)).setCell ⟨wr.heap.size, 5, none⟩ (.slice pa pn pc)).setCell ⟨wr.heap.size, 1, none⟩ (.int .i64 t)).setCell ⟨wr.heap.size, 2, none⟩ (.int .i64 f)) = w8 at *
        have s0 := S8.cell 0
        have s1 := S8.cell 1
        have s2 := S8.cell 2
        have s3 := S8.cell 3
        have s4 := S8.cell 4
        have s5 := S8.cell 5
        have r0 := V7.cell 0
        have r1 := V7.cell 1
        simp only [List.getElem?_toArray, List.getElem?_cons_zero, List.getElem?_cons_succ] at s0 s1 s2 s3 s4 s5 r0 r1
        have hltb : wD.heap.size + 1 < w8.heap.size := by omega
        have HL8 := Lib.hid (one_edge w8 ⟨nm, t, f, d, ⟨sa, sn, sc⟩, ⟨pa, pn, pc⟩⟩ w8.heap.size rfl)
        dsimp only [Sl.v] at HL8
        have HB8 := Lib.hid (B8.below (below_a1 w8 (.cells #[.string nm, .int .i64 t, .int .i64 f, .bool d, .slice sa sn sc, .slice pa pn pc] 45)))
        have HO8 := Lib.hid (O8.below (below_a1 w8 (.cells #[.string nm, .int .i64 t, .int .i64 f, .bool d, .slice sa sn sc, .slice pa pn pc] 45)))
        have H6 := Lib.hid (V6.keep (below_a1 w8 (.cells #[.string nm, .int .i64 t, .int .i64 f, .bool d, .slice sa sn sc, .slice pa pn pc] 45)))
        have H7 := Lib.hid (V7.keep (below_a1 w8 (.cells #[.string nm, .int .i64 t, .int .i64 f, .bool d, .slice sa sn sc, .slice pa pn pc] 45)))
        have Hb8 := Lib.hid (Below.trans hb8 ((below_a1 w8 (.cells #[.string nm, .int .i64 t, .int .i64 f, .bool d, .slice sa sn sc, .slice pa pn pc] 45)).mono hb8.size))
        have HS8 := Lib.hid (show wD.heap.size + 2 ≤ (w8.alloc (.cells #[.string nm, .int .i64 t, .int .i64 f, .bool d, .slice sa sn sc, .slice pa pn pc] 45)).heap.size by simp; omega)
        clear S8 V6 V7 O8 B8 hb8
        go_wp2_with (at_builtin; refine wpList_append_rw (E := encD) rfl _ _ _ rfl Try.underlying23 info_d rfl (by decide) (by decide) rfl rfl HB8.out HL8.out (show lB.length + 1 ≤ 1000000 by rw [HlB.out]; omega) HS8.out ?_; intro v9 w9 hO9 hg9 hat9; obtain ⟨f9a, f9c, rfl⟩ := hO9.shape; (have p9 := (H7.out.grown hg9 (fun e => by have := HB8.out.row _ e.symm; omega)).cell 1); (have t9 := (H7.out.grown hg9 (fun e => by have := HB8.out.row _ e.symm; omega)).thaw 1); simp only [List.getElem?_toArray, List.getElem?_cons_zero, List.getElem?_cons_succ] at p9)
        have hg10 : (w8.alloc (.cells #[.string nm, .int .i64 t, .int .i64 f, .bool d, .slice sa sn sc, .slice pa pn pc] 45)).grownBy w9 (Value.slice ka i kc).ownBlock := hg9
        have hat10 : (Value.slice f9a (i + 1) f9c).ownBlock = (Value.slice ka i kc).ownBlock ∨ (Value.slice f9a (i + 1) f9c).ownBlock = some (w8.alloc (.cells #[.string nm, .int .i64 t, .int .i64 f, .bool d, .slice sa sn sc, .slice pa pn pc] 45)).heap.size := by
          rw [List.length_append, HlB.out, List.length_singleton] at hat9
          exact hat9
        rw [List.length_append, HlB.out, List.length_singleton] at hO9
        rw [HlB.out]
        have hrow : ∀ k, (Value.slice ka i kc).ownBlock = some k → wD.heap.size + 2 ≤ k := fun k hk => HB8.out.row k hk
        have hb9 := Hb8.out.trans (below_of_grown hg10 Hb8.out.size (fun k hk => by have := hrow k hk; omega))
        have V7 := (H7.out.grown hg10 (fun e => by have := hrow _ e.symm; omega)).setCell 1 (.slice f9a (i + 1) f9c)
        have V6 := vr_other (H6.out.grown hg10 (fun e => by have := hrow _ e.symm; omega)) (a := ⟨wD.heap.size + 1, 1, none⟩) (show wD.heap.size + 1 ≠ wD.heap.size by omega) (.slice f9a (i + 1) f9c)
        have A9 := (HA.out.symm.grow HO8.out hat10).symm
        have O9 := HO8.out.beside hg10 HA.out.symm
        have nb9 : (Value.slice f9a (i + 1) f9c).ownBlock ≠ some (wD.heap.size + 1) := fun e => by have := hO9.row _ e; omega
        have nf9 : (Value.slice f5a (i + 1) f5c).ownBlock ≠ some (wD.heap.size + 1) := fun e => by have := O9.row _ e; omega
        have O10 := O9.set (a := ⟨wD.heap.size + 1, 1, none⟩) nf9 (.slice f9a (i + 1) f9c)
        have B10 := hO9.set (a := ⟨wD.heap.size + 1, 1, none⟩) nb9 (.slice f9a (i + 1) f9c)
        have hb10 := hb9.setCell (p := ⟨wD.heap.size + 1, 1, none⟩) (Nat.le_succ _) (.slice f9a (i + 1) f9c)
        simp only [List.setIfInBounds_toArray, List.set_cons_succ, List.set_cons_zero] at V7
        go_roundg (n2 - (i + 1))
        case rel => exact ⟨i + 1, _, _, by omega, by go_num, V6, V7, by rw [HTF.out]; exact O10, by rw [HTB.out]; exact B10, A9, hb10⟩
        case measure => omega
      · obtain rfl : n2 = i := by omega
        have ii : ¬ ((n2 : Int) < (n2 : Int)) := by omega
        have ht : ys.take n2 = ys := List.take_of_length_le (by rw [HYL.out]; exact Nat.le_refl _)
        rw [ht] at hF hB
        obtain ⟨⟨xs, hxs, hxk⟩, -, hl1, hl2⟩ := HZd.out.keep hb
        have hZF : Gz wr (flatG gc) ⟨⟨a1, n1, c1⟩, ⟨none, 0, 0⟩⟩ → True := fun _ => trivial
        have eF : (ys.map flX).length = n2 := by rw [List.length_map]; exact HYL.out
        have eB : (ys.map bkX).length = n2 := by rw [List.length_map]; exact HYL.out
        obtain ⟨fa, fc, rfl⟩ := hF.shape
        obtain ⟨ka, kc, rfl⟩ := hB.shape
        rw [eF] at h6 hF
        rw [eB] at h7 hB
        have HGF := Lib.hid (show Gz wr (flatG gc) ⟨⟨a1, n1, c1⟩, ⟨fa, n2, fc⟩⟩ from ⟨⟨xs, hxs, hxk⟩, ⟨_, hF.rw, ds_flat (HYK.out.keep hb)⟩, hl1, by unfold flatG; rw [List.length_map]; exact hl2⟩)
        have HGB := Lib.hid (show Gz wr (backG gc) ⟨⟨a1, n1, c1⟩, ⟨ka, n2, kc⟩⟩ from ⟨⟨xs, hxs, hxk⟩, ⟨_, hB.rw, ds_back (HYK.out.keep hb)⟩, hl1, by unfold backG; rw [List.length_map]; exact hl2⟩)
        have H7 := Lib.hid h7
        have HIr := Lib.hid (HIx.out.keep hb)
        have p0 := h6.cell 0
        have p1 := h6.cell 1
        simp only [List.getElem?_toArray, List.getElem?_cons_zero, List.getElem?_cons_succ] at p0 p1
        have HMF : Hid ((flatG gc).edges.length ≤ 1000) := Lib.hid (by unfold flatG; rw [List.length_map]; exact HM.out)
        have HMB : Hid ((backG gc).edges.length ≤ 1000) := Lib.hid (by unfold backG; rw [List.length_map]; exact HM.out)
        clear h6 h7 hF hB hFB hb hxs hxk hl1 hl2 ht hZF eF eB
        go_wp2_with fail
        have CN := new7_any HGF.out
        dsimp only [gv, Sl.v] at CN
        (with_reducible refine CN.mono ?_); clear CN; rintro e wF ⟨(⟨-, py, rfl, hxF⟩ | ⟨hbad, -⟩), hbF⟩
        · have HIy := Lib.hid hxF
          have HI2 := Lib.hid (HIr.out.keep hbF)
          have HG2 := Lib.hid (HGB.out.keep hbF)
          have HB2 := Lib.hid (Below.trans HBr.out (hbF.mono HBr.out.size))
          have h7 := H7.out.keep hbF
          have r0 := h7.cell 0
          have r1 := h7.cell 1
          simp only [List.getElem?_toArray, List.getElem?_cons_zero, List.getElem?_cons_succ] at r0 r1
          clear hxF hbF h7 p0 p1 q0 q1 HIr HGB HGF HBr H7
          go_wp2_with fail
          have CN := new7_any HG2.out
          dsimp only [gv, Sl.v] at CN
          (with_reducible refine CN.mono ?_); clear CN; rintro e wG ⟨(⟨-, pz, rfl, hxG⟩ | ⟨hbad, -⟩), hbG⟩
          · have HIz := Lib.hid hxG
            have HIy2 := Lib.hid (HIy.out.keep hbG)
            have HIx2 := Lib.hid (HI2.out.keep hbG)
            have HBG := Lib.hid (Below.trans HB2.out (hbG.mono HB2.out.size))
            clear hxG hbG r0 r1 HI2 HG2 HB2 HIy
            go_wp2_with fail
            have HVG := Lib.hid (HVd.out.keep HBG.out)
            go_loopg [14] n1 (fun gg s14 wr => ∃ i : Nat, gg + i = n1 ∧ s14 = .int .i64 i ∧ Below wG.heap.size wG wr)
            case atStart => exact ⟨0, rfl, rfl, Below.refl _ _⟩
            case round =>
              obtain ⟨i, hg, rfl, hb⟩ := hrel
              have HV3 := HVG.out.keep hb
              have q0 := HV3.cell 0
              have q1 := HV3.cell 1
              simp only [List.getElem?_toArray, List.getElem?_cons_zero, List.getElem?_cons_succ] at q0 q1
              have X0 := Lib.hid (HIx2.out.keep hb)
              have Y0 := Lib.hid (HIy2.out.keep hb)
              have Z0 := Lib.hid (HIz.out.keep hb)
              have B0 := Lib.hid hb
              clear HV3 hb
              by_cases hlt : i < n1
              · have ii : (i : Int) < (n1 : Int) := by omega
                go_wp2_with fail
                clear q0 q1
                have CO := out7_any Y0.out HMF.out (i : Int) 2
                rw [flat_flat gc i] at CO
                (with_reducible refine CO.mono ?_); clear CO; rintro e w1 ⟨v1, rfl, ho1, hb1⟩
                obtain ⟨sa1, sc1, rfl⟩ := ho1.shape
                have R1 := Lib.hid ho1.rw
                have X1 := Lib.hid (X0.out.keep hb1)
                have Y1 := Lib.hid (Y0.out.keep hb1)
                have Z1 := Lib.hid (Z0.out.keep hb1)
                have B1 := Lib.hid (Below.chain B0.out hb1)
                clear hb1 ho1 X0 Y0 Z0 B0
                go_wp2_with fail
                have CO := out7_any X1.out HM.out (i : Int) 7
                (with_reducible refine CO.mono ?_); clear CO; rintro e w2 ⟨v2, rfl, ho2, hb2⟩
                obtain ⟨sa2, sc2, rfl⟩ := ho2.shape
                have R2 := Lib.hid ho2.rw
                have X2 := Lib.hid (X1.out.keep hb2)
                have Y2 := Lib.hid (Y1.out.keep hb2)
                have Z2 := Lib.hid (Z1.out.keep hb2)
                have B2 := Lib.hid (Below.chain B1.out hb2)
                have R1k := Lib.hid (R1.out.keep hb2)
                clear hb2 ho2 X1 Y1 Z1 B1
                go_wp2_with fail
                have CS := sames_any _ _ _ _ w2 R1k.out R2.out
                rw [decide_eq_true (rfl)] at CS
                (with_reducible refine CS.mono ?_); clear CS; rintro e w3 ⟨rfl, hb3⟩
                have X3 := Lib.hid (X2.out.keep hb3)
                have Y3 := Lib.hid (Y2.out.keep hb3)
                have Z3 := Lib.hid (Z2.out.keep hb3)
                have B3 := Lib.hid (Below.chain B2.out hb3)
                clear hb3 X2 Y2 Z2 B2 R1 R2 R1k
                go_wp2_with fail
                have CO := out7_any Y3.out HMF.out (i : Int) 5
                rw [flat_none gc i] at CO
                (with_reducible refine CO.mono ?_); clear CO; rintro e w4 ⟨v4, rfl, ho4, hb4⟩
                obtain ⟨sa4, sc4, rfl⟩ := ho4.shape
                have X4 := Lib.hid (X3.out.keep hb4)
                have Y4 := Lib.hid (Y3.out.keep hb4)
                have Z4 := Lib.hid (Z3.out.keep hb4)
                have B4 := Lib.hid (Below.chain B3.out hb4)
                clear hb4 ho4 X3 Y3 Z3 B3
                go_wp2_with fail
                have CO := out7_any Z4.out HMB.out (i : Int) 1
                rw [back_left gc i] at CO
                (with_reducible refine CO.mono ?_); clear CO; rintro e w5 ⟨v5, rfl, ho5, hb5⟩
                obtain ⟨sa5, sc5, rfl⟩ := ho5.shape
                have R5 := Lib.hid ho5.rw
                have X5 := Lib.hid (X4.out.keep hb5)
                have Y5 := Lib.hid (Y4.out.keep hb5)
                have Z5 := Lib.hid (Z4.out.keep hb5)
                have B5 := Lib.hid (Below.chain B4.out hb5)
                clear hb5 ho5 X4 Y4 Z4 B4
                go_wp2_with fail
                have CO := out7_any X5.out HM.out (i : Int) 4
                (with_reducible refine CO.mono ?_); clear CO; rintro e w6 ⟨v6, rfl, ho6, hb6⟩
                obtain ⟨sa6, sc6, rfl⟩ := ho6.shape
                have R6 := Lib.hid ho6.rw
                have X6 := Lib.hid (X5.out.keep hb6)
                have Y6 := Lib.hid (Y5.out.keep hb6)
                have Z6 := Lib.hid (Z5.out.keep hb6)
                have B6 := Lib.hid (Below.chain B5.out hb6)
                have R5k := Lib.hid (R5.out.keep hb6)
                clear hb6 ho6 X5 Y5 Z5 B5
                go_wp2_with fail
                have CS := sames_any _ _ _ _ w6 R5k.out R6.out
                rw [decide_eq_true (rfl)] at CS
                (with_reducible refine CS.mono ?_); clear CS; rintro e w7 ⟨rfl, hb7⟩
                have X7 := Lib.hid (X6.out.keep hb7)
                have Y7 := Lib.hid (Y6.out.keep hb7)
                have Z7 := Lib.hid (Z6.out.keep hb7)
                have B7 := Lib.hid (Below.chain B6.out hb7)
                clear hb7 X6 Y6 Z6 B6 R5 R6 R5k
                go_wp2_with fail
                have CO := out7_any Z7.out HMB.out (i : Int) 4
                rw [back_rights gc i] at CO
                (with_reducible refine CO.mono ?_); clear CO; rintro e w8 ⟨v8, rfl, ho8, hb8⟩
                obtain ⟨sa8, sc8, rfl⟩ := ho8.shape
                have R8 := Lib.hid ho8.rw
                have X8 := Lib.hid (X7.out.keep hb8)
                have Y8 := Lib.hid (Y7.out.keep hb8)
                have Z8 := Lib.hid (Z7.out.keep hb8)
                have B8 := Lib.hid (Below.chain B7.out hb8)
                clear hb8 ho8 X7 Y7 Z7 B7
                go_wp2_with fail
                have CO := out7_any X8.out HM.out (i : Int) 1
                (with_reducible refine CO.mono ?_); clear CO; rintro e w9 ⟨v9, rfl, ho9, hb9⟩
                obtain ⟨sa9, sc9, rfl⟩ := ho9.shape
                have R9 := Lib.hid ho9.rw
                have X9 := Lib.hid (X8.out.keep hb9)
                have Y9 := Lib.hid (Y8.out.keep hb9)
                have Z9 := Lib.hid (Z8.out.keep hb9)
                have B9 := Lib.hid (Below.chain B8.out hb9)
                have R8k := Lib.hid (R8.out.keep hb9)
                clear hb9 ho9 X8 Y8 Z8 B8
                go_wp2_with fail
                have CS := sames_any _ _ _ _ w9 R8k.out R9.out
                rw [decide_eq_true (rfl)] at CS
                (with_reducible refine CS.mono ?_); clear CS; rintro e w10 ⟨rfl, hb10⟩
                have X10 := Lib.hid (X9.out.keep hb10)
                have Y10 := Lib.hid (Y9.out.keep hb10)
                have Z10 := Lib.hid (Z9.out.keep hb10)
                have B10 := Lib.hid (Below.chain B9.out hb10)
                clear hb10 X9 Y9 Z9 B9 R8 R9 R8k
                go_wp2_with fail
                have CO := out7_any Z10.out HMB.out (i : Int) 2
                rw [back_flat gc i] at CO
                (with_reducible refine CO.mono ?_); clear CO; rintro e w11 ⟨v11, rfl, ho11, hb11⟩
                obtain ⟨sa11, sc11, rfl⟩ := ho11.shape
                have R11 := Lib.hid ho11.rw
                have X11 := Lib.hid (X10.out.keep hb11)
                have Y11 := Lib.hid (Y10.out.keep hb11)
                have Z11 := Lib.hid (Z10.out.keep hb11)
                have B11 := Lib.hid (Below.chain B10.out hb11)
                clear hb11 ho11 X10 Y10 Z10 B10
                go_wp2_with fail
                have CO := out7_any X11.out HM.out (i : Int) 2
                (with_reducible refine CO.mono ?_); clear CO; rintro e w12 ⟨v12, rfl, ho12, hb12⟩
                obtain ⟨sa12, sc12, rfl⟩ := ho12.shape
                have R12 := Lib.hid ho12.rw
                have X12 := Lib.hid (X11.out.keep hb12)
                have Y12 := Lib.hid (Y11.out.keep hb12)
                have Z12 := Lib.hid (Z11.out.keep hb12)
                have B12 := Lib.hid (Below.chain B11.out hb12)
                have R11k := Lib.hid (R11.out.keep hb12)
                clear hb12 ho12 X11 Y11 Z11 B11
                go_wp2_with fail
                have CS := sames_any _ _ _ _ w12 R11k.out R12.out
                rw [decide_eq_true (rfl)] at CS
                (with_reducible refine CS.mono ?_); clear CS; rintro e w13 ⟨rfl, hb13⟩
                have X13 := Lib.hid (X12.out.keep hb13)
                have Y13 := Lib.hid (Y12.out.keep hb13)
                have Z13 := Lib.hid (Z12.out.keep hb13)
                have B13 := Lib.hid (Below.chain B12.out hb13)
                clear hb13 X12 Y12 Z12 B12 R11 R12 R11k
                go_wp2_with fail
                go_roundg (n1 - (i + 1))
                case rel => exact ⟨i + 1, by omega, by go_num, B13.out⟩
                case measure => omega
              · have ii : ¬ (i : Int) < (n1 : Int) := by omega
                go_wp2_with fail
                go_ret
                exact ⟨rfl, HBd.out.trans ((HBG.out.trans (B0.out.mono HBG.out.size)).mono HBd.out.size)⟩
          · exact absurd (back_right HR0.out) hbad
        · exact absurd (flat_right HR0.out) hbad
  · have hr' : (rightG gc != 0) = true := by simpa using hr
    go_wp2_with fail
    go_ret
    exact ⟨rfl, HBd.out⟩
end Go.Proofs.Ytmfjcphjncgigaa.GraphFlat
