import Derived.Test.YtdoefndppoglfaaH6a
namespace Go.Proofs.Ytdoefndppoglfaa
open Go Go.ChangeShapes Go.WideShapes Go.ChangeAt Go.RowKit
open Go.Joins
set_option linter.unusedVariables false
theorem below_undrew {w w' : World} (h : Below w.drew.heap.size w.drew w') : Below w.heap.size w w' := ⟨h.os, h.tape, h.output, h.size, h.block⟩
theorem load7 {w : World} {b : Nat} {v0 v1 : Value} (h0 : w.cell? ⟨b, 0, none⟩ = some v0) (h1 : w.cell? ⟨b, 1, none⟩ = some v1) : (loadVar 25 ⟨b, 0, none⟩).run Try.prog w = .ok (.agg #[v0, v1]) w := by
  go_simp
/-- a graph handed back through a cell -/
theorem ret_g7 {fn : Func} {p : Tmp} {R : Ending → World → Prop} {a : Act} {w : World} {b : Nat} {v0 v1 : Value} (h : fn.results = #[.cell p 25]) (hp : a.tmps.getD p undef = .pointer (some ⟨b, 0, none⟩)) (hd : a.defers = [])
    (h0 : w.cell? ⟨b, 0, none⟩ = some v0) (h1 : w.cell? ⟨b, 1, none⟩ = some v1) (hR : R (.returned (.agg #[v0, v1])) w) : bodyPost Try.prog fn R .ret a w := by
  refine bodyPost_ret ?_ hd hR
  have hp' : a.tmps[p]?.getD undef = .pointer (some ⟨b, 0, none⟩) := by simpa using hp
  simp [results, h, hp', asAddr, load7 h0 h1]
theorem Ns.turn {w w' : World} {l : List Nd} {xs : List Nx} (h : Ns w l xs) (hk : KS w w') : Ns w' l xs := ⟨h.1, fun i hi hi' => (h.2 i hi hi').turn hk⟩
theorem Ds.turn {w w' : World} {l : List Ed} {xs : List Dx} (h : Ds w l xs) (hk : KS w w') : Ds w' l xs := ⟨h.1, fun i hi hi' => (h.2 i hi hi').turn hk⟩
/-- what stands in the slots of clone's first region -/
def VC1 (B0 : Nat) (ns es : Value) (xs : List Nx) (ys : List Dx) (i : Nat) (v : Value) (w' : World) : Prop := match i with
  | 0 => v = .pointer (some ⟨B0, 0, none⟩)
  | 1 => v = ns
  | 2 => OwN w' (B0 + 2) v xs
  | 3 => v = .pointer (some ⟨B0, 1, none⟩)
  | 4 => v = es
  | 5 => OwD w' (B0 + 2) v ys
  | 6 => ∃ s s', v = .agg #[s, s'] ∧ OwN w' (B0 + 2) s xs ∧ OwD w' (B0 + 2) s' ys
  | 7 => ∃ b, v = .pointer (some ⟨b, 0, none⟩) ∧ B0 + 2 ≤ b ∧ Vr w' b 25 #[.slice none 0 0, .slice none 0 0]
  | _ => True
theorem VC1.keep {B0 : Nat} {ns es : Value} {xs : List Nx} {ys : List Dx} (i : Nat) (v : Value) (a b : World) (h : VC1 B0 ns es xs ys i v a) (hb : Below a.heap.size a b) : VC1 B0 ns es xs ys i v b := by
  unfold VC1 at h ⊢
  split at h
  · exact h
  · exact h
  · exact h.below hb
  · exact h
  · exact h
  · exact h.below hb
  · obtain ⟨s, s', e, h1, h2⟩ := h
    exact ⟨s, s', e, h1.below hb, h2.below hb⟩
  · obtain ⟨c, e, h1, h2⟩ := h
    exact ⟨c, e, h1, h2.keep hb⟩
  · trivial
set_option maxRecDepth 100000 in
set_option maxHeartbeats 4000000 in
theorem clone_core (g : Gd) (xs : List Nx) (ys : List Dx) (ns es : Sl) (w : World) (h : RwN w ns.v xs) (h' : RwD w es.v ys) (k : Ns w g.nodes xs) (k' : Ds w g.edges ys) (hn : g.nodes.length ≤ 1000) (hm : g.edges.length ≤ 1000) :
    Calls Try.prog 34 #[.agg #[ns.v, es.v]] w fun e w' => ∃ x, e = .returned (gv x) ∧ Gz w' g x ∧ Below w.heap.size w w' := by
  have n1 := k.1
  have n2 := k'.1
  obtain ⟨ao, L, cap⟩ := ns
  obtain ⟨bo, M, cbp⟩ := es
  dsimp only [Sl.v] at h h' ⊢
  obtain ⟨W1, hW1⟩ : ∃ W1, (w.alloc (.cells #[.slice ao L cap, .slice bo M cbp] 25)).alloc (.cells #[.slice none 0 0, .slice none 0 0] 25) = W1 := ⟨_, rfl⟩
  have B1 : Below w.heap.size w W1 := by rw [← hW1]; exact below_a2 _ _ _
  have S1 : W1.heap.size = w.heap.size + 2 := by rw [← hW1]; simp
  have VG : Vr W1 w.heap.size 25 #[.slice ao L cap, .slice bo M cbp] := by rw [← hW1]; exact Vr.al (Vr.new _ _ _)
  have VR : Vr W1 (w.heap.size + 1) 25 #[.slice none 0 0, .slice none 0 0] := by rw [← hW1]; exact Vr.at' _ _ _ _ (by simp)
  have HR := Lib.hid (h.keep B1)
  have HR2 := Lib.hid (h'.keep B1)
  have HK := Lib.hid (k.keep B1)
  have HK2 := Lib.hid (k'.keep B1)
  have N1 := Lib.hid n1
  have N2 := Lib.hid n2
  have HN := Lib.hid hn
  have HM := Lib.hid hm
  have HB1 := Lib.hid B1
  have HS1 := Lib.hid S1
  have HVG := Lib.hid VG
  have HVR := Lib.hid VR
  clear h h' k k' n1 n2 hn hm B1 S1 VG VR
  go_enter Try.func34, Try.ntmps34
  go_wp2_with fail
  clear hW1
  have HC1 := Lib.hid (fun u (hb : Below W1.heap.size W1 u) => cloneN_any xs _ u (HR.out.keep hb) (by have := N1.out; have := HN.out; omega))
  have HC2 := Lib.hid (fun u (hb : Below W1.heap.size W1 u) => cloneD_any ys _ u (HR2.out.keep hb) (by have := N2.out; have := HM.out; omega))
  refine wp_region_facts 8 (VC1 w.heap.size (.slice ao L cap) (.slice bo M cbp) xs ys) (fun a b => Below a.heap.size a b) (by kernel_rfl) (by decide) (by kernel_rfl) (by kernel_rfl) (fun a => Below.refl _ _) (fun a b c => Below.chain) VC1.keep ?_ ?_
  · refine ⟨?_, ?_, ?_, ?_, ?_, ?_, ?_, ?_, trivial⟩
    · intro a u hR hF hD
      have hR1 := below_undrew hR
      have f1 : a.eval (.tmp 1) = .pointer (some ⟨w.heap.size, 0, none⟩) := hF 1 (by kernel_rfl)
      simp only [Act.eval, Array.getD_eq_getD_getElem?] at f1
      show Oper.wp _ _ _ _ _ _
      unfold Oper.wp
      simp only [execOp]
      go_simp
      exact ⟨_, rfl, rfl, Below.refl _ _⟩
    · intro a u hR hF hD
      have hR1 := below_undrew hR
      have d8 : a.eval (.tmp 8) = .pointer (some ⟨w.heap.size, 0, none⟩) := hD 0 (by kernel_rfl)
      simp only [Act.eval, Array.getD_eq_getD_getElem?] at d8
      have q0 := (HVG.out.keep hR1).cell 0
      simp only [List.getElem?_toArray, List.getElem?_cons_zero] at q0
      show Oper.wp _ _ _ _ _ _
      unfold Oper.wp
      simp only [execOp]
      go_simp
      exact ⟨_, rfl, rfl, Below.refl _ _⟩
    · intro a u hR hF hD
      have hR1 := below_undrew hR
      have d9 : a.eval (.tmp 9) = .slice ao L cap := hD 1 (by kernel_rfl)
      simp only [Act.eval, Array.getD_eq_getD_getElem?] at d9
      have hsz : w.heap.size + 2 ≤ u.heap.size := by have := HS1.out; have := hR1.size; omega
      show Oper.wp _ _ _ _ _ _
      unfold Oper.wp
      simp only [execOp]
      go_simp
      (with_reducible refine (HC1.out u hR1).mono ?_); rintro e u2 ⟨v2, rfl, hO, hb⟩
      exact ⟨_, rfl, hO.base hsz, hb⟩
    · intro a u hR hF hD
      have hR1 := below_undrew hR
      have f1 : a.eval (.tmp 1) = .pointer (some ⟨w.heap.size, 0, none⟩) := hF 1 (by kernel_rfl)
      simp only [Act.eval, Array.getD_eq_getD_getElem?] at f1
      show Oper.wp _ _ _ _ _ _
      unfold Oper.wp
      simp only [execOp]
      go_simp
      exact ⟨_, rfl, rfl, Below.refl _ _⟩
    · intro a u hR hF hD
      have hR1 := below_undrew hR
      have d11 : a.eval (.tmp 11) = .pointer (some ⟨w.heap.size, 1, none⟩) := hD 3 (by kernel_rfl)
      simp only [Act.eval, Array.getD_eq_getD_getElem?] at d11
      have q0 := (HVG.out.keep hR1).cell 1
      simp only [List.getElem?_toArray, List.getElem?_cons_zero, List.getElem?_cons_succ] at q0
      show Oper.wp _ _ _ _ _ _
      unfold Oper.wp
      simp only [execOp]
      go_simp
      exact ⟨_, rfl, rfl, Below.refl _ _⟩
    · intro a u hR hF hD
      have hR1 := below_undrew hR
      have d12 : a.eval (.tmp 12) = .slice bo M cbp := hD 4 (by kernel_rfl)
      simp only [Act.eval, Array.getD_eq_getD_getElem?] at d12
      have hsz : w.heap.size + 2 ≤ u.heap.size := by have := HS1.out; have := hR1.size; omega
      show Oper.wp _ _ _ _ _ _
      unfold Oper.wp
      simp only [execOp]
      go_simp
      (with_reducible refine (HC2.out u hR1).mono ?_); rintro e u2 ⟨v2, rfl, hO, hb⟩
      exact ⟨_, rfl, hO.base hsz, hb⟩
    · intro a u hR hF hD
      have hR1 := below_undrew hR
      have h2 : OwN u (w.heap.size + 2) (a.eval (.tmp 10)) xs := hD 2 (by kernel_rfl)
      have h5 : OwD u (w.heap.size + 2) (a.eval (.tmp 13)) ys := hD 5 (by kernel_rfl)
      obtain ⟨x1, c1, g10⟩ := h2.shape
      obtain ⟨x2, c2, g13⟩ := h5.shape
      rw [g10] at h2
      rw [g13] at h5
      simp only [Act.eval, Array.getD_eq_getD_getElem?] at g10 g13
      show Oper.wp _ _ _ _ _ _
      unfold Oper.wp
      simp only [execOp]
      go_simp
      exact ⟨_, rfl, ⟨_, _, rfl, h2, h5⟩, Below.refl _ _⟩
    · intro a u hR hF hD
      have hR1 := below_undrew hR
      have hsz : w.heap.size + 2 ≤ u.heap.size := by have := HS1.out; have := hR1.size; omega
      show Oper.wp _ _ _ _ _ _
      unfold Oper.wp
      simp only [execOp]
      go_simp
      exact ⟨_, rfl, ⟨_, rfl, hsz, Vr.new _ _ _⟩, below_a1 _ _⟩
  · intro vs u hv hR
    clear HC1 HC2
    have h2 : OwN u (w.heap.size + 2) (vs 2) xs := hv 2 (by decide)
    have h5 : OwD u (w.heap.size + 2) (vs 5) ys := hv 5 (by decide)
    obtain ⟨s, s', e6, hs, hs'⟩ : VC1 w.heap.size (.slice ao L cap) (.slice bo M cbp) xs ys 6 (vs 6) u := hv 6 (by decide)
    obtain ⟨c, e7, hc, hvc⟩ : VC1 w.heap.size (.slice ao L cap) (.slice bo M cbp) xs ys 7 (vs 7) u := hv 7 (by decide)
    simp only [putAll, List.take, List.drop, Act.put, List.setIfInBounds_toArray, List.set_cons_succ, List.set_cons_zero, Nat.zero_add, Nat.reduceAdd]
    rw [e6, e7]
    generalize vs 0 = t0
    generalize vs 1 = t1
    generalize vs 2 = t2
    generalize vs 3 = t3
    generalize vs 4 = t4
    generalize vs 5 = t5
    clear hv h2 h5 e6 e7
    obtain ⟨sa, sc, rfl⟩ := hs.shape
    obtain ⟨sb, sd, rfl⟩ := hs'.shape
    have n1 := hs.notVr hvc (by decide)
    have n2 := hs'.notVr hvc (by decide)
    have hL : xs.length = L := by
      obtain ⟨_, _, e, -⟩ := HR.out
      cases e; rfl
    have hM : ys.length = M := by
      obtain ⟨_, _, e, -⟩ := HR2.out
      cases e; rfl
    rw [hL] at hs n1
    rw [hM] at hs' n2
    rw [hL, hM]
    refine wpList_store_row rfl _ _ _ rfl c #[.slice sa L sc, .slice sb M sd] (by simp [Act.eval]) (by simp [Act.eval]) 25 _ hvc (by kernel_rfl) rfl (by simp [Value.oneCell']) ?_
    have X1 := Lib.hid (hvc.set #[.slice sa L sc, .slice sb M sd])
    have X2 := Lib.hid (hs.setRow n1 #[.slice sa L sc, .slice sb M sd])
    have X3 := Lib.hid (hs'.setRow n2 #[.slice sa L sc, .slice sb M sd])
    have X4 := Lib.hid (below_setRow (below_undrew hR) (show W1.heap.size ≤ c by rw [HS1.out]; exact hc) #[.slice sa L sc, .slice sb M sd])
    generalize u.setRow c #[.slice sa L sc, .slice sb M sd] = W2 at *
    clear hs hs' n1 n2 hvc hR u HVG
    have hLk : L ≤ 1000 := by have := N1.out; have := HN.out; omega
    have hMk : M ≤ 1000 := by have := N2.out; have := HM.out; omega
    have v0 := X1.out.cell 0
    simp only [List.getElem?_toArray, List.getElem?_cons_zero] at v0
    go_wp2_with fail
    clear v0
    go_loopg [4, 5, 18] L (fun gg s4 s5 s18 wr => ∃ i : Nat, ∃ l1 : List Nx, gg + i = L ∧ s18 = .int .i64 i ∧ l1.length = L ∧ OwN wr (w.heap.size + 2) (.slice sa L sc) l1 ∧ (∀ j, i ≤ j → l1[j]! = xs[j]!) ∧ (∀ j, j < i → Nz wr g.nodes[j]! l1[j]!) ∧ OwD wr (w.heap.size + 2) (.slice sb M sd) ys ∧ Vr wr c 25 #[.slice sa L sc, .slice sb M sd] ∧ Below W1.heap.size W1 wr)
    case atStart => exact ⟨0, xs, rfl, rfl, hL, X2.out, fun _ _ => rfl, fun j hj => absurd hj (Nat.not_lt_zero j), X3.out, X1.out, X4.out⟩
    case round =>
      obtain ⟨i, l1, hg, rfl, hl1, hO, hrest, hdone, hOD, hVc, hb⟩ := hrel
      by_cases hlt : i < L
      · have ii : (i : Int) < (L : Int) := by omega
        have hi1 : i < l1.length := by rw [hl1]; exact hlt
        have hix : i < xs.length := by rw [hL]; exact hlt
        have hin : i < g.nodes.length := by rw [N1.out]; exact hix
        obtain ⟨gN, cN, eN, hbN, hlN⟩ := hO.own (by omega)
        rw [hl1] at eN
        cases eN
        have ex : l1[i] = xs[i] := by
          have := hrest i (Nat.le_refl _)
          rwa [getElem!_pos l1 i hi1, getElem!_pos xs i hix] at this
        have hc0 := hO.at' i hi1
        have HZ := Lib.hid ((HK.out.2 i hin hix).keep hb)
        have HO0 := Lib.hid hO
        have Hth := Lib.hid (fun j => hO.thaw j)
        have HOD := Lib.hid hOD
        have HVc := Lib.hid hVc
        have HB := Lib.hid hb
        have HRest := Lib.hid hrest
        have HDone := Lib.hid hdone
        have Hset := Lib.hid (show ∀ (x' : Nx) j, i ≠ j → (l1.set i x')[j]! = l1[j]! by
          intro x' j hj
          simp [List.getElem!_eq_getElem?_getD, hj])
        have Hset2 := Lib.hid (show ∀ (x' : Nx), (l1.set i x')[i]! = x' by
          intro x'
          simp [hi1])
        have HGi := Lib.hid (show g.nodes[i]! = g.nodes[i] from getElem!_pos g.nodes i hin)
        rw [ex] at hc0
        have HEx := Lib.hid ex
        clear hO hOD hVc hb hrest hdone
        generalize xs[i] = x at *
        generalize g.nodes[i] = d at *
        obtain ⟨xn, ⟨xla, xln, xlc⟩, ⟨xpa, xpn, xpc⟩⟩ := x
        obtain ⟨dn, dl, dp⟩ := d
        obtain ⟨z0, z1, z2, z3, z4, z5⟩ := HZ.out
        dsimp only at z0 z1 z2 z3 z4 z5
        subst z0
        have q0 := hc0 0 (by omega)
        have q1 := hc0 1 (by omega)
        have q2 := hc0 2 (by omega)
        simp only [encN, List.getElem?_cons_zero, List.getElem?_cons_succ, Nat.add_zero, Sl.v] at q0 q1 q2
        clear hc0 ex
        have Q1 := Lib.hid q1
        have Q2 := Lib.hid q2
        have q1' := q1
        have VX := Lib.hid (Vr.new wr 43 #[.string xn, .slice xla xln xlc, .slice xpa xpn xpc])
        have B2 := below_a1 wr (.cells #[.string xn, .slice xla xln xlc, .slice xpa xpn xpc] 43)
        have SZ := Lib.hid (show (wr.alloc (.cells #[.string xn, .slice xla xln xlc, .slice xpa xpn xpc] 43)).heap.size = wr.heap.size + 1 by simp)
        generalize hWB : wr.alloc (.cells #[.string xn, .slice xla xln xlc, .slice xpa xpn xpc] 43) = WB at *
        have CS := Lib.hid (fun w' (hb' : Below WB.heap.size WB w') => cloneS_any dl _ w' ((z1.keep B2).keep hb') (by have := z4.le; omega))
        have CP := Lib.hid (fun w' (hb' : Below WB.heap.size WB w') => cloneP_any dp _ w' ((z2.keep B2).keep hb') (by have := z5.le; omega))
        dsimp only [Sl.v] at CS CP
        have B2h := Lib.hid B2
        have KP := Lib.hid (show ∀ w', Below WB.heap.size WB w' → (w'.cell? ⟨c, 0, none⟩ = some (.slice (some ⟨gN, 0, none⟩) L sc) ∧ w'.cell? ⟨wr.heap.size, 1, none⟩ = some (.slice xla xln xlc) ∧ w'.cell? ⟨wr.heap.size, 2, none⟩ = some (.slice xpa xpn xpc)) from fun w' hb' => ⟨by
          have := (HVc.out.keep (Below.chain B2h.out hb')).cell 0
          simpa using this, by
          have := (VX.out.keep hb').cell 1
          simpa using this, by
          have := (VX.out.keep hb').cell 2
          simpa using this⟩)
        go_wp2_with fail
        clear hWB
        have K0 := Lib.hid (KP.out _ (Below.refl _ _).drew)
        have hcg : (⟨gN, 0, none⟩ : Addr).block ≠ c := fun e => HO0.out.notVr HVc.out (by decide) (by simp only at e; simp [Value.ownBlock, e])
        have KQ := Lib.hid (show ∀ (w' : World) (o : Nat) (y : Value), (w'.cell? ⟨c, 0, none⟩ = some (.slice (some ⟨gN, 0, none⟩) L sc) ∧ w'.cell? ⟨wr.heap.size, 1, none⟩ = some (.slice xla xln xlc) ∧ w'.cell? ⟨wr.heap.size, 2, none⟩ = some (.slice xpa xpn xpc)) → ((w'.setCell ⟨gN, o, none⟩ y).cell? ⟨c, 0, none⟩ = some (.slice (some ⟨gN, 0, none⟩) L sc) ∧ (w'.setCell ⟨gN, o, none⟩ y).cell? ⟨wr.heap.size, 1, none⟩ = some (.slice xla xln xlc) ∧ (w'.setCell ⟨gN, o, none⟩ y).cell? ⟨wr.heap.size, 2, none⟩ = some (.slice xpa xpn xpc)) from by
          rintro w' o y ⟨k1, k2, k3⟩
          refine ⟨?_, ?_, ?_⟩
          · rw [World.cell?_setCell_other _ _ _ _ (by intro e; cases e; exact hcg rfl)]; exact k1
          · rw [World.cell?_setCell_other _ _ _ _ (by intro e; cases e; exact Nat.lt_irrefl _ hlN)]; exact k2
          · rw [World.cell?_setCell_other _ _ _ _ (by intro e; cases e; exact Nat.lt_irrefl _ hlN)]; exact k3)
        clear hcg
        go_region_held3 (fun w' => w'.cell? ⟨c, 0, none⟩ = some (.slice (some ⟨gN, 0, none⟩) L sc) ∧ w'.cell? ⟨wr.heap.size, 1, none⟩ = some (.slice xla xln xlc) ∧ w'.cell? ⟨wr.heap.size, 2, none⟩ = some (.slice xpa xpn xpc))
          (first | exact K0.out | exact KP.out _ b2 | exact KP.out _ b3 | exact KQ.out _ _ _ (KP.out _ b3) | exact KQ.out _ _ _ (KQ.out _ _ _ (KP.out _ b3)))
          (first
            | (go_simp; go_at_call 47; refine (CS.out _ (Below.refl _ _).drew).mono ?_; rintro e w2 ⟨v2, rfl, o2, b2'⟩; have b2 := Below.chain (Below.refl _ _).drew b2'; obtain ⟨a2, c2, rfl⟩ := o2.shape)
            | (go_simp; go_at_call 52; refine (CP.out _ b2).mono ?_; rintro e w3 ⟨v3, rfl, o3, b3'⟩; have b3 := Below.chain b2 b3'; obtain ⟨a3, c3, rfl⟩ := o3.shape; have bw := Below.chain B2h.out b3; have qa := (bw.cell (block_lt_of_cell Q1.out)).trans Q1.out; have qb := (bw.cell (block_lt_of_cell Q2.out)).trans Q2.out; have fa := (bw.frozen (p := ⟨gN, i * 3 + 1, none⟩) hlN).trans (Hth.out _); have fb := (bw.frozen (p := ⟨gN, i * 3 + 2, none⟩) hlN).trans (Hth.out _)))
        have hp := putN (HO0.out.below bw) hi1 ⟨a2, dl.length, c2⟩ ⟨a3, dp.length, c3⟩
        rw [HEx.out] at hp
        dsimp only [Sl.v] at hp
        have hks := (KS.of bw).trans hp.2.1
        have hge : W1.heap.size ≤ gN := by rw [HS1.out]; exact hbN
        have hNz : Nz _ ⟨xn, dl, dp⟩ ⟨xn, ⟨a2, dl.length, c2⟩, ⟨a3, dp.length, c3⟩⟩ := ⟨rfl, (o2.rw.keep b3').turn noS hp.2.1, o3.rw.turn noP hp.2.1, z3, z4, z5⟩
        have HP := Lib.hid hp
        have HKS := Lib.hid hks
        have HNz := Lib.hid hNz
        have HBW := Lib.hid (((HB.out.trans (bw.mono HB.out.size)).setCell (p := ⟨gN, i * 3 + 1, none⟩) hge (.slice a2 dl.length c2)).setCell (p := ⟨gN, i * 3 + 2, none⟩) hge (.slice a3 dp.length c3))
        have HBw := Lib.hid bw
        clear hp hks hNz bw qa qb fa fb b2 b3 b2' b3' o2 o3 q0 q1 q2 q1' z3
        go_wp2_with fail
        go_roundg (L - (i + 1))
        case rel =>
          refine ⟨i + 1, _, by omega, by go_num, by rw [List.length_set]; exact hl1, HP.out.1, fun j hj => ?_, fun j hj => ?_, HP.out.2.2.2 _ _ _ (HOD.out.below HBw.out), HP.out.2.2.1 _ _ _ (by decide) (HVc.out.keep HBw.out), HBW.out⟩
          · rw [Hset.out _ j (by omega)]
            exact HRest.out j (by omega)
          · by_cases hji : j = i
            · subst hji
              rw [Hset2.out, HGi.out]
              exact HNz.out
            · rw [Hset.out _ j (Ne.symm hji)]
              exact (HDone.out j (by omega)).turn HKS.out
        case measure => omega
      · obtain rfl : L = i := by omega
        have ii : ¬ ((L : Int) < (L : Int)) := by omega
        have HNs := Lib.hid (show Ns wr g.nodes l1 from ⟨by have := N1.out; omega, fun j h1 h2 => by
          have := hdone j (by omega)
          rwa [getElem!_pos g.nodes j h1, getElem!_pos l1 j h2] at this⟩)
        have HOx := Lib.hid hO
        have HODx := Lib.hid hOD
        have HVx := Lib.hid hVc
        have HBx := Lib.hid hb
        clear hO hOD hVc hb hrest hdone
        have v1 := HVx.out.cell 1
        simp only [List.getElem?_toArray, List.getElem?_cons_zero, List.getElem?_cons_succ] at v1
        rename World => wA
        rename List Nx => lN
        go_wp2_with fail
        clear v1
        go_loopg [6, 7, 43] M (fun gg s6 s7 s43 wr => ∃ i : Nat, ∃ l1 : List Dx, gg + i = M ∧ s43 = .int .i64 i ∧ l1.length = M ∧ OwD wr (w.heap.size + 2) (.slice sb M sd) l1 ∧ (∀ j, i ≤ j → l1[j]! = ys[j]!) ∧ (∀ j, j < i → Dz wr g.edges[j]! l1[j]!) ∧ (OwN wr (w.heap.size + 2) (.slice sa L sc) lN ∧ Ns wr g.nodes lN) ∧ Vr wr c 25 #[.slice sa L sc, .slice sb M sd] ∧ Below W1.heap.size W1 wr)
        case atStart => exact ⟨0, ys, rfl, rfl, hM, HODx.out, fun _ _ => rfl, fun j hj => absurd hj (Nat.not_lt_zero j), ⟨HOx.out, HNs.out⟩, HVx.out, HBx.out⟩
        case round =>
          obtain ⟨i, l1, hg, rfl, hl1, hO, hrest, hdone, hOD, hVc, hb⟩ := hrel
          by_cases hlt : i < M
          · have ii : (i : Int) < (M : Int) := by omega
            have hi1 : i < l1.length := by rw [hl1]; exact hlt
            have hix : i < ys.length := by rw [hM]; exact hlt
            have hin : i < g.edges.length := by rw [N2.out]; exact hix
            obtain ⟨gN, cN, eN, hbN, hlN⟩ := hO.own (by omega)
            rw [hl1] at eN
            cases eN
            have ex : l1[i] = ys[i] := by
              have := hrest i (Nat.le_refl _)
              rwa [getElem!_pos l1 i hi1, getElem!_pos ys i hix] at this
            have hc0 := hO.at' i hi1
            have HZ := Lib.hid ((HK2.out.2 i hin hix).keep hb)
            have HO0 := Lib.hid hO
            have Hth := Lib.hid (fun j => hO.thaw j)
            have HOD := Lib.hid hOD
            have HVc := Lib.hid hVc
            have HB := Lib.hid hb
            have HRest := Lib.hid hrest
            have HDone := Lib.hid hdone
            have Hset := Lib.hid (show ∀ (x' : Dx) j, i ≠ j → (l1.set i x')[j]! = l1[j]! by
              intro x' j hj
              simp [List.getElem!_eq_getElem?_getD, hj])
            have Hset2 := Lib.hid (show ∀ (x' : Dx), (l1.set i x')[i]! = x' by
              intro x'
              simp [hi1])
            have HGi := Lib.hid (show g.edges[i]! = g.edges[i] from getElem!_pos g.edges i hin)
            rw [ex] at hc0
            have HEx := Lib.hid ex
            clear hO hOD hVc hb hrest hdone
            generalize ys[i] = x at *
            generalize g.edges[i] = d at *
            obtain ⟨xn, xf, xt, xd, ⟨xla, xln, xlc⟩, ⟨xpa, xpn, xpc⟩⟩ := x
            obtain ⟨dn, df, dt, dd, dl, dp⟩ := d
            obtain ⟨z0, z1, z2, z3, zf, zt, z4, z5, z6, z7, z8⟩ := HZ.out
            dsimp only at z0 z1 z2 z3 zf zt z4 z5 z6 z7 z8
            subst z0 z1 z2 z3
            have q0 := hc0 0 (by omega)
            have q1 := hc0 1 (by omega)
            have q2 := hc0 2 (by omega)
            have q3 := hc0 3 (by omega)
            have q4 := hc0 4 (by omega)
            have q5 := hc0 5 (by omega)
            simp only [encD, List.getElem?_cons_zero, List.getElem?_cons_succ, Nat.add_zero, Sl.v] at q0 q1 q2 q3 q4 q5
            clear hc0 ex
            have Q1 := Lib.hid q4
            have Q2 := Lib.hid q5
            have q4' := q4
            have VX := Lib.hid (Vr.new wr 45 #[.string xn, .int .i64 xf, .int .i64 xt, .bool xd, .slice xla xln xlc, .slice xpa xpn xpc])
            have B2 := below_a1 wr (.cells #[.string xn, .int .i64 xf, .int .i64 xt, .bool xd, .slice xla xln xlc, .slice xpa xpn xpc] 45)
            have SZ := Lib.hid (show (wr.alloc (.cells #[.string xn, .int .i64 xf, .int .i64 xt, .bool xd, .slice xla xln xlc, .slice xpa xpn xpc] 45)).heap.size = wr.heap.size + 1 by simp)
            generalize hWB : wr.alloc (.cells #[.string xn, .int .i64 xf, .int .i64 xt, .bool xd, .slice xla xln xlc, .slice xpa xpn xpc] 45) = WB at *
            have CS := Lib.hid (fun w' (hb' : Below WB.heap.size WB w') => cloneS_any dl _ w' ((z4.keep B2).keep hb') (by have := z7.le; omega))
            have CP := Lib.hid (fun w' (hb' : Below WB.heap.size WB w') => cloneP_any dp _ w' ((z5.keep B2).keep hb') (by have := z8.le; omega))
            dsimp only [Sl.v] at CS CP
            have B2h := Lib.hid B2
            have KP := Lib.hid (show ∀ w', Below WB.heap.size WB w' → (w'.cell? ⟨c, 1, none⟩ = some (.slice (some ⟨gN, 0, none⟩) M sd) ∧ w'.cell? ⟨wr.heap.size, 4, none⟩ = some (.slice xla xln xlc) ∧ w'.cell? ⟨wr.heap.size, 5, none⟩ = some (.slice xpa xpn xpc)) from fun w' hb' => ⟨by
              have := (HVc.out.keep (Below.chain B2h.out hb')).cell 1
              simpa using this, by
              have := (VX.out.keep hb').cell 4
              simpa using this, by
              have := (VX.out.keep hb').cell 5
              simpa using this⟩)
            go_wp2_with fail
            clear hWB
            have K0 := Lib.hid (KP.out _ (Below.refl _ _).drew)
            have hcg : (⟨gN, 0, none⟩ : Addr).block ≠ c := fun e => HO0.out.notVr HVc.out (by decide) (by simp only at e; simp [Value.ownBlock, e])
            have KQ := Lib.hid (show ∀ (w' : World) (o : Nat) (y : Value), (w'.cell? ⟨c, 1, none⟩ = some (.slice (some ⟨gN, 0, none⟩) M sd) ∧ w'.cell? ⟨wr.heap.size, 4, none⟩ = some (.slice xla xln xlc) ∧ w'.cell? ⟨wr.heap.size, 5, none⟩ = some (.slice xpa xpn xpc)) → ((w'.setCell ⟨gN, o, none⟩ y).cell? ⟨c, 1, none⟩ = some (.slice (some ⟨gN, 0, none⟩) M sd) ∧ (w'.setCell ⟨gN, o, none⟩ y).cell? ⟨wr.heap.size, 4, none⟩ = some (.slice xla xln xlc) ∧ (w'.setCell ⟨gN, o, none⟩ y).cell? ⟨wr.heap.size, 5, none⟩ = some (.slice xpa xpn xpc)) from by
              rintro w' o y ⟨k1, k2, k3⟩
              refine ⟨?_, ?_, ?_⟩
              · rw [World.cell?_setCell_other _ _ _ _ (by intro e; cases e; exact hcg rfl)]; exact k1
              · rw [World.cell?_setCell_other _ _ _ _ (by intro e; cases e; exact Nat.lt_irrefl _ hlN)]; exact k2
              · rw [World.cell?_setCell_other _ _ _ _ (by intro e; cases e; exact Nat.lt_irrefl _ hlN)]; exact k3)
            clear hcg
            go_region_held3 (fun w' => w'.cell? ⟨c, 1, none⟩ = some (.slice (some ⟨gN, 0, none⟩) M sd) ∧ w'.cell? ⟨wr.heap.size, 4, none⟩ = some (.slice xla xln xlc) ∧ w'.cell? ⟨wr.heap.size, 5, none⟩ = some (.slice xpa xpn xpc))
              (first | exact K0.out | exact KP.out _ b2 | exact KP.out _ b3 | exact KQ.out _ _ _ (KP.out _ b3) | exact KQ.out _ _ _ (KQ.out _ _ _ (KP.out _ b3)))
              (first
                | (go_simp; go_at_call 47; refine (CS.out _ (Below.refl _ _).drew).mono ?_; rintro e w2 ⟨v2, rfl, o2, b2'⟩; have b2 := Below.chain (Below.refl _ _).drew b2'; obtain ⟨a2, c2, rfl⟩ := o2.shape)
                | (go_simp; go_at_call 52; refine (CP.out _ b2).mono ?_; rintro e w3 ⟨v3, rfl, o3, b3'⟩; have b3 := Below.chain b2 b3'; obtain ⟨a3, c3, rfl⟩ := o3.shape; have bw := Below.chain B2h.out b3; have qa := (bw.cell (block_lt_of_cell Q1.out)).trans Q1.out; have qb := (bw.cell (block_lt_of_cell Q2.out)).trans Q2.out; have fa := (bw.frozen (p := ⟨gN, i * 6 + 4, none⟩) hlN).trans (Hth.out _); have fb := (bw.frozen (p := ⟨gN, i * 6 + 5, none⟩) hlN).trans (Hth.out _)))
            have hp := putD (HO0.out.below bw) hi1 ⟨a2, dl.length, c2⟩ ⟨a3, dp.length, c3⟩
            rw [HEx.out] at hp
            dsimp only [Sl.v] at hp
            have hks := (KS.of bw).trans hp.2.1
            have hge : W1.heap.size ≤ gN := by rw [HS1.out]; exact hbN
            have hNz : Dz _ ⟨xn, xf, xt, xd, dl, dp⟩ ⟨xn, xf, xt, xd, ⟨a2, dl.length, c2⟩, ⟨a3, dp.length, c3⟩⟩ := ⟨rfl, rfl, rfl, rfl, zf, zt, (o2.rw.keep b3').turn noS hp.2.1, o3.rw.turn noP hp.2.1, z6, z7, z8⟩
            have HP := Lib.hid hp
            have HKS := Lib.hid hks
            have HNz := Lib.hid hNz
            have HBW := Lib.hid (((HB.out.trans (bw.mono HB.out.size)).setCell (p := ⟨gN, i * 6 + 4, none⟩) hge (.slice a2 dl.length c2)).setCell (p := ⟨gN, i * 6 + 5, none⟩) hge (.slice a3 dp.length c3))
            have HBw := Lib.hid bw
            clear hp hks hNz bw qa qb fa fb b2 b3 b2' b3' o2 o3 q0 q1 q2 q3 q4 q5 q4' z6 zf zt
            go_wp2_with fail
            go_roundg (M - (i + 1))
            case rel =>
              refine ⟨i + 1, _, by omega, by go_num, by rw [List.length_set]; exact hl1, HP.out.1, fun j hj => ?_, fun j hj => ?_, ⟨HP.out.2.2.2 _ _ _ (HOD.out.1.below HBw.out), HOD.out.2.turn HKS.out⟩, HP.out.2.2.1 _ _ _ (by decide) (HVc.out.keep HBw.out), HBW.out⟩
              · rw [Hset.out _ j (by omega)]
                exact HRest.out j (by omega)
              · by_cases hji : j = i
                · subst hji
                  rw [Hset2.out, HGi.out]
                  exact HNz.out
                · rw [Hset.out _ j (Ne.symm hji)]
                  exact (HDone.out j (by omega)).turn HKS.out
            case measure => omega
          · obtain rfl : M = i := by omega
            have ii : ¬ ((M : Int) < (M : Int)) := by omega
            have HDs := Lib.hid (show Ds wr g.edges l1 from ⟨by have := N2.out; omega, fun j h1 h2 => by
              have := hdone j (by omega)
              rwa [getElem!_pos g.edges j h1, getElem!_pos l1 j h2] at this⟩)
            have HOy := Lib.hid hO
            have HODy := Lib.hid hOD
            have HVy := Lib.hid hVc
            have HBy := Lib.hid hb
            clear hO hOD hVc hb hrest hdone
            have v0 := HVy.out.cell 0
            simp only [List.getElem?_toArray, List.getElem?_cons_zero] at v0
            have v1 := HVy.out.cell 1
            simp only [List.getElem?_toArray, List.getElem?_cons_zero, List.getElem?_cons_succ] at v1
            have hbR := HVR.out.keep HBy.out
            have r0 := hbR.cell 0
            have r1 := hbR.cell 1
            simp only [List.getElem?_toArray, List.getElem?_cons_zero, List.getElem?_cons_succ] at r0 r1
            have th0 := hbR.thaw 0
            have th1 := hbR.thaw 1
            clear hbR
            go_wp2_with fail
            have k1 := KS.set r0 (.slice sa L sc)
            have r1' : (wr.setCell ⟨w.heap.size + 1, 0, none⟩ (.slice sa L sc)).cell? ⟨w.heap.size + 1, 1, none⟩ = some (.slice none 0 0) := by
              rw [World.cell?_setCell_other _ _ _ _ (by simp)]; exact r1
            have r0' : (wr.setCell ⟨w.heap.size + 1, 0, none⟩ (.slice sa L sc)).cell? ⟨w.heap.size + 1, 0, none⟩ = some (.slice sa L sc) := World.cell?_setCell_same' _ _ _ (by rw [r0]; rfl)
            have k2 := k1.trans (KS.set r1' (.slice sb M sd))
            refine ret_g7 (v0 := .slice sa L sc) (v1 := .slice sb M sd) rfl rfl rfl (by rw [World.cell?_setCell_other _ _ _ _ (by simp)]; exact r0') (World.cell?_setCell_same' _ _ _ (by rw [r1']; rfl)) ?_
            have hO1 := HODy.out.1
            have hO2 := HOy.out
            have n1 : (Value.slice sa L sc).ownBlock ≠ some (w.heap.size + 1) := fun h => by have := hO1.row _ h; omega
            have n2 : (Value.slice sb M sd).ownBlock ≠ some (w.heap.size + 1) := fun h => by have := hO2.row _ h; omega
            refine ⟨⟨⟨sa, L, sc⟩, ⟨sb, M, sd⟩⟩, rfl, ⟨⟨lN, ((hO1.set n1 _).set n1 _).rw, HODy.out.2.turn k2⟩, ⟨l1, ((hO2.set n2 _).set n2 _).rw, HDs.out.turn k2⟩, Lim.of (by have := HN.out; omega), Lim.of (by have := HM.out; omega)⟩, ?_⟩
            have hbb := HB1.out.trans (HBy.out.mono HB1.out.size)
            exact (hbb.setCell (p := ⟨w.heap.size + 1, 0, none⟩) (Nat.le_succ _) _).setCell (p := ⟨w.heap.size + 1, 1, none⟩) (Nat.le_succ _) _
/-- a copy of a graph in memory -/
theorem clone_any {g : Gd} {x : Gx} {w : World} (h : Gz w g x) (hn : g.nodes.length ≤ 1000) (hm : g.edges.length ≤ 1000) :
    Calls Try.prog 34 #[gv x] w fun e w' => ∃ x', e = .returned (gv x') ∧ Gz w' g x' ∧ Below w.heap.size w w' := by
  obtain ⟨⟨xs, h1, h2⟩, ⟨ys, h3, h4⟩, -⟩ := h
  exact clone_core g xs ys x.ns x.es w h1 h3 h2 h4 hn hm
end Go.Proofs.Ytdoefndppoglfaa
