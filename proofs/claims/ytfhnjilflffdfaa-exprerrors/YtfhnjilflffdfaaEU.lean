import Derived.Test.YtfhnjilflffdfaaER
namespace Go.Proofs.Ytfhnjilflffdfaa
open Go Go.RowKit
set_option linter.unusedVariables false
theorem Vr.cells7 {w : World} {b : Nat} {e : TypeId} {x : Xc} (h : Vr w b e (xcs x)) : w.cell? ⟨b, 0, none⟩ = some (.int .i64 x.kind) ∧ w.cell? ⟨b, 1, none⟩ = some (.string x.name) ∧ w.cell? ⟨b, 2, none⟩ = some (.int .i64 x.v.k) ∧ w.cell? ⟨b, 3, none⟩ = some (.int .i64 x.v.n) ∧ w.cell? ⟨b, 4, none⟩ = some (.float .f64 x.v.f) ∧ w.cell? ⟨b, 5, none⟩ = some (.string x.v.s) ∧ w.cell? ⟨b, 6, none⟩ = some (.slice x.ao x.len x.cap) :=
  ⟨h.cell 0, h.cell 1, h.cell 2, h.cell 3, h.cell 4, h.cell 5, h.cell 6⟩
theorem Vr.thaw {w : World} {b : Nat} {e : TypeId} {cs : Array Value} (h : Vr w b e cs) (j : Nat) : w.frozen? ⟨b, j, none⟩ = false := by
  have h' : w.heap[b]? = some (.cells cs e (0, 0)) := h
  simp [World.frozen?, h']
theorem Vr.setKids {w : World} {b : Nat} {e : TypeId} {x : Xc} (h : Vr w b e (xcs x)) (a : Option Addr) (n c : Nat) : Vr (w.setCell ⟨b, 6, none⟩ (.slice a n c)) b e (xcs { x with ao := a, len := n, cap := c }) := by
  rw [setCell_eq_setRow w b 6 (xcs x) e (0, 0) _ h]
  exact h.set _
theorem Vr.setName {w : World} {b : Nat} {e : TypeId} {x : Xc} (h : Vr w b e (xcs x)) (s : ByteArray) : Vr (w.setCell ⟨b, 1, none⟩ (.string s)) b e (xcs { x with name := s }) := by
  rw [setCell_eq_setRow w b 1 (xcs x) e (0, 0) _ h]
  exact h.set _
theorem Vr.far {w : World} {b b' : Nat} {e e' : TypeId} {cs : Array Value} (h : Vr w b e cs) (hne : b ≠ b') (j : Nat) (u : Value) : Vr (w.setCell ⟨b', j, none⟩ u) b e cs := by
  have := Below.heap_setCell w ⟨b', j, none⟩ u b hne
  exact this.trans h
theorem Vr.grown {w w' : World} {b : Nat} {e : TypeId} {cs : Array Value} {r : Option Nat} (h : Vr w b e cs) (hg : w.grownBy w' r) (hne : some b ≠ r) : Vr w' b e cs := (hg.block b h.lt hne).trans h
/-- an expression in memory, whose slices lie in blocks of S -/
inductive TrS (S : Nat → Prop) (w : World) : Ex → List Value → Prop
  | mk (kind : Int) (name : ByteArray) (v : Vl) (kids : List Ex) (ao : Option Addr) (cap : Nat) (cs : Nat → List Value)
    (hv : v.Ok) (hcap : kids.length ≤ cap) (hm : cap ≤ maxLen) (hn : ao = none → cap = 0)
    (hc : ∀ i, i < kids.length → ∃ b o, ao = some ⟨b, o, none⟩ ∧ S b ∧ (cs i).length = 7 ∧ ∀ j, j < 7 → w.cell? ⟨b, o + i * 7 + j, none⟩ = (cs i)[j]?)
    (hk : ∀ i (h : i < kids.length), TrS S w kids[i] (cs i)) :
    TrS S w (.node kind name v kids) [.int .i64 kind, .string name, .int .i64 v.k, .int .i64 v.n, .float .f64 v.f, .string v.s, .slice ao kids.length cap]
theorem TrS.tr {S : Nat → Prop} {w : World} {t : Ex} {cs : List Value} (h : TrS S w t cs) : Tr w t cs := by
  induction h with
  | mk kind name v kids ao cap cs hv hcap hm hn hc hk ih =>
    exact .mk kind name v kids ao cap cs hv hcap hm hn (fun i hi => let ⟨b, o, ha, _, hl, hcell⟩ := hc i hi; ⟨b, o, ha, hl, hcell⟩) ih
theorem TrS.move {S S' : Nat → Prop} {w w' : World} {t : Ex} {cs : List Value} (h : TrS S w t cs) (hm : ∀ b o u, S b → w.cell? ⟨b, o, none⟩ = some u → S' b ∧ w'.cell? ⟨b, o, none⟩ = some u) : TrS S' w' t cs := by
  induction h with
  | mk kind name v kids ao cap cs hv hcap hm' hn hc hk ih =>
    refine .mk kind name v kids ao cap cs hv hcap hm' hn (fun i hi => ?_) ih
    obtain ⟨b, o, ha, hs, hl, hcell⟩ := hc i hi
    have hx : ∀ j, (hj : j < 7) → S' b ∧ w'.cell? ⟨b, o + i * 7 + j, none⟩ = (cs i)[j]? := fun j hj => by
      have hcj := hcell j hj
      rw [List.getElem?_eq_getElem (by omega)] at hcj ⊢
      exact hm b _ _ hs hcj
    exact ⟨b, o, ha, (hx 0 (by omega)).1, hl, fun j hj => (hx j hj).2⟩
def TxS (S : Nat → Prop) (w : World) (t : Ex) (x : Xc) : Prop := TrS S w t (encX.enc x)
theorem TxS.tx {S : Nat → Prop} {w : World} {t : Ex} {x : Xc} (h : TxS S w t x) : Tx w t x := TrS.tr h
def TxsS (S : Nat → Prop) (w : World) (l : List Ex) (xs : List Xc) : Prop := l.length = xs.length ∧ ∀ i (h : i < l.length) (h' : i < xs.length), TxS S w l[i] xs[i]
theorem TxsS.nil (S : Nat → Prop) (w : World) : TxsS S w [] [] := ⟨rfl, fun i h => by simp at h⟩
theorem TxsS.move {S S' : Nat → Prop} {w w' : World} {l : List Ex} {xs : List Xc} (h : TxsS S w l xs) (hm : ∀ b o u, S b → w.cell? ⟨b, o, none⟩ = some u → S' b ∧ w'.cell? ⟨b, o, none⟩ = some u) : TxsS S' w' l xs := ⟨h.1, fun i hi hi' => TrS.move (h.2 i hi hi') hm⟩
theorem TxsS.keep {S : Nat → Prop} {w w' : World} {l : List Ex} {xs : List Xc} (h : TxsS S w l xs) (hb : Below w.heap.size w w') : TxsS S w' l xs := h.move fun b o u hs hc => ⟨hs, (hb.cell (block_lt_of_cell hc)).trans hc⟩
theorem TxS.keep {S : Nat → Prop} {w w' : World} {t : Ex} {x : Xc} (h : TxS S w t x) (hb : Below w.heap.size w w') : TxS S w' t x := TrS.move h fun b o u hs hc => ⟨hs, (hb.cell (block_lt_of_cell hc)).trans hc⟩
theorem TxsS.app {S : Nat → Prop} {w : World} {l : List Ex} {xs : List Xc} {t : Ex} {x : Xc} (h : TxsS S w l xs) (k : TxS S w t x) : TxsS S w (l ++ [t]) (xs ++ [x]) := by
  refine ⟨by simp [h.1], fun i hi hi' => ?_⟩
  by_cases hl : i < l.length
  · rw [List.getElem_append_left hl, List.getElem_append_left (by rw [← h.1]; exact hl)]; exact h.2 i hl (by rw [← h.1]; exact hl)
  · have hi2 : i < l.length + 1 := by simpa using hi
    rw [List.getElem_append_right (by omega), List.getElem_append_right (by rw [← h.1]; omega)]
    have e : i - l.length = 0 := by omega
    have e' : i - xs.length = 0 := by have := h.1; omega
    simp only [e, e']; exact k
/-- an expression whose kids the call itself has laid -/
theorem TxS.own {S : Nat → Prop} {w : World} {kind : Int} {name : ByteArray} {v : Vl} {kids : List Ex} {xs : List Xc} {base : Nat} {ao : Option Addr} {len cap : Nat} (hv : v.Ok) (hO : OwX w base (.slice ao len cap) xs) (hS : ∀ b, base ≤ b → S b) (hk : TxsS S w kids xs) : TxS S w (.node kind name v kids) ⟨kind, name, v, ao, len, cap⟩ := by
  have hrow := hO.row
  have hcase : xs.length = 0 ∨ ∃ g, ao = some ⟨g, 0, none⟩ := by
    rcases hO.2 with ⟨_, hn⟩ | ⟨g, c, cur, he, _⟩
    · exact .inl hn
    · simp only [Value.slice.injEq] at he; exact .inr ⟨g, he.1⟩
  obtain ⟨ao', cap', he, h2, h3, h4, h5⟩ := hO.rw
  simp only [Value.slice.injEq] at he
  obtain ⟨rfl, hl, rfl⟩ := he
  have e := hk.1
  have := TrS.mk (S := S) (w := w) kind name v kids ao cap (fun i => if h : i < xs.length then encX.enc xs[i] else []) hv (by omega) h3 h4 (fun i hi => by
    obtain ⟨b, o, ha, hc⟩ := h5 i (by omega)
    refine ⟨b, o, ha, ?_, ?_, fun j hj => ?_⟩
    · rcases hcase with h0 | ⟨g, hg⟩
      · omega
      · have : b = g := by rw [ha] at hg; simp at hg; exact hg.1
        subst this
        exact hS b (hrow b (by rw [hg]; rfl))
    · rw [dif_pos (by omega)]; rfl
    · rw [dif_pos (by omega)]; exact hc j hj) (fun i hi => by rw [dif_pos (by omega)]; exact hk.2 i hi (by omega))
  rw [show kids.length = len by omega] at this
  exact this
theorem Ow.shapeN {α : Type} {sz : Nat} {E : Enc α sz} {e : TypeId} {w : World} {base : Nat} {v : Value} {l : List α} (h : Ow E e w base v l) {n : Nat} (hn : l.length = n) : ∃ a c, v = .slice a n c := by
  obtain ⟨a, c, hv⟩ := h.shape
  exact ⟨a, c, by rw [hv, hn]⟩
set_option maxHeartbeats 4000000 in
theorem turned_any : ∀ (t : Ex), formed t = true → ∀ (x : Xc) (w : World), Tx w t x →
    Calls Try.prog 13 #[xv x] w fun e w' => ∃ y, e = .returned (xv y) ∧ TxS (fun b => w.heap.size ≤ b) w' (turn t) y ∧ Below w.heap.size w w' := by
  refine fun t => ex_ind (P := fun t => formed t = true → ∀ (x : Xc) (w : World), Tx w t x → Calls Try.prog 13 #[xv x] w fun e w' => ∃ y, e = .returned (xv y) ∧ TxS (fun b => w.heap.size ≤ b) w' (turn t) y ∧ Below w.heap.size w w') ?_ t
  intro kind name v kids ih hf x w h
  have hsf := run_store_float
  obtain ⟨e1, e2, e3, hv, xs, hr, hk⟩ := h.inv
  obtain ⟨xk, xn, ⟨vk, vn, vf, vs⟩, ao, len, cap⟩ := x
  dsimp only at e1 e2 e3 hr
  subst e1 e2 e3
  have hlen : len = kids.length := by
    obtain ⟨_, _, he, _⟩ := hr
    cases he; exact hk.1.symm
  have hl2 : len ≤ 2 := by
    rw [hlen]
    rcases formed_inv hf with ⟨-, -, e, -⟩ | ⟨-, -, e, -⟩ | ⟨-, -, h0, h1, -⟩
    · rw [e]; simp
    · rw [e]; simp
    · rw [← h1]; rcases opN_cases _ h0 with e | e <;> omega
  have hfk : ∀ t ∈ kids, formed t = true := by
    rcases formed_inv hf with ⟨-, -, e, -⟩ | ⟨-, -, e, -⟩ | ⟨-, -, h0, h1, hk⟩
    · rw [e]; intro t ht; cases ht
    · rw [e]; intro t ht; cases ht
    · exact hk
  have hlc : len ≤ cap := by
    obtain ⟨_, _, he, h2, h3, _⟩ := hr
    cases he; exact h2
  have HL := Lib.hid hlen
  have IH := Lib.hid ih
  have HF := Lib.hid hf
  have HFK := Lib.hid hfk
  have HR := Lib.hid hr
  have HK := Lib.hid hk
  have HV := Lib.hid hv
  clear h hr hk hlen ih hf hfk hv
  go_enter Try.func13, Try.ntmps13
  go_upto_region 3 with fail
  generalize hW : ((w.alloc (.cells #[.int .i64 xk, .string xn, .int .i64 vk, .int .i64 vn, .float .f64 vf, .string vs, .slice ao len cap] 27)).alloc (.cells #[.int .i64 0, .string ⟨#[]⟩, .int .i64 0, .int .i64 0, .float .f64 0, .string ⟨#[]⟩, .slice none 0 0] 27)).alloc (.cells #[.int .i64 xk, .string xn, .int .i64 vk, .int .i64 vn, .float .f64 vf, .string vs, .slice none 0 0] 27) = w3
  have v0 : Vr w3 w.heap.size 27 (xcs ⟨xk, xn, ⟨vk, vn, vf, vs⟩, ao, len, cap⟩) := hW ▸ ((Vr.new w _ _).keep (below_a1 _ _)).keep (below_a1 _ _)
  have v1 : Vr w3 (w.heap.size + 1) 27 (xcs ⟨0, ⟨#[]⟩, Vl.zero, none, 0, 0⟩) := by
    have := (Vr.new (w.alloc (.cells (xcs ⟨xk, xn, ⟨vk, vn, vf, vs⟩, ao, len, cap⟩) 27)) 27 (xcs ⟨0, ⟨#[]⟩, Vl.zero, none, 0, 0⟩)).keep (below_a1 _ (.cells (xcs ⟨xk, xn, ⟨vk, vn, vf, vs⟩, none, 0, 0⟩) 27))
    rw [show (w.alloc (.cells (xcs ⟨xk, xn, ⟨vk, vn, vf, vs⟩, ao, len, cap⟩) 27)).heap.size = w.heap.size + 1 by simp] at this
    rw [← hW]; exact this
  have v2 : Vr w3 (w.heap.size + 1 + 1) 27 (xcs ⟨xk, xn, ⟨vk, vn, vf, vs⟩, none, 0, 0⟩) := by
    have := Vr.new ((w.alloc (.cells (xcs ⟨xk, xn, ⟨vk, vn, vf, vs⟩, ao, len, cap⟩) 27)).alloc (.cells (xcs ⟨0, ⟨#[]⟩, Vl.zero, none, 0, 0⟩) 27)) 27 (xcs ⟨xk, xn, ⟨vk, vn, vf, vs⟩, none, 0, 0⟩)
    rw [show ((w.alloc (.cells (xcs ⟨xk, xn, ⟨vk, vn, vf, vs⟩, ao, len, cap⟩) 27)).alloc (.cells (xcs ⟨0, ⟨#[]⟩, Vl.zero, none, 0, 0⟩) 27)).heap.size = w.heap.size + 1 + 1 by simp] at this
    rw [← hW]; exact this
  have b3 : Below w.heap.size w w3 := hW ▸ ((below_a1 w _).alloc (by simp) _).alloc (by simp; omega) _
  clear hW
  go_wp2_with fail
  go_loopg [4, 5] len (fun g s4 s5 wr => ∃ (i : Nat) (a : Option Addr) (c : Nat) (ys : List Xc), g + i = len ∧ s4 = .int .i64 i ∧ Vr wr w.heap.size 27 (xcs ⟨xk, xn, ⟨vk, vn, vf, vs⟩, ao, len, cap⟩) ∧ Vr wr (w.heap.size + 1) 27 (xcs ⟨0, ⟨#[]⟩, Vl.zero, none, 0, 0⟩) ∧ Vr wr (w.heap.size + 1 + 1) 27 (xcs ⟨xk, xn, ⟨vk, vn, vf, vs⟩, a, i, c⟩) ∧ OwX wr (w.heap.size + 1 + 1 + 1) (.slice a i c) ys ∧ TxsS (fun b => w.heap.size + 1 + 1 + 1 ≤ b ∧ Value.ownBlock (.slice a i c) ≠ some b) wr (turnL (kids.take i)) ys ∧ Below w.heap.size w wr)
  case atStart => exact ⟨0, none, 0, [], rfl, rfl, v0, v1, v2, Ow.nil _ _, by rw [List.take_zero, turnL]; exact TxsS.nil _ _, b3⟩
  case round =>
    clear v0 v1 v2 b3
    obtain ⟨i, a, c, ys, hg, rfl, v0, v1, v2, hO, hTs, hb⟩ := hrel
    have ⟨z0, z1, z2, z3, z4, z5, z6⟩ := v0.cells7
    have ⟨u0, u1, u2, u3, u4, u5, u6⟩ := v2.cells7
    dsimp only at z0 z1 z2 z3 z4 z5 z6 u0 u1 u2 u3 u4 u5 u6
    by_cases hlt : i < len
    · have ii : (i : Int) < (len : Int) := by omega
      have hi : i < kids.length := by rw [← HL.out]; exact hlt
      have hi' : i < xs.length := by rw [← HK.out.1]; exact hi
      obtain ⟨_, _, he, -, -, -, h5⟩ := HR.out.keep hb
      obtain ⟨b, o, ha, hc⟩ := h5 i hi'
      simp only [Value.slice.injEq] at he
      obtain ⟨rfl, hxl, rfl⟩ := he
      subst ha
      have q0 := hc 0 (by omega)
      have q1 := hc 1 (by omega)
      have q2 := hc 2 (by omega)
      have q3 := hc 3 (by omega)
      have q4 := hc 4 (by omega)
      have q5 := hc 5 (by omega)
      have q6 := hc 6 (by omega)
      simp only [encX, List.getElem?_cons_zero, List.getElem?_cons_succ, Nat.add_zero] at q0 q1 q2 q3 q4 q5 q6
      have hTi := (HK.out.keep hb).2 i hi hi'
      have C := Lib.hid (IH.out _ (List.getElem_mem hi) (HFK.out _ (List.getElem_mem hi)) _ _ hTi)
      have HS := Lib.hid (show turnL (kids.take (i + 1)) = turnL (kids.take i) ++ [turn kids[i]] by
        rw [List.take_succ_eq_append_getElem hi, turnL_map, turnL_map, List.map_append]; rfl)
      have hyl : ys.length = i := by
        have := hO.1
        obtain ⟨_, _, he, _⟩ := hO.rw
        simp only [Value.slice.injEq] at he
        exact he.2.1.symm
      have HYL := Lib.hid hyl
      have V0 := Lib.hid v0
      have V1 := Lib.hid v1
      have V2 := Lib.hid v2
      have V2w := Lib.hid v2
      have HO := Lib.hid hO
      have HT := Lib.hid hTs
      have HB := Lib.hid hb
      clear hTi hc hxl h5 hyl v0 v1 v2 hO hTs hb
      generalize xs[i] = xi at *
      generalize hki : kids[i] = ki at *
      obtain ⟨k0, n0, ⟨a1, a2, a3, a4⟩, aoi, leni, capi⟩ := xi
      dsimp only at q0 q1 q2 q3 q4 q5 q6
      go_wp2_with fail
      (with_reducible refine C.out.mono ?_); rintro e w2 ⟨y, rfl, hTy, hb2⟩
      have V0' := V0.out.keep hb2
      have V1' := V1.out.keep hb2
      have V2' := V2.out.keep hb2
      have O2 := HO.out.below hb2
      have T2 := HT.out.keep hb2
      have B2 := Below.chain HB.out hb2
      clear z0 z1 z2 z3 z4 z5 z6 u0 u1 u2 u3 u4 u5 u6 q0 q1 q2 q3 q4 q5 q6 hb2 C
      obtain ⟨yk, yn, ⟨y1, y2, y3, y4⟩, yo, yl, yc⟩ := y
      go_upto_region 7 with fail
      generalize hW : w2.alloc (.cells #[.int .i64 yk, .string yn, .int .i64 y1, .int .i64 y2, .float .f64 y3, .string y4, .slice yo yl yc] 27) = w7
      have bW : Below w2.heap.size w2 w7 := hW ▸ below_a1 _ _
      have vK : Vr w7 w2.heap.size 27 (xcs ⟨yk, yn, ⟨y1, y2, y3, y4⟩, yo, yl, yc⟩) := hW ▸ Vr.new _ _ _
      have V0 := Lib.hid (V0'.keep bW)
      have V1 := Lib.hid (V1'.keep bW)
      have v2 := V2'.keep bW
      have O7 := Lib.hid (O2.below bW)
      have T7 := Lib.hid (T2.keep bW)
      have TY := Lib.hid (hTy.keep bW)
      have B7 := Lib.hid (Below.chain B2 bW)
      have u6 := v2.cells7.2.2.2.2.2.2
      have ⟨z0, z1, z2, z3, z4, z5, z6⟩ := vK.cells7
      dsimp only at u6 z0 z1 z2 z3 z4 z5 z6
      have V2 := Lib.hid v2
      clear hW vK V0' V1' V2' O2 T2 B2 hTy bW v2
      go_wp2_with (at_builtin; (refine wpList_append_rw (E := encX) rfl _ _ _ rfl Try.underlying25 info_x rfl (by decide) (by decide) rfl rfl (O7.out.below (below_a1 _ _)) (Ow.lit (E := encX) (e := 27) w7 w.heap.size [⟨yk, yn, ⟨y1, y2, y3, y4⟩, yo, yl, yc⟩] B7.out.size (by simp) _ rfl).rw (by have := HYL.out; simp; omega) (by have := V2.out.lt; simp; omega) ?_); intro v8 w8 hO8 hg8 hat8; (have nB : some (w.heap.size + 1 + 1) ≠ (Value.slice a i c).ownBlock := fun e => by have h9 : w.heap.size + 1 + 1 + 1 ≤ w.heap.size + 1 + 1 := O7.out.row _ e.symm; omega); (have v2 := (V2.out.keep (below_a1 _ _)).grown hg8 nB); (have u6 := v2.cells7.2.2.2.2.2.2); (have f6 := v2.thaw 6); dsimp only at u6; (obtain ⟨a8, c8, rfl⟩ := hO8.shapeN (n := i + 1) (by have := HYL.out; simp; omega)); have V2 := Lib.hid v2; have O8 := Lib.hid hO8; have HG := Lib.hid hg8; have HAT := Lib.hid hat8; clear v2 hO8 hg8 hat8 nB)
      have nO : ∀ k, (Value.slice a i c).ownBlock = some k → w.heap.size + 1 + 1 + 1 ≤ k := O7.out.row
      have V0 := (V0.out.keep (below_a1 _ _)).grown HG.out (fun e => by have := nO _ e.symm; omega)
      have V1 := (V1.out.keep (below_a1 _ _)).grown HG.out (fun e => by have := nO _ e.symm; omega)
      have bG := (B7.out.alloc B7.out.size _).trans (below_of_grown HG.out (B := w.heap.size) (Nat.le_trans B7.out.size (by simp)) (fun k hk => by have := nO k hk; omega))
      go_roundg (len - (i + 1))
      case rel =>
        have hwr : w.heap.size + 1 + 1 + 1 ≤ wr.heap.size := V2w.out.lt
        have hfr : (w7.alloc (.cells #[.int .i64 yk, .string yn, .int .i64 y1, .int .i64 y2, .float .f64 y3, .string y4, .slice yo yl yc] 27)).heap.size = w7.heap.size + 1 := by simp
        have hown : ∀ b o u, w7.cell? ⟨b, o, none⟩ = some u → w.heap.size + 1 + 1 + 1 ≤ b → (Value.slice a i c).ownBlock ≠ some b → (Value.slice a8 (i + 1) c8).ownBlock ≠ some b ∧ (w8.setCell ⟨w.heap.size + 1 + 1, 6, none⟩ (.slice a8 (i + 1) c8)).cell? ⟨b, o, none⟩ = some u := by
          intro b o u hc h1 h2
          have hlt := block_lt_of_cell hc
          refine ⟨fun e => ?_, ?_⟩
          · rcases HAT.out with h3 | h3
            · exact h2 (h3.symm.trans e)
            · rw [e] at h3
              have : b = w7.heap.size + 1 := by simpa [hfr] using h3
              have hlt' : b < w7.heap.size := hlt
              omega
          · have h4 := ((below_a1 w7 (.cells #[.int .i64 yk, .string yn, .int .i64 y1, .int .i64 y2, .float .f64 y3, .string y4, .slice yo yl yc] 27)).cell (p := ⟨b, o, none⟩) hlt).trans hc
            have h5 := HG.out.cell h4 (fun e => h2 e.symm)
            rw [World.cell?_setCell_far _ _ _ _ (by show w.heap.size + 1 + 1 ≠ b; omega)]
            exact h5
        have hT := TxsS.app (T7.out.move (S' := fun b => w.heap.size + 1 + 1 + 1 ≤ b ∧ Value.ownBlock (.slice a8 (i + 1) c8) ≠ some b) (w' := w8.setCell ⟨w.heap.size + 1 + 1, 6, none⟩ (.slice a8 (i + 1) c8)) fun b o u hs hc => let h := hown b o u hc hs.1 hs.2; ⟨⟨hs.1, h.1⟩, h.2⟩) (TrS.move (S' := fun b => w.heap.size + 1 + 1 + 1 ≤ b ∧ Value.ownBlock (.slice a8 (i + 1) c8) ≠ some b) (w' := w8.setCell ⟨w.heap.size + 1 + 1, 6, none⟩ (.slice a8 (i + 1) c8)) TY.out fun b o u hs hc => by
          have hs' : wr.heap.size ≤ b := hs
          have h := hown b o u hc (by omega) (fun e => by have := (World.ownsRow.lt HO.out b e).2; omega)
          exact ⟨⟨by omega, h.1⟩, h.2⟩)
        rw [← HS.out] at hT
        exact ⟨i + 1, a8, c8, ys ++ [⟨yk, yn, ⟨y1, y2, y3, y4⟩, yo, yl, yc⟩], by omega, by go_num, V0.far (e' := 0) (by omega) _ _, V1.far (e' := 0) (by omega) _ _, V2.out.setKids a8 (i + 1) c8, O8.out.set (a := ⟨w.heap.size + 1 + 1, 6, none⟩) (fun e => by have h9 : w.heap.size + 1 + 1 + 1 ≤ w.heap.size + 1 + 1 := O8.out.row _ e; omega) _, hT, bG.setCell (p := ⟨w.heap.size + 1 + 1, 6, none⟩) (by simp; omega) _⟩
      case measure => omega
    · obtain rfl : len = i := by omega
      have ht : kids.take len = kids := List.take_of_length_le (by rw [← HL.out]; exact Nat.le_refl _)
      rw [ht] at hTs
      have hO3 : ∀ k, (Value.slice a len c).ownBlock = some k → w.heap.size + 1 + 1 + 1 ≤ k := hO.row
      have far1 : (Value.slice a len c).ownBlock ≠ some (w.heap.size + 1) := fun e => by have := hO3 _ e; omega
      have BF := Lib.hid (below_setRow hb (Nat.le_succ _) (xcs ⟨xk, xn, ⟨vk, vn, vf, vs⟩, a, len, c⟩) : Below w.heap.size w (wr.setRow (w.heap.size + 1) (xcs ⟨xk, xn, ⟨vk, vn, vf, vs⟩, a, len, c⟩)))
      have hTw : TxsS (fun b => w.heap.size ≤ b) (wr.setRow (w.heap.size + 1) (xcs ⟨xk, xn, ⟨vk, vn, vf, vs⟩, a, len, c⟩)) (turnL kids) ys := hTs.move fun b o u hs hc => ⟨by omega, by
        rw [cell_setRow_other _ _ _ _ (by show b ≠ w.heap.size + 1; omega)]; exact hc⟩
      have hX := TxS.own (kind := xk) (name := xn) HV.out (hO.setRow far1 (xcs ⟨xk, xn, ⟨vk, vn, vf, vs⟩, a, len, c⟩)) (S := fun b => w.heap.size ≤ b) (fun b h => by omega) hTw
      have FIN := Lib.hid (show (xk ≠ 3 ∨ (turnL kids).length ≠ 2 ∨ xn.toList = [45]) → TxS (fun b => w.heap.size ≤ b) (wr.setRow (w.heap.size + 1) (xcs ⟨xk, xn, ⟨vk, vn, vf, vs⟩, a, len, c⟩)) (turn (.node xk xn ⟨vk, vn, vf, vs⟩ kids)) ⟨xk, xn, ⟨vk, vn, vf, vs⟩, a, len, c⟩ from fun h => by
        rw [turn, turnN, if_pos h]; exact hX)
      have HLT := Lib.hid (show (turnL kids).length = len by rw [turnL_map, List.length_map, HL.out])
      have V0 := Lib.hid v0
      have V1 := Lib.hid v1
      have V2 := Lib.hid v2
      have HO := Lib.hid hO
      have HT := Lib.hid hTs
      have HB := Lib.hid hb
      clear hX hTw far1 v0 v1 v2 hTs hb ht
      by_cases hk3 : xk = 3
      · subst hk3
        by_cases h2 : len = 2
        · subst h2
          by_cases hm : xn.toList = [45]
          · have bm : (xn.toList == [45]) = true := by simpa using hm
            have HTN := Lib.hid (show ((3 : Int) ≠ 3 ∨ (turnL kids).length ≠ 2 ∨ xn.toList = [45]) from .inr (.inr hm))
            clear hm
            go_wp2_with (refine wpList_store_x ⟨3, xn, ⟨vk, vn, vf, vs⟩, a, 2, c⟩ rfl _ _ rfl rfl rfl V1.out rfl ?_)
            refine ret_x ⟨3, xn, ⟨vk, vn, vf, vs⟩, a, 2, c⟩ rfl rfl rfl ((V1.out.set _).lies7 rfl) ?_
            exact ⟨_, rfl, FIN.out HTN.out, BF.out⟩
          · have bm : (xn.toList == [45]) = false := by simpa using hm
            have hyl : ys.length = 2 := by
              obtain ⟨_, _, he, _⟩ := HO.out.rw
              simp only [Value.slice.injEq] at he
              exact he.2.1.symm
            obtain ⟨y0, y1, rfl⟩ := len2 hyl
            obtain ⟨g, rfl⟩ : ∃ g, a = some ⟨g, 0, none⟩ := by
              rcases HO.out.2 with ⟨_, hn⟩ | ⟨g, c', cur, he, _⟩
              · simp at hn
              · simp only [Value.slice.injEq] at he; exact ⟨g, he.1⟩
            have cell : ∀ k (hk : k < 2) j, j < 7 → wr.cell? ⟨g, k * 7 + j, none⟩ = (encX.enc ([y0, y1][k]'(by simpa using hk)))[j]? := by
              intro k hk j hj
              have := World.ownsRow.cellAt HO.out (k * 7 + j) (show k * 7 + j < 2 * 7 by omega)
              rw [encX.cells_get [y0, y1] k j (by simpa using hk) hj] at this
              exact this
            obtain ⟨yk, yn, ⟨y1', y2, y3, y4⟩, yo, yl, yc⟩ := y0
            obtain ⟨zk, zn, ⟨z1', z2', z3', z4'⟩, zo, zl, zc⟩ := y1
            have r0 : wr.cell? ⟨g, 0, none⟩ = some (.int .i64 yk) := cell 0 (by omega) 0 (by omega)
            have r1 : wr.cell? ⟨g, 1, none⟩ = some (.string yn) := cell 0 (by omega) 1 (by omega)
            have r2 : wr.cell? ⟨g, 2, none⟩ = some (.int .i64 y1') := cell 0 (by omega) 2 (by omega)
            have r3 : wr.cell? ⟨g, 3, none⟩ = some (.int .i64 y2) := cell 0 (by omega) 3 (by omega)
            have r4 : wr.cell? ⟨g, 4, none⟩ = some (.float .f64 y3) := cell 0 (by omega) 4 (by omega)
            have r5 : wr.cell? ⟨g, 5, none⟩ = some (.string y4) := cell 0 (by omega) 5 (by omega)
            have r6 : wr.cell? ⟨g, 6, none⟩ = some (.slice yo yl yc) := cell 0 (by omega) 6 (by omega)
            have s0 : wr.cell? ⟨g, 7, none⟩ = some (.int .i64 zk) := cell 1 (by omega) 0 (by omega)
            have s1 : wr.cell? ⟨g, 8, none⟩ = some (.string zn) := cell 1 (by omega) 1 (by omega)
            have s2 : wr.cell? ⟨g, 9, none⟩ = some (.int .i64 z1') := cell 1 (by omega) 2 (by omega)
            have s3 : wr.cell? ⟨g, 10, none⟩ = some (.int .i64 z2') := cell 1 (by omega) 3 (by omega)
            have s4 : wr.cell? ⟨g, 11, none⟩ = some (.float .f64 z3') := cell 1 (by omega) 4 (by omega)
            have s5 : wr.cell? ⟨g, 12, none⟩ = some (.string z4') := cell 1 (by omega) 5 (by omega)
            have s6 : wr.cell? ⟨g, 13, none⟩ = some (.slice zo zl zc) := cell 1 (by omega) 6 (by omega)
            have f6 := V2.out.thaw 6
            have hgl := block_lt_of_cell r0
            have hBl := V2.out.lt
            clear cell hyl
            go_wp2_with fail
            go_region
            have szS : (wr.setCell ⟨w.heap.size + 1 + 1, 6, none⟩ (.slice (some ⟨wr.heap.size, 0, none⟩) 2 2)).heap.size = wr.heap.size := by simp [World.setCell]
            generalize hW : World.drew ((wr.setCell ⟨w.heap.size + 1 + 1, 6, none⟩ (.slice (some ⟨wr.heap.size, 0, none⟩) 2 2)).alloc (.cells #[.int .i64 zk, .string zn, .int .i64 z1', .int .i64 z2', .float .f64 z3', .string z4', .slice zo zl zc, .int .i64 yk, .string yn, .int .i64 y1', .int .i64 y2, .float .f64 y3, .string y4, .slice yo yl yc] 27)) = w9
            have bS := (below_a1 (wr.setCell ⟨w.heap.size + 1 + 1, 6, none⟩ (.slice (some ⟨wr.heap.size, 0, none⟩) 2 2)) (.cells #[.int .i64 zk, .string zn, .int .i64 z1', .int .i64 z2', .float .f64 z3', .string z4', .slice zo zl zc, .int .i64 yk, .string yn, .int .i64 y1', .int .i64 y2, .float .f64 y3, .string y4, .slice yo yl yc] 27)).drew
            rw [hW] at bS
            have W0 := (V0.out.far (e' := 0) (b' := w.heap.size + 1 + 1) (by omega) 6 (.slice (some ⟨wr.heap.size, 0, none⟩) 2 2)).keep bS
            have W1 := (V1.out.far (e' := 0) (b' := w.heap.size + 1 + 1) (by omega) 6 (.slice (some ⟨wr.heap.size, 0, none⟩) 2 2)).keep bS
            have W2 := (V2.out.setKids (some ⟨wr.heap.size, 0, none⟩) 2 2).keep bS
            have b9 : Below w.heap.size w w9 := (HB.out.setCell (p := ⟨w.heap.size + 1 + 1, 6, none⟩) (by simp; omega) _).trans (bS.mono (by rw [szS]; exact HB.out.size))
            have hO9 : OwX w9 (w.heap.size + 1 + 1 + 1) (.slice (some ⟨wr.heap.size, 0, none⟩) 2 2) [⟨zk, zn, ⟨z1', z2', z3', z4'⟩, zo, zl, zc⟩, ⟨yk, yn, ⟨y1', y2, y3, y4⟩, yo, yl, yc⟩] := by
              have := (Ow.lit (E := encX) (e := 27) (wr.setCell ⟨w.heap.size + 1 + 1, 6, none⟩ (.slice (some ⟨wr.heap.size, 0, none⟩) 2 2)) (w.heap.size + 1 + 1 + 1) [⟨zk, zn, ⟨z1', z2', z3', z4'⟩, zo, zl, zc⟩, ⟨yk, yn, ⟨y1', y2, y3, y4⟩, yo, yl, yc⟩] (by rw [szS]; omega) (by simp) #[.int .i64 zk, .string zn, .int .i64 z1', .int .i64 z2', .float .f64 z3', .string z4', .slice zo zl zc, .int .i64 yk, .string yn, .int .i64 y1', .int .i64 y2, .float .f64 y3, .string y4, .slice yo yl yc] rfl).below (Below.refl _ _).drew
              rw [szS, hW] at this
              exact this
            have hT9 : TxsS (fun b => w.heap.size + 1 + 1 + 1 ≤ b) w9 (turnL kids) [⟨yk, yn, ⟨y1', y2, y3, y4⟩, yo, yl, yc⟩, ⟨zk, zn, ⟨z1', z2', z3', z4'⟩, zo, zl, zc⟩] := HT.out.move fun b o u hs hc => ⟨hs.1, by
              refine (bS.cell (p := ⟨b, o, none⟩) ?_).trans ?_
              · rw [szS]; exact block_lt_of_cell hc
              · rw [World.cell?_setCell_far _ _ _ _ (by show w.heap.size + 1 + 1 ≠ b; omega)]; exact hc⟩
            have hT9r : TxsS (fun b => w.heap.size + 1 + 1 + 1 ≤ b) w9 (turnL kids).reverse [⟨zk, zn, ⟨z1', z2', z3', z4'⟩, zo, zl, zc⟩, ⟨yk, yn, ⟨y1', y2, y3, y4⟩, yo, yl, yc⟩] := by
              obtain ⟨p, q, hpq⟩ := len2 HLT.out
              rw [hpq] at hT9 ⊢
              exact ⟨rfl, fun k hk hk' => by
                have hk2 : k < 2 := by simpa using hk
                match k, hk2 with
                | 0, _ => exact hT9.2 1 (by simp) (by simp)
                | 1, _ => exact hT9.2 0 (by simp) (by simp)⟩
            have htn : turn (.node 3 xn ⟨vk, vn, vf, vs⟩ kids) = .node 3 (flipN xn) ⟨vk, vn, vf, vs⟩ (turnL kids).reverse := by
              rw [turn, turnN, if_neg (by rw [HLT.out]; simp [hm])]
            have FIN2 := Lib.hid (show ∀ w10, Below w9.heap.size w9 w10 ∨ (∃ s, w10 = w9.setCell ⟨w.heap.size + 1 + 1, 1, none⟩ (.string s)) → TxS (fun b => w.heap.size ≤ b) (w10.setRow (w.heap.size + 1) (xcs ⟨3, flipN xn, ⟨vk, vn, vf, vs⟩, some ⟨wr.heap.size, 0, none⟩, 2, 2⟩)) (turn (.node 3 xn ⟨vk, vn, vf, vs⟩ kids)) ⟨3, flipN xn, ⟨vk, vn, vf, vs⟩, some ⟨wr.heap.size, 0, none⟩, 2, 2⟩ from fun w10 h10 => by
              have hO10 : OwX w10 (w.heap.size + 1 + 1 + 1) (.slice (some ⟨wr.heap.size, 0, none⟩) 2 2) [⟨zk, zn, ⟨z1', z2', z3', z4'⟩, zo, zl, zc⟩, ⟨yk, yn, ⟨y1', y2, y3, y4⟩, yo, yl, yc⟩] := by
                rcases h10 with h | ⟨s, rfl⟩
                · exact hO9.below h
                · exact hO9.set (a := ⟨w.heap.size + 1 + 1, 1, none⟩) (fun e => by have h9 : w.heap.size + 1 + 1 + 1 ≤ w.heap.size + 1 + 1 := hO9.row _ e; omega) _
              have hT10 : TxsS (fun b => w.heap.size + 1 + 1 + 1 ≤ b) w10 (turnL kids).reverse [⟨zk, zn, ⟨z1', z2', z3', z4'⟩, zo, zl, zc⟩, ⟨yk, yn, ⟨y1', y2, y3, y4⟩, yo, yl, yc⟩] := by
                rcases h10 with h | ⟨s, rfl⟩
                · exact hT9r.keep h
                · exact hT9r.move fun b o u hs hc => ⟨hs, by rw [World.cell?_setCell_far _ _ _ _ (by show w.heap.size + 1 + 1 ≠ b; omega)]; exact hc⟩
              rw [htn]
              exact TxS.own HV.out (hO10.setRow (fun e => by have := hO10.row _ e; omega) _) (fun b h => by omega) (hT10.move fun b o u hs hc => ⟨by omega, by
                rw [cell_setRow_other _ _ _ _ (by show b ≠ w.heap.size + 1; omega)]; exact hc⟩))
            have ⟨zz0, zz1, zz2, zz3, zz4, zz5, zz6⟩ := W0.cells7
            have ⟨uu0, uu1, uu2, uu3, uu4, uu5, uu6⟩ := W2.cells7
            dsimp only at zz1 uu0 uu1 uu2 uu3 uu4 uu5 uu6
            have ff := W2.thaw 1
            have W1h := Lib.hid W1
            have B9 := Lib.hid b9
            have HNE := Lib.hid (show w.heap.size + 1 ≠ w.heap.size + 1 + 1 by omega)
            clear r0 r1 r2 r3 r4 r5 r6 s0 s1 s2 s3 s4 s5 s6 z0 z1 z2 z3 z4 z5 z6 u0 u1 u2 u3 u4 u5 u6 f6 hgl hBl hT9 hT9r htn W0 W1 W2 b9 hO9 bS szS hW hO hO3 zz0 zz2 zz3 zz4 zz5 zz6 bm
            by_cases n1 : xn.toList = [60]
            · have m1 : (xn.toList == [60]) = true := by simpa using n1
              rw [show flipN xn = ⟨#[62]⟩ by unfold flipN; rw [if_pos n1]] at FIN2
              clear n1
              go_wp2_with (refine wpList_store_x ⟨3, ⟨#[62]⟩, ⟨vk, vn, vf, vs⟩, some ⟨wr.heap.size, 0, none⟩, 2, 2⟩ rfl _ _ rfl rfl rfl (W1h.out.far (e' := 0) HNE.out _ _) rfl ?_)
              refine ret_x ⟨3, ⟨#[62]⟩, ⟨vk, vn, vf, vs⟩, some ⟨wr.heap.size, 0, none⟩, 2, 2⟩ rfl rfl rfl (((W1h.out.far (e' := 0) HNE.out _ _).set _).lies7 rfl) ?_
              exact ⟨_, rfl, FIN2.out _ (.inr ⟨_, rfl⟩), below_setRow (B9.out.setCell (p := ⟨w.heap.size + 1 + 1, 1, none⟩) (by simp; omega) _) (Nat.le_succ _) _⟩
            · have m1 : (xn.toList == [60]) = false := by simpa using n1
              by_cases n2 : xn.toList = [62]
              · have m2 : (xn.toList == [62]) = true := by simpa using n2
                rw [show flipN xn = ⟨#[60]⟩ by unfold flipN; rw [if_neg n1, if_pos n2]] at FIN2
                clear n1 n2
                go_wp2_with (refine wpList_store_x ⟨3, ⟨#[60]⟩, ⟨vk, vn, vf, vs⟩, some ⟨wr.heap.size, 0, none⟩, 2, 2⟩ rfl _ _ rfl rfl rfl (W1h.out.far (e' := 0) HNE.out _ _) rfl ?_)
                refine ret_x ⟨3, ⟨#[60]⟩, ⟨vk, vn, vf, vs⟩, some ⟨wr.heap.size, 0, none⟩, 2, 2⟩ rfl rfl rfl (((W1h.out.far (e' := 0) HNE.out _ _).set _).lies7 rfl) ?_
                exact ⟨_, rfl, FIN2.out _ (.inr ⟨_, rfl⟩), below_setRow (B9.out.setCell (p := ⟨w.heap.size + 1 + 1, 1, none⟩) (by simp; omega) _) (Nat.le_succ _) _⟩
              · have m2 : (xn.toList == [62]) = false := by simpa using n2
                by_cases n3 : xn.toList = [60, 61]
                · have m3 : (xn.toList == [60, 61]) = true := by simpa using n3
                  rw [show flipN xn = ⟨#[62, 61]⟩ by unfold flipN; rw [if_neg n1, if_neg n2, if_pos n3]] at FIN2
                  clear n1 n2 n3
                  go_wp2_with (refine wpList_store_x ⟨3, ⟨#[62, 61]⟩, ⟨vk, vn, vf, vs⟩, some ⟨wr.heap.size, 0, none⟩, 2, 2⟩ rfl _ _ rfl rfl rfl (W1h.out.far (e' := 0) HNE.out _ _) rfl ?_)
                  refine ret_x ⟨3, ⟨#[62, 61]⟩, ⟨vk, vn, vf, vs⟩, some ⟨wr.heap.size, 0, none⟩, 2, 2⟩ rfl rfl rfl (((W1h.out.far (e' := 0) HNE.out _ _).set _).lies7 rfl) ?_
                  exact ⟨_, rfl, FIN2.out _ (.inr ⟨_, rfl⟩), below_setRow (B9.out.setCell (p := ⟨w.heap.size + 1 + 1, 1, none⟩) (by simp; omega) _) (Nat.le_succ _) _⟩
                · have m3 : (xn.toList == [60, 61]) = false := by simpa using n3
                  by_cases n4 : xn.toList = [62, 61]
                  · have m4 : (xn.toList == [62, 61]) = true := by simpa using n4
                    rw [show flipN xn = ⟨#[60, 61]⟩ by unfold flipN; rw [if_neg n1, if_neg n2, if_neg n3, if_pos n4]] at FIN2
                    clear n1 n2 n3 n4
                    go_wp2_with (refine wpList_store_x ⟨3, ⟨#[60, 61]⟩, ⟨vk, vn, vf, vs⟩, some ⟨wr.heap.size, 0, none⟩, 2, 2⟩ rfl _ _ rfl rfl rfl (W1h.out.far (e' := 0) HNE.out _ _) rfl ?_)
                    refine ret_x ⟨3, ⟨#[60, 61]⟩, ⟨vk, vn, vf, vs⟩, some ⟨wr.heap.size, 0, none⟩, 2, 2⟩ rfl rfl rfl (((W1h.out.far (e' := 0) HNE.out _ _).set _).lies7 rfl) ?_
                    exact ⟨_, rfl, FIN2.out _ (.inr ⟨_, rfl⟩), below_setRow (B9.out.setCell (p := ⟨w.heap.size + 1 + 1, 1, none⟩) (by simp; omega) _) (Nat.le_succ _) _⟩
                  · have m4 : (xn.toList == [62, 61]) = false := by simpa using n4
                    rw [show flipN xn = xn by unfold flipN; rw [if_neg n1, if_neg n2, if_neg n3, if_neg n4]] at FIN2
                    clear n1 n2 n3 n4
                    go_wp2_with (refine wpList_store_x ⟨3, xn, ⟨vk, vn, vf, vs⟩, some ⟨wr.heap.size, 0, none⟩, 2, 2⟩ rfl _ _ rfl rfl rfl W1h.out rfl ?_)
                    refine ret_x ⟨3, xn, ⟨vk, vn, vf, vs⟩, some ⟨wr.heap.size, 0, none⟩, 2, 2⟩ rfl rfl rfl ((W1h.out.set _).lies7 rfl) ?_
                    exact ⟨_, rfl, FIN2.out _ (.inl (Below.refl _ _)), below_setRow B9.out (Nat.le_succ _) _⟩
        · have b2 : ((len : Int) != 2) = true := by simp; omega
          have HTN := Lib.hid (show ((3 : Int) ≠ 3 ∨ (turnL kids).length ≠ 2 ∨ xn.toList = [45]) from .inr (.inl (by rw [HLT.out]; exact h2)))
          go_wp2_with (refine wpList_store_x ⟨3, xn, ⟨vk, vn, vf, vs⟩, a, len, c⟩ rfl _ _ rfl rfl rfl V1.out rfl ?_)
          refine ret_x ⟨3, xn, ⟨vk, vn, vf, vs⟩, a, len, c⟩ rfl rfl rfl ((V1.out.set _).lies7 rfl) ?_
          exact ⟨_, rfl, FIN.out HTN.out, BF.out⟩
      · have b3 : (xk != 3) = true := by simpa using hk3
        have HTN := Lib.hid (show (xk ≠ 3 ∨ (turnL kids).length ≠ 2 ∨ xn.toList = [45]) from .inl hk3)
        clear hk3
        go_wp2_with (refine wpList_store_x ⟨xk, xn, ⟨vk, vn, vf, vs⟩, a, len, c⟩ rfl _ _ rfl rfl rfl V1.out rfl ?_)
        refine ret_x ⟨xk, xn, ⟨vk, vn, vf, vs⟩, a, len, c⟩ rfl rfl rfl ((V1.out.set _).lies7 rfl) ?_
        exact ⟨_, rfl, FIN.out HTN.out, BF.out⟩
end Go.Proofs.Ytfhnjilflffdfaa
