import Derived.Test.YtdoefndppoglfaaH7
namespace Go.Proofs.Ytdoefndppoglfaa
open Go Go.ChangeShapes Go.WideShapes Go.ChangeAt Go.RowKit
open Go.Joins
open Go.Shelf
set_option linter.unusedVariables false
attribute [local go_sem] Oper.semAt_some
/-- all below n₀ but one block stays -/
structure KpB (n₀ Lr : Nat) (W W' : World) : Prop where
  size : W.heap.size ≤ W'.heap.size
  block : ∀ k, k < n₀ → k ≠ Lr → W'.heap[k]? = W.heap[k]?
/-- .. and so do variables that are edges -/
structure KpE (n₀ Lr : Nat) (W W' : World) : Prop where
  low : KpB n₀ Lr W W'
  box : ∀ b cs, Vr W b 45 cs → Vr W' b 45 cs
theorem KpB.refl (n₀ Lr : Nat) (W : World) : KpB n₀ Lr W W := ⟨Nat.le_refl _, fun _ _ _ => rfl⟩
theorem KpB.trans {n₀ Lr : Nat} {A B C : World} (h : KpB n₀ Lr A B) (k : KpB n₀ Lr B C) : KpB n₀ Lr A C := ⟨Nat.le_trans h.size k.size, fun i hi hne => (k.block i hi hne).trans (h.block i hi hne)⟩
theorem KpB.alloc {n₀ Lr : Nat} {A B : World} (h : KpB n₀ Lr A B) (hn : n₀ ≤ A.heap.size) (o : Obj) : KpB n₀ Lr A (B.alloc o) :=
  h.trans ⟨by simp, fun k hk _ => Below.heap_alloc B o k (Nat.lt_of_lt_of_le hk (Nat.le_trans hn h.size))⟩
theorem KpB.cell {n₀ Lr : Nat} {A B : World} (h : KpB n₀ Lr A B) {p : Addr} (hp : p.block < n₀) (hne : p.block ≠ Lr) : B.cell? p = A.cell? p := World.cell?_of_block (w := A) (h.block p.block hp hne)
theorem KpE.trans {n₀ Lr : Nat} {A B C : World} (h : KpE n₀ Lr A B) (k : KpE n₀ Lr B C) : KpE n₀ Lr A C := ⟨h.low.trans k.low, fun b cs hv => k.box b cs (h.box b cs hv)⟩
theorem KpE.put {n₀ Lr : Nat} {w : World} (hn : n₀ ≤ w.heap.size) (W : World) (l : Nat) (o o' : Obj) (hl : w.heap.size ≤ l) (h : W.heap[l]? = some o) (hc : o.isCells = false) (_ : o.isWalk = false) : KpE n₀ Lr W (W.putObj l o') := by
  have hg := grownBy_putObj' W l o'
  have hlt := (Array.getElem?_eq_some_iff.1 h).1
  refine ⟨⟨hg.size, fun k hk _ => hg.block k (by omega) (fun e => by cases e; omega)⟩, fun b cs hv => hv.grown hg (fun e => ?_)⟩
  cases e
  have : W.heap[l]? = some (.cells cs 45 (0, 0)) := hv
  rw [h] at this
  cases this
  cases hc
/-- an edge's steps, as they are yielded -/
def encY (x : Yd) : Array Value := #[.int .i64 x.1, .agg #[.int .i64 x.2.1, .int .i64 x.2.2.1, .int .i64 x.2.2.2]]
theorem seqN_lt (es : List Ed) {i : Nat} (h : i < es.length) : (seqN es i).length + (seqE i es[i]).length ≤ (seqN es es.length).length := by
  have h1 := (seqN_pre es (show i + 1 ≤ es.length from h)).length_le
  rw [seqN_succ es i h, List.length_append] at h1
  exact h1
set_option maxRecDepth 100000 in
set_option maxHeartbeats 4000000 in
/-- the edges, in order, each with how it leads from both its ends: for every loop body that keeps what lay -/
theorem leads1_in (F : Fence) (n : Nat) (h53 : F.fn 53) (hro : F.round = none) (hn : 1 ≤ n) (l Bl n₀ Lr : Nat) (es : List Ed) (ys : List Dx) (ao : Option Addr) (M cap : Nat) (hM : ys.length = M) (hMk : M ≤ 1000) (hL : es.length = ys.length)
    (hF : ∀ i (h : i < es.length) (h' : i < ys.length), ys[i].fro = es[i].fro ∧ ys[i].to = es[i].to ∧ ys[i].dir = es[i].dir) (J Jx : List Yd → World → Prop) (W : World) (hn0 : n₀ ≤ W.heap.size) (hJ : AbidesFrom W.heap.size J)
    (hY : ∀ pre x W1, J pre W1 → pre.length < (seqN es es.length).length → x ∈ seqN es es.length → YieldAt F (n - 1) Try.prog l (encY x) W1 fun e W' =>
      (e = .returned (.bool true) ∧ J (pre ++ [x]) W' ∧ KpE n₀ Lr W1 W') ∨ (e = .returned (.bool false) ∧ Jx (pre ++ [x]) W'))
    (hBl : W.cell? ⟨Bl, 0, none⟩ = some (.slice ao M cap))
    (hE : ∀ i (h : i < ys.length), ∃ b o, ao = some ⟨b, o, none⟩ ∧ b < n₀ ∧ b ≠ Lr ∧ ∀ j, j < 6 → W.cell? ⟨b, o + i * 6 + j, none⟩ = (encD.enc ys[i])[j]?) (h0 : J [] W) :
    CallsIn F n Try.prog 53 #[.func (.yield l) #[] #[], .pointer (some ⟨Bl, 0, none⟩)] W fun e W' => (∃ v, e = .returned v) ∧
      ((∃ xs, xs = seqN es es.length ∧ J xs W') ∨ (∃ pre, pre <+: seqN es es.length ∧ Jx pre W')) := by
  have HF := Lib.hid hF
  have HY := Lib.hid hY
  have HE := Lib.hid hE
  have HJ := Lib.hid hJ
  have HL := Lib.hid hL
  have HM := Lib.hid hM
  clear hF hY hE hJ hL hM
  refine callsIn_of_wp Try.func53 rfl h53 ?_ hro
  simp only [Try.ntmps53, List.size_toArray, List.length_cons, List.length_nil, Nat.reduceAdd, Nat.reduceSub, Array.replicate_succ, Array.replicate_zero, List.push_toArray, List.append_toArray, List.nil_append, List.cons_append]
  gi_wp2
  gi_loopw [10] (fun s10 wr => ∃ i : Nat, i ≤ M ∧ s10 = .int .i64 i ∧ J (seqN es i) wr ∧ KpB n₀ Lr W wr)
    (fun s10 _ => M - (intOf s10).toNat)
  case atStart => exact ⟨0, Nat.zero_le _, rfl, h0, KpB.refl _ _ _⟩
  case round =>
    obtain ⟨i, hi, rfl, hJs, hnx⟩ := hrel
    by_cases hlt : i < M
    · have ii : (i : Int) < (M : Int) := by omega
      have hi1 : i < ys.length := by rw [HM.out]; exact hlt
      have hi2 : i < es.length := by rw [HL.out]; exact hi1
      obtain ⟨b, o, rfl, hb, hbL, hc⟩ := HE.out i hi1
      have hcc : ∀ j, j < 6 → wr.cell? ⟨b, o + i * 6 + j, none⟩ = (encD.enc ys[i])[j]? := fun j hj => (hnx.cell hb hbL).trans (hc j hj)
      obtain ⟨z1, z2, z3⟩ := HF.out i hi2 hi1
      have HS := Lib.hid (seqN_succ es i hi2)
      have HLt := Lib.hid (seqN_lt es hi2)
      generalize es[i] = d at *
      generalize ys[i] = x at *
      obtain ⟨xn, xf, xt, xd, ⟨xla, xln, xlc⟩, ⟨xpa, xpn, xpc⟩⟩ := x
      obtain ⟨dn, df, dt, dd, dl, dp⟩ := d
      dsimp only at z1 z2 z3
      subst z1 z2 z3
      have q0 := hcc 0 (by omega)
      have q1 := hcc 1 (by omega)
      have q2 := hcc 2 (by omega)
      have q3 := hcc 3 (by omega)
      have q4 := hcc 4 (by omega)
      have q5 := hcc 5 (by omega)
      simp only [encD, List.getElem?_cons_zero, List.getElem?_cons_succ, Nat.add_zero, Sl.v] at q0 q1 q2 q3 q4 q5
      clear hc hcc
      have hsz : n₀ ≤ wr.heap.size := Nat.le_trans hn0 hnx.size
      have VX := Lib.hid (Vr.new wr 45 #[.string xn, .int .i64 xf, .int .i64 xt, .bool xd, .slice xla xln xlc, .slice xpa xpn xpc])
      have HJ1 := Lib.hid (HJ.out _ _ _ none hJs (World.grownBy_alloc wr (.cells #[.string xn, .int .i64 xf, .int .i64 xt, .bool xd, .slice xla xln xlc, .slice xpa xpn xpc] 45) none) (fun r e => by cases e))
      have HNx := Lib.hid (hnx.alloc hn0 (.cells #[.string xn, .int .i64 xf, .int .i64 xt, .bool xd, .slice xla xln xlc, .slice xpa xpn xpc] 45))
      clear hJs
      by_cases hft : xf = xt
      · subst hft
        have e1 : (xf == xf) = true := by simp
        have o1 : bits BinOp.or IntKind.i64 2 2 = 2 := by decide
        have o2 : bits BinOp.or IntKind.i64 4 1 = 5 := by decide
        unfold seqE at HS HLt
        dsimp only at HS HLt
        rw [if_pos rfl] at HS HLt
        cases xd
        · obtain ⟨fn, tmps, assign, body, hy, hR⟩ := HY.out _ (xf, (i : Int), xf, 2) _ HJ1.out (by have := HLt.out; simp at this; omega) (by have := (seqN_pre es (show i + 1 ≤ es.length from hi2)).subset; rw [HS.out] at this; exact this (by simp))
          dsimp only [encY] at hy
          have HR := Lib.hid hR
          clear hR
          gi_wp2
          refine HR.out.mono ?_
          rintro e W3 (⟨rfl, hJ3, hk3⟩ | ⟨rfl, hJx3⟩)
          · have HJ3 := Lib.hid hJ3
            have HK3 := Lib.hid (HNx.out.trans hk3.low)
            clear hJ3 hk3
            gi_wp2
            refine ⟨fun _ h => (by cases h), ?_⟩
            gi_wp2
            go_roundw
            case rel => exact ⟨i + 1, by omega, by go_num, by rw [HS.out]; exact HJ3.out, HK3.out⟩
            case measure => simp [intOf]; omega
          · have HJx3 := Lib.hid hJx3
            clear hJx3
            gi_wp2_with (refine wpListIn_skip rfl rfl ?_)
            refine bodyPost_ret (results_none rfl _ _ _) rfl ?_
            exact ⟨⟨_, rfl⟩, .inr ⟨_, by have := seqN_pre es (show i + 1 ≤ es.length from hi2); rw [HS.out] at this; exact this, HJx3.out⟩⟩
        · obtain ⟨fn, tmps, assign, body, hy, hR⟩ := HY.out _ (xf, (i : Int), xf, 5) _ HJ1.out (by have := HLt.out; simp at this; omega) (by have := (seqN_pre es (show i + 1 ≤ es.length from hi2)).subset; rw [HS.out] at this; exact this (by simp))
          dsimp only [encY] at hy
          have HR := Lib.hid hR
          clear hR
          gi_wp2
          refine HR.out.mono ?_
          rintro e W3 (⟨rfl, hJ3, hk3⟩ | ⟨rfl, hJx3⟩)
          · have HJ3 := Lib.hid hJ3
            have HK3 := Lib.hid (HNx.out.trans hk3.low)
            clear hJ3 hk3
            gi_wp2
            refine ⟨fun _ h => (by cases h), ?_⟩
            gi_wp2
            go_roundw
            case rel => exact ⟨i + 1, by omega, by go_num, by rw [HS.out]; exact HJ3.out, HK3.out⟩
            case measure => simp [intOf]; omega
          · have HJx3 := Lib.hid hJx3
            clear hJx3
            gi_wp2_with (refine wpListIn_skip rfl rfl ?_)
            refine bodyPost_ret (results_none rfl _ _ _) rfl ?_
            exact ⟨⟨_, rfl⟩, .inr ⟨_, by have := seqN_pre es (show i + 1 ≤ es.length from hi2); rw [HS.out] at this; exact this, HJx3.out⟩⟩
      · have e1 : (xf == xt) = false := by simp [hft]
        unfold seqE at HS HLt
        dsimp only at HS HLt
        rw [if_neg hft] at HS HLt
        cases xd
        · obtain ⟨fn, tmps, assign, body, hy, hR⟩ := HY.out _ (xf, (i : Int), xt, 2) _ HJ1.out (by have := HLt.out; simp at this; omega) (by have := (seqN_pre es (show i + 1 ≤ es.length from hi2)).subset; rw [HS.out] at this; exact this (by simp))
          dsimp only [encY] at hy
          have HR := Lib.hid hR
          clear hR
          gi_wp2
          refine HR.out.mono ?_
          rintro e W3 (⟨rfl, hJ3, hk3⟩ | ⟨rfl, hJx3⟩)
          · have HK3 := Lib.hid (HNx.out.trans hk3.low)
            have VX3 := hk3.box _ _ VX.out
            have v1 := VX3.cell 1
            have v2 := VX3.cell 2
            simp only [List.getElem?_toArray, List.getElem?_cons_zero, List.getElem?_cons_succ] at v1 v2
            obtain ⟨fn2, tmps2, assign2, body2, hy2, hR2⟩ := HY.out _ (xt, (i : Int), xf, 2) _ hJ3 (by have := HLt.out; simp at this ⊢; omega) (by have := (seqN_pre es (show i + 1 ≤ es.length from hi2)).subset; rw [HS.out] at this; exact this (by simp))
            dsimp only [encY] at hy2
            have HR2 := Lib.hid hR2
            clear hR2 hJ3 hk3 VX3
            gi_wp2
            refine HR2.out.mono ?_
            rintro e W4 (⟨rfl, hJ4, hk4⟩ | ⟨rfl, hJx4⟩)
            · have HJ4 := Lib.hid hJ4
              have HK4 := Lib.hid (HK3.out.trans hk4.low)
              clear hJ4 hk4
              gi_wp2
              go_roundw
              case rel => exact ⟨i + 1, by omega, by go_num, by rw [HS.out]; simpa using HJ4.out, HK4.out⟩
              case measure => simp [intOf]; omega
            · have HJx4 := Lib.hid hJx4
              clear hJx4
              gi_wp2
              refine bodyPost_ret (results_none rfl _ _ _) rfl ?_
              exact ⟨⟨_, rfl⟩, .inr ⟨_, by have := seqN_pre es (show i + 1 ≤ es.length from hi2); rw [HS.out] at this; simpa using this, HJx4.out⟩⟩
          · have HJx3 := Lib.hid hJx3
            clear hJx3
            gi_wp2_with (refine wpListIn_skip rfl rfl ?_)
            refine bodyPost_ret (results_none rfl _ _ _) rfl ?_
            exact ⟨⟨_, rfl⟩, .inr ⟨_, by
              have := seqN_pre es (show i + 1 ≤ es.length from hi2)
              rw [HS.out] at this
              refine List.IsPrefix.trans ?_ this
              exact List.prefix_append_right_inj _ |>.2 (by simp), HJx3.out⟩⟩
        · obtain ⟨fn, tmps, assign, body, hy, hR⟩ := HY.out _ (xf, (i : Int), xt, 4) _ HJ1.out (by have := HLt.out; simp at this; omega) (by have := (seqN_pre es (show i + 1 ≤ es.length from hi2)).subset; rw [HS.out] at this; exact this (by simp))
          dsimp only [encY] at hy
          have HR := Lib.hid hR
          clear hR
          gi_wp2
          refine HR.out.mono ?_
          rintro e W3 (⟨rfl, hJ3, hk3⟩ | ⟨rfl, hJx3⟩)
          · have HK3 := Lib.hid (HNx.out.trans hk3.low)
            have VX3 := hk3.box _ _ VX.out
            have v1 := VX3.cell 1
            have v2 := VX3.cell 2
            simp only [List.getElem?_toArray, List.getElem?_cons_zero, List.getElem?_cons_succ] at v1 v2
            obtain ⟨fn2, tmps2, assign2, body2, hy2, hR2⟩ := HY.out _ (xt, (i : Int), xf, 1) _ hJ3 (by have := HLt.out; simp at this ⊢; omega) (by have := (seqN_pre es (show i + 1 ≤ es.length from hi2)).subset; rw [HS.out] at this; exact this (by simp))
            dsimp only [encY] at hy2
            have HR2 := Lib.hid hR2
            clear hR2 hJ3 hk3 VX3
            gi_wp2
            refine HR2.out.mono ?_
            rintro e W4 (⟨rfl, hJ4, hk4⟩ | ⟨rfl, hJx4⟩)
            · have HJ4 := Lib.hid hJ4
              have HK4 := Lib.hid (HK3.out.trans hk4.low)
              clear hJ4 hk4
              gi_wp2
              go_roundw
              case rel => exact ⟨i + 1, by omega, by go_num, by rw [HS.out]; simpa using HJ4.out, HK4.out⟩
              case measure => simp [intOf]; omega
            · have HJx4 := Lib.hid hJx4
              clear hJx4
              gi_wp2
              refine bodyPost_ret (results_none rfl _ _ _) rfl ?_
              exact ⟨⟨_, rfl⟩, .inr ⟨_, by have := seqN_pre es (show i + 1 ≤ es.length from hi2); rw [HS.out] at this; simpa using this, HJx4.out⟩⟩
          · have HJx3 := Lib.hid hJx3
            clear hJx3
            gi_wp2_with (refine wpListIn_skip rfl rfl ?_)
            refine bodyPost_ret (results_none rfl _ _ _) rfl ?_
            exact ⟨⟨_, rfl⟩, .inr ⟨_, by
              have := seqN_pre es (show i + 1 ≤ es.length from hi2)
              rw [HS.out] at this
              refine List.IsPrefix.trans ?_ this
              exact List.prefix_append_right_inj _ |>.2 (by simp), HJx3.out⟩⟩
    · obtain rfl : M = i := by omega
      have ii : ¬ ((M : Int) < (M : Int)) := by omega
      have HJs := Lib.hid hJs
      clear hJs
      gi_wp2
      go_end0
      exact ⟨⟨_, rfl⟩, .inl (by rw [HL.out, HM.out]; exact HJs.out)⟩
/-- the maker of that iterator -/
theorem leads_any (ao : Option Addr) (M cap : Nat) (w : World) : Calls Try.prog 39 #[.slice ao M cap] w fun e w' => e = .returned (.func (.func 53) #[] #[.pointer (some ⟨w.heap.size, 0, none⟩)]) ∧ w' = w.alloc (.cells #[.slice ao M cap] 23) := by
  go_enter Try.func39, Try.ntmps39
  go_wp2_with fail
  go_ret
  exact ⟨rfl, rfl⟩
/-- what is yielded, its node among L -/
abbrev YdL (L : Nat) := { x : Yd // 0 ≤ x.1 ∧ x.1 < (L : Int) }
theorem lift_val {L : Nat} : ∀ (l : List Yd), (∀ x ∈ l, 0 ≤ x.1 ∧ x.1 < (L : Int)) → ∃ l' : List (YdL L), l'.map Subtype.val = l
  | [], _ => ⟨[], rfl⟩
  | x :: l, h => by
    obtain ⟨l', e⟩ := lift_val l (fun y hy => h y (List.mem_cons_of_mem _ hy))
    exact ⟨⟨x, h x (List.mem_cons_self ..)⟩ :: l', by simp [e]⟩
theorem leads_stops (F : Fence) (n : Nat) (h53 : F.fn 53) (hro : F.round = none) (hn : 1 ≤ n) (Bl Lr L : Nat) (es : List Ed) (ys : List Dx) (ao : Option Addr) (M cap : Nat) (hM : ys.length = M) (hMk : M ≤ 1000) (hL : es.length = ys.length)
    (hF : ∀ i (h : i < es.length) (h' : i < ys.length), ys[i].fro = es[i].fro ∧ ys[i].to = es[i].to ∧ ys[i].dir = es[i].dir) (hin : ∀ x ∈ seqN es es.length, 0 ≤ x.1 ∧ x.1 < (L : Int)) (W0 : World)
    (hBl : W0.cell? ⟨Bl, 0, none⟩ = some (.slice ao M cap)) (hBl2 : Bl < W0.heap.size)
    (hE : ∀ i (h : i < ys.length), ∃ b o, ao = some ⟨b, o, none⟩ ∧ b < W0.heap.size ∧ b ≠ Lr ∧ ∀ j, j < 6 → W0.cell? ⟨b, o + i * 6 + j, none⟩ = (encD.enc ys[i])[j]?) :
    SeqStopsK F n Try.prog 53 #[.pointer (some ⟨Bl, 0, none⟩)] (fun x : YdL L => encY x.1) (KpE W0.heap.size Lr) (fun xs => xs.map Subtype.val = seqN es es.length) (fun _ => True) (seqN es es.length).length W0 := by
  intro l J Jx W hW hJ hJx hY h0
  refine (leads1_in F n h53 hro hn l Bl W0.heap.size Lr es ys ao M cap hM hMk hL hF (fun p W' => ∃ p' : List (YdL L), p'.map Subtype.val = p ∧ J p' W') (fun p W' => ∃ p' : List (YdL L), p'.map Subtype.val = p ∧ Jx p' W') W hW.size
    (fun s A B row hs hg hr => by
      obtain ⟨p', e, h⟩ := hs
      exact ⟨p', e, hJ _ _ _ _ h hg hr⟩)
    (fun pre x W1 hs hl hx => by
      obtain ⟨p', rfl, h⟩ := hs
      obtain ⟨fn, tmps, assign, body, hy, hR⟩ := hY p' ⟨x, hin x hx⟩ W1 h (by simpa using hl)
      refine ⟨fn, tmps, assign, body, hy, hR.mono ?_⟩
      rintro e W2 (⟨rfl, h2, hk⟩ | ⟨rfl, h2⟩)
      · exact .inl ⟨rfl, ⟨_, by simp, h2⟩, hk⟩
      · exact .inr ⟨rfl, ⟨_, by simp, h2⟩⟩)
    ((hW.cell (p := ⟨Bl, 0, none⟩) hBl2).trans hBl)
    (fun i hi => by
      obtain ⟨b, o, e, hb, hne, hc⟩ := hE i hi
      exact ⟨b, o, e, hb, hne, fun j hj => (hW.cell (p := ⟨b, o + i * 6 + j, none⟩) hb).trans (hc j hj)⟩)
    ⟨[], rfl, h0⟩).mono ?_
  rintro e W' ⟨he, ⟨xs, rfl, p', e', h⟩ | ⟨pre, _, p', e', h⟩⟩
  · exact ⟨he, .inl ⟨p', e', h⟩⟩
  · exact ⟨he, .inr ⟨p', trivial, h⟩⟩
end Go.Proofs.Ytdoefndppoglfaa
