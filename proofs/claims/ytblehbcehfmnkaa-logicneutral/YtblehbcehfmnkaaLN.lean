import Derived.Test.YtblehbcehfmnkaaLM
import Derived.Deep.RegionHeld3
import Derived.Deep.RegionLaw
namespace Go.Proofs.Ytblehbcehfmnkaa
open Go Go.RowKit
set_option linter.unusedVariables false
theorem step_append_ts {w : World} {ops : Array Oper} {o : Oper} {a : Act} {K : Act → World → Prop} {Q : Exit → Act → World → Prop} {E : Prop} (hgd : o.guard = none) (s x : Operand)
    (ho : o.op = .call { callee := .builtin .append, args := #[s, x], argTypes := #[33, 33] }) {base n : Nat} {v vx : Value} {l m : List Int} (hs : a.eval s = v) (hx : a.eval x = vx)
    (h : Own w base v l) (hm : Ts n w vx m) (hlen : l.length + m.length ≤ 1000000) (hbase : base ≤ w.heap.size)
    (hk : ∀ v' w', Own w' base v' (l ++ m) → w.grownBy w' v.ownBlock → K (a.put o.dst v') w') : if Region.wanted o (yielded ops a.tmps) = true then Oper.wp Try.prog o a w K Q else E := by
  have hw : Region.wanted o (yielded ops a.tmps) = true := by simp [Region.wanted, hgd]
  rw [if_pos hw]
  obtain ⟨v', w', hr, h1, h2⟩ := run_append_ts o.type h hm hlen hbase
  exact Lib.wp_append_run w s x 33 33 ho v vx hs hx v' w' hr (hk v' w' h1 h2)
theorem Ts.rest {n : Nat} {w : World} {ao : Option Addr} {len cap : Nat} {l : List Int} (h : Ts n w (.slice ao len cap) l) (c : Nat) (hc : c ≤ l.length) (hn : ¬ cap = c) : Ts n w (.slice (ao.map (fun x => x.add c)) (l.length - c) (cap - c)) (l.drop c) := by
  have h' := h
  obtain ⟨ao', cap', he, k2, k3, k4, k5⟩ := h'
  cases he
  have := h.sliced c l.length cap hc (Nat.le_refl _) (by omega) (Nat.le_refl _)
  have e : Go.sliced ao c l.length cap 1 = .slice (ao.map (fun x => x.add c)) (l.length - c) (cap - c) := by
    unfold Go.sliced
    rw [if_neg hn, Nat.mul_one]
  rw [e] at this; simpa using this
theorem Ts.rest0 {n : Nat} {w : World} {ao : Option Addr} {len cap : Nat} {l : List Int} (h : Ts n w (.slice ao len cap) l) (c : Nat) (hc : c ≤ l.length) (hn : cap = c) : Ts n w (.slice ao 0 0) (l.drop c) := by
  have h' := h
  obtain ⟨ao', cap', he, k2, k3, k4, k5⟩ := h'
  cases he
  have hd : l.drop c = [] := by simp; omega
  rw [hd]
  exact ⟨ao, 0, rfl, Nat.le_refl _, by simp [maxLen], fun _ => rfl, fun j u h => by simp at h⟩
/-- a slice of one truth, by its cell -/
theorem one_at (w : World) (x : Int) : (w.alloc (.cells #[.int .i64 x] 27)).drew.cell? ⟨w.heap.size, 0, none⟩ = some (.int .i64 x) := by simp
theorem one_at2 (w : World) (x : Int) (o : Obj) : ((w.alloc (.cells #[.int .i64 x] 27)).alloc o).drew.cell? ⟨w.heap.size, 0, none⟩ = some (.int .i64 x) :=
  ((below_a1 (w.alloc (.cells #[.int .i64 x] 27)) o).drew.cell (p := ⟨w.heap.size, 0, none⟩) (by simp)).trans (by simp)
theorem one_kept {w w' : World} {x : Int} {g p : Nat} {n c : Nat} (h : w.cell? ⟨g, 0, none⟩ = some (.int .i64 x)) (hg : w.grownBy w' (Value.slice (some ⟨p, 0, none⟩) n c).ownBlock) (hne : g ≠ p) : Ts w'.heap.size w' (.slice (some ⟨g, 0, none⟩) 1 1) [x] := by
  have hc : w'.cell? ⟨g, 0, none⟩ = some (.int .i64 x) := hg.cell h (by simp [Value.ownBlock]; omega)
  refine ⟨some ⟨g, 0, none⟩, 1, rfl, Nat.le_refl _, by simp [maxLen], fun h => (by cases h), fun j u hj => ?_⟩
  match j with
  | 0 => simp at hj; subst hj; exact ⟨_, rfl, block_lt_of_cell hc, hc⟩
  | j + 1 => simp at hj
theorem two {w w' : World} {Bt Bk : Nat} {v u : Value} (h : w.cell? ⟨Bt, 0, none⟩ = some v ∧ w.cell? ⟨Bk, 0, none⟩ = some u) (hb : Below w.heap.size w w') : w'.cell? ⟨Bt, 0, none⟩ = some v ∧ w'.cell? ⟨Bk, 0, none⟩ = some u :=
  ⟨(hb.cell (block_lt_of_cell h.1)).trans h.1, (hb.cell (block_lt_of_cell h.2)).trans h.2⟩
set_option maxHeartbeats 8000000 in
set_option maxRecDepth 100000 in
theorem with_any (x : Int) (T : List Int) (k cap Bt Bk : Nat) (ao : Option Addr) (w : World) (h1 : w.cell? ⟨Bt, 0, none⟩ = some (.slice ao T.length cap)) (h2 : w.cell? ⟨Bk, 0, none⟩ = some (.int .i64 k))
    (hT : Ts w.heap.size w (.slice ao T.length cap) T) (hk : k ≤ T.length) (hl : T.length ≤ 100) :
    Calls Try.prog 21 #[.int .i64 x, .pointer (some ⟨Bt, 0, none⟩), .pointer (some ⟨Bk, 0, none⟩)] w fun e w' => ∃ v', e = .returned v' ∧ Own w' w.heap.size v' (T.take k ++ [x] ++ T.drop k) ∧ Below w.heap.size w w' := by
  obtain ⟨ao', cap', he, k2, k3, k4, -⟩ := id hT
  cases he
  have HD := Lib.hid (hT.head k hk)
  have HS := Lib.hid (And.intro h1 h2)
  have bA : Below w.heap.size w (w.alloc (.cells #[] 27)).drew := (below_a1 _ _).drew
  have bAB : Below w.heap.size w ((w.alloc (.cells #[] 27)).alloc (.cells #[.int .i64 x] 27)).drew := ((below_a1 _ _).alloc (by simp) _).drew
  have bB : Below w.heap.size w (w.alloc (.cells #[.int .i64 x] 27)).drew := (below_a1 _ _).drew
  have bBA : Below w.heap.size w ((w.alloc (.cells #[.int .i64 x] 27)).alloc (.cells #[] 27)).drew := ((below_a1 _ _).alloc (by simp) _).drew
  have NA := Lib.hid ((Own.lit w w.heap.size [] (Nat.le_refl _) (by simp) #[] rfl).below (Below.refl _ _).drew)
  have NAB := Lib.hid ((Own.lit w w.heap.size [] (Nat.le_refl _) (by simp) #[] rfl).below (below_a1 _ (.cells #[.int .i64 x] 27)).drew)
  have NBA := Lib.hid ((Own.lit (w.alloc (.cells #[.int .i64 x] 27)) w.heap.size [] (by simp) (by simp) #[] rfl).below (Below.refl _ _).drew)
  rw [show (w.alloc (.cells #[.int .i64 x] 27)).heap.size = w.heap.size + 1 by simp] at NBA
  have XAB := Lib.hid (one_at (w.alloc (.cells #[] 27)) x)
  rw [show (w.alloc (.cells #[] 27)).heap.size = w.heap.size + 1 by simp] at XAB
  have XBA := Lib.hid (one_at2 w x (.cells #[] 27))
  have BA := Lib.hid bA
  have BAB := Lib.hid bAB
  have BB := Lib.hid bB
  have BBA := Lib.hid bBA
  have HL := Lib.hid hl
  have HK := Lib.hid hk
  simp only [maxLen] at k3
  have i1 : (k : Int) ≤ (cap : Int) := by omega
  have i2 : (k : Int) ≤ (T.length : Int) := by omega
  clear bA bAB bB bBA
  by_cases hck : cap = k
  · have HR := Lib.hid (hT.rest0 k hk hck)
    clear hT hk hl
    have HL1 := Lib.hid (show (T.take k).length ≤ 100 by have := HL.out; simp; omega)
    have HL2 := Lib.hid (show (T.drop k).length ≤ 100 by have := HL.out; simp; omega)
    generalize hTl : T.length = L at *
    generalize T.take k = Ta at *
    generalize T.drop k = Tb at *
    subst hck
    have s1 := Lib.hid (show ([] : List Int).length + Ta.length ≤ 1000000 by have := HL1.out; simp; omega)
    have s2 := Lib.hid (show Ta.length + [x].length ≤ 1000000 by have := HL1.out; simp; omega)
    have s3 := Lib.hid (show (Ta ++ [x]).length + Tb.length ≤ 1000000 by have := HL1.out; have := HL2.out; simp; omega)
    go_enter Try.func21, Try.ntmps21
    go_wp2_with fail
    go_region_held3 (fun w' => w'.cell? ⟨Bt, 0, none⟩ = some (.slice ao L cap) ∧ w'.cell? ⟨Bk, 0, none⟩ = some (.int .i64 cap))
      (first | exact two HS.out (Below.refl _ _).drew | exact two HS.out BA.out | exact two HS.out BB.out | exact two HS.out BAB.out | exact two HS.out BBA.out | exact two HS.out d9 | exact two HS.out (d9.alloc d9.size _) | exact two HS.out d12 | exact two HS.out d16)
      (first
        | (refine step_append_ts rfl (.tmp 5) (.tmp 8) rfl (by simp [Act.eval]) (by simp [Act.eval]) NA.out (HD.out.below BA.out) s1.out BA.out.size ?_
           intro v9 w9 o9 g9
           have d9 := BA.out.grown g9 BA.out.size NA.out.row
           rw [List.nil_append] at o9)
        | (refine step_append_ts rfl (.tmp 5) (.tmp 8) rfl (by simp [Act.eval]) (by simp [Act.eval]) NAB.out (HD.out.below BAB.out) s1.out BAB.out.size ?_
           intro v9 w9 o9 g9
           have d9 := BAB.out.grown g9 BAB.out.size NAB.out.row
           have x9 := one_kept (g := w.heap.size + 1) (p := w.heap.size) XAB.out g9 (by omega)
           rw [List.nil_append] at o9)
        | (refine step_append_ts rfl (.tmp 5) (.tmp 8) rfl (by simp [Act.eval]) (by simp [Act.eval]) NBA.out (HD.out.below BBA.out) s1.out BBA.out.size ?_
           intro v9 w9 o9 g9
           have d9 := BBA.out.grown g9 BBA.out.size NBA.out.row
           have x9 := one_kept (g := w.heap.size) (p := w.heap.size + 1) XBA.out g9 (by omega)
           rw [List.nil_append] at o9)
        | (refine step_append_ts rfl (.tmp 9) (.tmp 11) rfl (by simp [Act.eval]) (by simp [Act.eval]) o9 x9 s2.out d9.size ?_
           intro v12 w12 o12 g12
           have d12 := d9.grown g12 d9.size o9.row)
        | (refine step_append_ts rfl (.tmp 9) (.tmp 11) rfl (by simp [Act.eval]) (by simp [Act.eval]) (o9.below (below_a1 w9 _)) (one_ts w9 x) s2.out (d9.alloc d9.size _).size ?_
           intro v12 w12 o12 g12
           have d12 := (d9.alloc d9.size _).grown g12 (d9.alloc d9.size _).size o9.row)
        | (refine step_append_ts rfl (.tmp 12) (.tmp 15) rfl (by simp [Act.eval]) (by simp [Act.eval]) o12 (HR.out.below d12) s3.out d12.size ?_
           intro v16 w16 o16 g16
           have d16 := d12.grown g16 d12.size o12.row))
    all_goals (go_wp2_with fail; go_ret; exact ⟨_, rfl, o16, d16⟩)
  · have HR := Lib.hid (hT.rest k hk hck)
    clear hT hk hl
    have HL1 := Lib.hid (show (T.take k).length ≤ 100 by have := HL.out; simp; omega)
    have HL2 := Lib.hid (show (T.drop k).length ≤ 100 by have := HL.out; simp; omega)
    skip
    generalize hTl : T.length = L at *
    generalize T.take k = Ta at *
    generalize T.drop k = Tb at *
    have s1 := Lib.hid (show ([] : List Int).length + Ta.length ≤ 1000000 by have := HL1.out; simp; omega)
    have s2 := Lib.hid (show Ta.length + [x].length ≤ 1000000 by have := HL1.out; simp; omega)
    have s3 := Lib.hid (show (Ta ++ [x]).length + Tb.length ≤ 1000000 by have := HL1.out; have := HL2.out; simp; omega)
    go_enter Try.func21, Try.ntmps21
    go_wp2_with fail
    go_region_held3 (fun w' => w'.cell? ⟨Bt, 0, none⟩ = some (.slice ao L cap) ∧ w'.cell? ⟨Bk, 0, none⟩ = some (.int .i64 k))
      (first | exact two HS.out (Below.refl _ _).drew | exact two HS.out BA.out | exact two HS.out BB.out | exact two HS.out BAB.out | exact two HS.out BBA.out | exact two HS.out d9 | exact two HS.out (d9.alloc d9.size _) | exact two HS.out d12 | exact two HS.out d16)
      (first
        | (refine step_append_ts rfl (.tmp 5) (.tmp 8) rfl (by simp [Act.eval]) (by simp [Act.eval]) NA.out (HD.out.below BA.out) s1.out BA.out.size ?_
           intro v9 w9 o9 g9
           have d9 := BA.out.grown g9 BA.out.size NA.out.row
           rw [List.nil_append] at o9)
        | (refine step_append_ts rfl (.tmp 5) (.tmp 8) rfl (by simp [Act.eval]) (by simp [Act.eval]) NAB.out (HD.out.below BAB.out) s1.out BAB.out.size ?_
           intro v9 w9 o9 g9
           have d9 := BAB.out.grown g9 BAB.out.size NAB.out.row
           have x9 := one_kept (g := w.heap.size + 1) (p := w.heap.size) XAB.out g9 (by omega)
           rw [List.nil_append] at o9)
        | (refine step_append_ts rfl (.tmp 5) (.tmp 8) rfl (by simp [Act.eval]) (by simp [Act.eval]) NBA.out (HD.out.below BBA.out) s1.out BBA.out.size ?_
           intro v9 w9 o9 g9
           have d9 := BBA.out.grown g9 BBA.out.size NBA.out.row
           have x9 := one_kept (g := w.heap.size) (p := w.heap.size + 1) XBA.out g9 (by omega)
           rw [List.nil_append] at o9)
        | (refine step_append_ts rfl (.tmp 9) (.tmp 11) rfl (by simp [Act.eval]) (by simp [Act.eval]) o9 x9 s2.out d9.size ?_
           intro v12 w12 o12 g12
           have d12 := d9.grown g12 d9.size o9.row)
        | (refine step_append_ts rfl (.tmp 9) (.tmp 11) rfl (by simp [Act.eval]) (by simp [Act.eval]) (o9.below (below_a1 w9 _)) (one_ts w9 x) s2.out (d9.alloc d9.size _).size ?_
           intro v12 w12 o12 g12
           have d12 := (d9.alloc d9.size _).grown g12 (d9.alloc d9.size _).size o9.row)
        | (refine step_append_ts rfl (.tmp 12) (.tmp 15) rfl (by simp [Act.eval]) (by simp [Act.eval]) o12 (HR.out.below d12) s3.out d12.size ?_
           intro v16 w16 o16 g16
           have d16 := d12.grown g16 d12.size o12.row))
    all_goals (go_wp2_with fail; go_ret; exact ⟨_, rfl, o16, d16⟩)
end Go.Proofs.Ytblehbcehfmnkaa
