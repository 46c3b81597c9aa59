import Derived.Test.YtfhnjilflffdfaaEDi
import Derived.Recover
import Derived.Laws.Pointers
namespace Go.Proofs.Ytfhnjilflffdfaa
open Go Go.RowKit
set_option linter.unusedVariables false
theorem Lies.grow' {w w' : World} {b : Nat} {v0 v1 v2 v3 : Value} {r : Option Nat} (h : Lies w b v0 v1 v2 v3) (hg : w.grownBy w' r) (hr : some b ≠ r) : Lies w' b v0 v1 v2 v3 := ⟨hg.cell h.1 hr, hg.cell h.2.1 hr, hg.cell h.2.2.1 hr, hg.cell h.2.2.2 hr⟩
theorem grown_rowS (W : World) (b : Nat) (cs : Array Value) : W.grownBy (W.setRow b cs) (some b) := ⟨rfl, rfl, rfl, by simp [World.setRow], fun k hk hr => setRow_other W b k cs (fun e => hr (by simp [e]))⟩
theorem run_mf (fn : Fn) (first cap : Array Value) (w : World) : (Instr.makeFunc fn first cap).run Try.prog w = .ok (.func fn first cap) w := rfl
theorem run_ta (x : Int) (w : World) : (Instr.typeAssert (.iface 32 (.int .i64 x)) 20 32 false).run Try.prog w = .ok (.int .i64 x) w := by
  simp [Instr.typeAssert, go_sem]
/-- the deferred closure where nothing was thrown -/
theorem catch_ok (p q : Nat) (w : World) : CallsD Try.prog 24 #[.pointer (some ⟨p, 0, none⟩), .pointer (some ⟨q, 0, none⟩)] .returning w fun e u' w' => e = .returned (.tuple #[]) ∧ u' = .returning ∧ w' = w := by
  refine callsD_of_wpS Try.func24 rfl fun c₀ cs hu => ?_
  refine wpS_seq ?_
  apply wpS_region
  simp [wpOpsS, go_sem, recoverD, hu, Try.ntmps24]
  refine wpS_of_wp ?_
  go_wp2_with fail
  simp [bodyPostS, results, Try.results24]
  cases c₀
  simp_all
theorem catch_bad (p q : Nat) (w : World) (v0 v1 v2 v3 : Value) (x : Int) (hp : Vr w p 24 #[v0, v1, v2, v3]) (hq : Vr w q 32 #[.int .i64 x]) (hpq : p ≠ q) :
    CallsD Try.prog 24 #[.pointer (some ⟨p, 0, none⟩), .pointer (some ⟨q, 0, none⟩)] (.panicking [{ v := .iface 32 (.int .i64 4), recovered := false }]) w fun e u' w' =>
      e = .returned (.tuple #[]) ∧ u' = .panicking [{ v := .iface 32 (.int .i64 4), recovered := true }] ∧ Lies w' p (.int .i64 0) (.int .i64 0) (.float .f64 0) (.string ⟨#[]⟩) ∧ w'.cell? ⟨q, 0, none⟩ = some (.int .i64 4) ∧ (∀ n, n ≤ p → n ≤ q → Below n w w') := by
  have hsf := run_store_float
  have ⟨⟨m0, m1, m2, m3⟩, f0, f1, f2, f3⟩ := hp.four
  have q0 : w.cell? ⟨q, 0, none⟩ = some (.int .i64 x) := hq.cell 0
  have g0 := hq.frozen 0
  have hqp : q ≠ p := fun h => hpq h.symm
  refine callsD_of_wpS Try.func24 rfl fun c₀ cs hu => ?_
  refine wpS_seq ?_
  apply wpS_region
  simp [wpOpsS, go_sem, recoverD, hu, Try.ntmps24]
  refine wpS_of_wp ?_
  go_wp2_with fail
  have hta := run_ta 4
  have H1 := Lies.grow' (Lies.set (w := w) ⟨m0, m1, m2, m3⟩ (.int .i64 0) (.int .i64 0) (.float .f64 0) (.string ⟨#[]⟩)) (grown_set _ q 0 (.int .i64 4)) (by simpa using hpq)
  have H2 : (((((w.setCell ⟨p, 0, none⟩ (.int .i64 0)).setCell ⟨p, 1, none⟩ (.int .i64 0)).setCell ⟨p, 2, none⟩ (.float .f64 0)).setCell ⟨p, 3, none⟩ (.string ⟨#[]⟩)).setCell ⟨q, 0, none⟩ (.int .i64 4)).cell? ⟨q, 0, none⟩ = some (.int .i64 4) := by simp [go_sem, q0]
  have H3 : ∀ n, n ≤ p → n ≤ q → Below n w (((((w.setCell ⟨p, 0, none⟩ (.int .i64 0)).setCell ⟨p, 1, none⟩ (.int .i64 0)).setCell ⟨p, 2, none⟩ (.float .f64 0)).setCell ⟨p, 3, none⟩ (.string ⟨#[]⟩)).setCell ⟨q, 0, none⟩ (.int .i64 4)).drew := fun n h1 h2 => ((below_set4 (Below.refl n w) h1 _ _ _ _).setCell h2 _).drew
  have HH := Lib.hid (And.intro H1 (And.intro H2 H3))
  clear H1 H2 H3
  change Code.wp Try.prog _ _ { tmps := #[.pointer (some ⟨p, 0, none⟩), .pointer (some ⟨q, 0, none⟩), .iface 32 (.int .i64 4), .iface 32 (.int .i64 4), .iface 32 (.int .i64 4), .bool true, undef, undef, undef], defers := [] } w
  go_region
  all_goals
    go_wp2_with fail
    simp [bodyPostS, results, Try.results24]
    exact ⟨HH.out.1.drew, HH.out.2.1, HH.out.2.2⟩
theorem loade {w : World} {c : Nat} {x : Int} (h : w.cell? ⟨c, 0, none⟩ = some (.int .i64 x)) : (loadVar 32 ⟨c, 0, none⟩).run Try.prog w = .ok (.int .i64 x) w := by
  go_simp
theorem leaves_ve {fn : Func} {p q : Tmp} {tmps : Array Value} {R : Ending → World → Prop} {w : World} {b c : Nat} {v0 v1 v2 v3 : Value} {x : Int} {m : FrameMode} (hm : m = .returning) (h : fn.results = #[.cell p 24, .cell q 32]) (hp : tmps.getD p undef = .pointer (some ⟨b, 0, none⟩)) (hq : tmps.getD q undef = .pointer (some ⟨c, 0, none⟩))
    (hc : Lies w b v0 v1 v2 v3) (hx : w.cell? ⟨c, 0, none⟩ = some (.int .i64 x)) (hR : R (.returned (.tuple #[.agg #[v0, v1, v2, v3], .int .i64 x])) w) : Leaves Try.prog fn tmps R [] m w := by
  subst hm
  have hp' : tmps[p]?.getD undef = .pointer (some ⟨b, 0, none⟩) := by simpa using hp
  have hq' : tmps[q]?.getD undef = .pointer (some ⟨c, 0, none⟩) := by simpa using hq
  simp [Leaves, results, h, hp', hq', asAddr, load4 hc, loade hx]
  exact hR
theorem laidE (w : World) (x : Xc) : Lies7 (((w.alloc (.cells #[.int .i64 x.kind, .string x.name, .int .i64 x.v.k, .int .i64 x.v.n, .float .f64 x.v.f, .string x.v.s, .slice x.ao x.len x.cap] 27)).alloc (.cells #[.int .i64 0, .int .i64 0, .float .f64 0, .string ⟨#[]⟩] 24)).alloc (.cells #[.int .i64 0] 32)) w.heap.size x ∧ Vr (((w.alloc (.cells #[.int .i64 x.kind, .string x.name, .int .i64 x.v.k, .int .i64 x.v.n, .float .f64 x.v.f, .string x.v.s, .slice x.ao x.len x.cap] 27)).alloc (.cells #[.int .i64 0, .int .i64 0, .float .f64 0, .string ⟨#[]⟩] 24)).alloc (.cells #[.int .i64 0] 32)) (w.heap.size + 1) 24 #[.int .i64 0, .int .i64 0, .float .f64 0, .string ⟨#[]⟩] ∧ Vr (((w.alloc (.cells #[.int .i64 x.kind, .string x.name, .int .i64 x.v.k, .int .i64 x.v.n, .float .f64 x.v.f, .string x.v.s, .slice x.ao x.len x.cap] 27)).alloc (.cells #[.int .i64 0, .int .i64 0, .float .f64 0, .string ⟨#[]⟩] 24)).alloc (.cells #[.int .i64 0] 32)) (w.heap.size + 2) 32 #[.int .i64 0] := by
  have e1 : (w.alloc (.cells #[.int .i64 x.kind, .string x.name, .int .i64 x.v.k, .int .i64 x.v.n, .float .f64 x.v.f, .string x.v.s, .slice x.ao x.len x.cap] 27)).heap.size = w.heap.size + 1 := by simp
  have e2 : ((w.alloc (.cells #[.int .i64 x.kind, .string x.name, .int .i64 x.v.k, .int .i64 x.v.n, .float .f64 x.v.f, .string x.v.s, .slice x.ao x.len x.cap] 27)).alloc (.cells #[.int .i64 0, .int .i64 0, .float .f64 0, .string ⟨#[]⟩] 24)).heap.size = w.heap.size + 2 := by simp
  refine ⟨((lies7_new w x 27 _ rfl).keep (below_a1 _ _)).keep (below_a1 _ _), ?_, ?_⟩
  · have h := (Vr.new (w.alloc (.cells #[.int .i64 x.kind, .string x.name, .int .i64 x.v.k, .int .i64 x.v.n, .float .f64 x.v.f, .string x.v.s, .slice x.ao x.len x.cap] 27)) 24 #[.int .i64 0, .int .i64 0, .float .f64 0, .string ⟨#[]⟩]).keep (below_a1 _ (.cells #[.int .i64 0] 32))
    rw [e1] at h; exact h
  · have h := Vr.new ((w.alloc (.cells #[.int .i64 x.kind, .string x.name, .int .i64 x.v.k, .int .i64 x.v.n, .float .f64 x.v.f, .string x.v.s, .slice x.ao x.len x.cap] 27)).alloc (.cells #[.int .i64 0, .int .i64 0, .float .f64 0, .string ⟨#[]⟩] 24)) 32 #[.int .i64 0]
    rw [e2] at h; exact h
theorem eval_wrong (x : Xc) (ao : Option Addr) (L cap : Nat) (w : World) (C : ∀ w1, Below w.heap.size w w1 → Calls Try.prog 10 #[xv x] w1 fun e w' => e = .returned (.bool false) ∧ Below w1.heap.size w1 w') : Calls Try.prog 12 #[xv x, .slice ao L cap] w fun e w' => e = .returned (.tuple #[avl Vl.zero, .int .i64 1]) ∧ Below w.heap.size w w' := by
  have hsf := run_store_float
  have hmf := run_mf
  have Ld := Lib.hid (laidE w x)
  have c0 := below_a3 w (.cells #[.int .i64 x.kind, .string x.name, .int .i64 x.v.k, .int .i64 x.v.n, .float .f64 x.v.f, .string x.v.s, .slice x.ao x.len x.cap] 27) (.cells #[.int .i64 0, .int .i64 0, .float .f64 0, .string ⟨#[]⟩] 24) (.cells #[.int .i64 0] 32)
  have C1 := Lib.hid (C _ c0)
  clear C
  have ⟨q0, q1, q2, q3, q4, q5, q6⟩ := Ld.out.1.at
  generalize hW : ((w.alloc (.cells #[.int .i64 x.kind, .string x.name, .int .i64 x.v.k, .int .i64 x.v.n, .float .f64 x.v.f, .string x.v.s, .slice x.ao x.len x.cap] 27)).alloc (.cells #[.int .i64 0, .int .i64 0, .float .f64 0, .string ⟨#[]⟩] 24)).alloc (.cells #[.int .i64 0] 32) = W0 at *
  go_enter_defers Try.func12, Try.ntmps12
  go_upto_region 1 with fail
  try rw [hW]
  clear hW
  go_wp2_with fail
  (with_reducible refine C1.out.mono ?_); rintro e w2 ⟨rfl, hb2⟩
  have V1 := Lib.hid (Ld.out.2.1.keep hb2)
  have V2 := Lib.hid ((Ld.out.2.2.keep hb2).grownR (r := some (w.heap.size + 1)) (w' := w2.setRow (w.heap.size + 1) (vcs Vl.zero)) (grown_rowS _ _ _) (by simp))
  have k0 : (w2.setRow (w.heap.size + 1) (vcs Vl.zero)).cell? ⟨w.heap.size + 1 + 1, 0, none⟩ = some (.int .i64 0) := V2.out.cell 0
  have k1 : (w2.setRow (w.heap.size + 1) (vcs Vl.zero)).frozen? ⟨w.heap.size + 1 + 1, 0, none⟩ = false := V2.out.frozen 0
  have VZ := Lib.hid (V1.out.set (vcs Vl.zero))
  have B3 := Lib.hid (below_setRow (Below.chain c0 hb2) (show w.heap.size ≤ w.heap.size + 1 by omega) (vcs Vl.zero))
  go_wp2_with (refine wpList_store_v Vl.zero rfl _ _ rfl rfl rfl V1.out rfl ?_)
  refine leaves_ve rfl rfl rfl rfl (Lies.grow' VZ.out.lies (grown_set _ (w.heap.size + 1 + 1) 0 (.int .i64 1)) (by simp)) (by simp [go_sem, k0]) ⟨rfl, ?_⟩
  exact B3.out.setCell (show w.heap.size ≤ (⟨w.heap.size + 1 + 1, 0, none⟩ : Addr).block by simp; omega) _
theorem eval_bad (x : Xc) (ao : Option Addr) (L cap : Nat) (w : World) (C : ∀ w1, Below w.heap.size w w1 → Calls Try.prog 10 #[xv x] w1 fun e w' => e = .returned (.bool true) ∧ Below w1.heap.size w1 w')
    (D : ∀ w2, Below w.heap.size w w2 → Calls Try.prog 25 #[.pointer (some ⟨w2.heap.size, 0, none⟩), xv x] (w2.alloc (.cells #[.slice ao L cap, .bool false] 54)) fun e w' => e = bad4 ∧ (w2.alloc (.cells #[.slice ao L cap, .bool false] 54)).grownBy w' (some w2.heap.size)) : Calls Try.prog 12 #[xv x, .slice ao L cap] w fun e w' => e = .returned (.tuple #[avl Vl.zero, .int .i64 4]) ∧ Below w.heap.size w w' := by
  have hsf := run_store_float
  have hmf := run_mf
  have Ld := Lib.hid (laidE w x)
  have c0 := below_a3 w (.cells #[.int .i64 x.kind, .string x.name, .int .i64 x.v.k, .int .i64 x.v.n, .float .f64 x.v.f, .string x.v.s, .slice x.ao x.len x.cap] 27) (.cells #[.int .i64 0, .int .i64 0, .float .f64 0, .string ⟨#[]⟩] 24) (.cells #[.int .i64 0] 32)
  have C1 := Lib.hid (C _ c0)
  clear C
  have ⟨q0, q1, q2, q3, q4, q5, q6⟩ := Ld.out.1.at
  generalize hW : ((w.alloc (.cells #[.int .i64 x.kind, .string x.name, .int .i64 x.v.k, .int .i64 x.v.n, .float .f64 x.v.f, .string x.v.s, .slice x.ao x.len x.cap] 27)).alloc (.cells #[.int .i64 0, .int .i64 0, .float .f64 0, .string ⟨#[]⟩] 24)).alloc (.cells #[.int .i64 0] 32) = W0 at *
  go_enter_defers Try.func12, Try.ntmps12
  go_upto_region 1 with fail
  try rw [hW]
  clear hW
  go_wp2_with fail
  (with_reducible refine C1.out.mono ?_); rintro e w2 ⟨rfl, hb2⟩
  go_upto_region 5 with fail
  have R3 : Rk (w2.alloc (.cells #[.slice ao L cap, .bool false] 54)) w2.heap.size (.slice ao L cap) false := ⟨by simp, by simp, by simp⟩
  have a3 := below_a1 w2 (.cells #[.slice ao L cap, .bool false] 54)
  have D1 := Lib.hid (D w2 (Below.chain c0 hb2))
  have ⟨u0, u1, u2, u3, u4, u5, u6⟩ := ((Ld.out.1.keep hb2).keep a3).at
  have sz : w.heap.size + 2 < w2.heap.size := Nat.lt_of_lt_of_le Ld.out.2.2.lt hb2.size
  have V1 := Lib.hid ((Ld.out.2.1.keep hb2).keep a3)
  have V2 := Lib.hid ((Ld.out.2.2.keep hb2).keep a3)
  have B3 := Lib.hid (Below.chain (Below.chain c0 hb2) a3)
  clear D a3
  generalize w2.alloc (.cells #[.slice ao L cap, .bool false] 54) = W3 at *
  go_wp2_with fail
  (with_reducible refine D1.out.mono ?_); rintro e w4 ⟨rfl, hg4⟩
  have V1' := V1.out.grownR hg4 (by simp; omega)
  have V2' := V2.out.grownR hg4 (by simp; omega)
  have B4 : Below w.heap.size w w4 := B3.out.grown hg4 B3.out.size (fun k hk => by cases hk; omega)
  refine leaves_cons (f := 24) (args := #[.pointer (some ⟨w.heap.size + 1, 0, none⟩), .pointer (some ⟨w.heap.size + 1 + 1, 0, none⟩)]) (by simp) (by simp [go_sem]) ?_
  refine (catch_bad (w.heap.size + 1) (w.heap.size + 1 + 1) w4 _ _ _ _ _ V1' V2' (by omega)).mono ?_
  rintro e u' w'' ⟨rfl, rfl, hL, hc, hB⟩
  exact leaves_ve rfl rfl rfl rfl hL hc ⟨rfl, B4.trans (hB _ (by omega) (by omega))⟩
theorem eval_ok (x : Xc) (ao : Option Addr) (L cap : Nat) (u : Vl) (w : World) (C : ∀ w1, Below w.heap.size w w1 → Calls Try.prog 10 #[xv x] w1 fun e w' => e = .returned (.bool true) ∧ Below w1.heap.size w1 w')
    (D : ∀ w2, Below w.heap.size w w2 → Calls Try.prog 25 #[.pointer (some ⟨w2.heap.size, 0, none⟩), xv x] (w2.alloc (.cells #[.slice ao L cap, .bool false] 54)) fun e w' => e = .returned (avl u) ∧ Rk w' w2.heap.size (.slice ao L cap) false ∧ (w2.alloc (.cells #[.slice ao L cap, .bool false] 54)).grownBy w' (some w2.heap.size)) : Calls Try.prog 12 #[xv x, .slice ao L cap] w fun e w' => e = .returned (.tuple #[avl u, .int .i64 0]) ∧ Below w.heap.size w w' := by
  have hsf := run_store_float
  have hmf := run_mf
  have Ld := Lib.hid (laidE w x)
  have c0 := below_a3 w (.cells #[.int .i64 x.kind, .string x.name, .int .i64 x.v.k, .int .i64 x.v.n, .float .f64 x.v.f, .string x.v.s, .slice x.ao x.len x.cap] 27) (.cells #[.int .i64 0, .int .i64 0, .float .f64 0, .string ⟨#[]⟩] 24) (.cells #[.int .i64 0] 32)
  have C1 := Lib.hid (C _ c0)
  clear C
  have ⟨q0, q1, q2, q3, q4, q5, q6⟩ := Ld.out.1.at
  generalize hW : ((w.alloc (.cells #[.int .i64 x.kind, .string x.name, .int .i64 x.v.k, .int .i64 x.v.n, .float .f64 x.v.f, .string x.v.s, .slice x.ao x.len x.cap] 27)).alloc (.cells #[.int .i64 0, .int .i64 0, .float .f64 0, .string ⟨#[]⟩] 24)).alloc (.cells #[.int .i64 0] 32) = W0 at *
  go_enter_defers Try.func12, Try.ntmps12
  go_upto_region 1 with fail
  try rw [hW]
  clear hW
  go_wp2_with fail
  (with_reducible refine C1.out.mono ?_); rintro e w2 ⟨rfl, hb2⟩
  go_upto_region 5 with fail
  have R3 : Rk (w2.alloc (.cells #[.slice ao L cap, .bool false] 54)) w2.heap.size (.slice ao L cap) false := ⟨by simp, by simp, by simp⟩
  have a3 := below_a1 w2 (.cells #[.slice ao L cap, .bool false] 54)
  have D1 := Lib.hid (D w2 (Below.chain c0 hb2))
  have ⟨u0, u1, u2, u3, u4, u5, u6⟩ := ((Ld.out.1.keep hb2).keep a3).at
  have sz : w.heap.size + 2 < w2.heap.size := Nat.lt_of_lt_of_le Ld.out.2.2.lt hb2.size
  have V1 := Lib.hid ((Ld.out.2.1.keep hb2).keep a3)
  have V2 := Lib.hid ((Ld.out.2.2.keep hb2).keep a3)
  have B3 := Lib.hid (Below.chain (Below.chain c0 hb2) a3)
  clear D a3
  generalize w2.alloc (.cells #[.slice ao L cap, .bool false] 54) = W3 at *
  go_wp2_with fail
  (with_reducible refine D1.out.mono ?_); rintro e w4 ⟨rfl, hk4, hg4⟩
  have V1' := Lib.hid (V1.out.grownR hg4 (by simp; omega))
  have V2' := V2.out.grownR hg4 (by simp; omega)
  have B4 : Below w.heap.size w w4 := B3.out.grown hg4 B3.out.size (fun k hk => by cases hk; omega)
  have V5 := Lib.hid (V1'.out.set (vcs u))
  have ⟨l0, l1, l2, l3⟩ := V5.out.lies
  have V6 := Lib.hid (V5.out.set (vcs u))
  have E5 := V2'.grownR (grown_rowS w4 (w.heap.size + 1) (vcs u)) (by simp)
  have E6 := E5.grownR (grown_rowS (w4.setRow (w.heap.size + 1) (vcs u)) (w.heap.size + 1) (vcs u)) (by simp)
  have k0 : ((w4.setRow (w.heap.size + 1) (vcs u)).setRow (w.heap.size + 1) (vcs u)).cell? ⟨w.heap.size + 1 + 1, 0, none⟩ = some (.int .i64 0) := E6.cell 0
  have k1 : ((w4.setRow (w.heap.size + 1) (vcs u)).setRow (w.heap.size + 1) (vcs u)).frozen? ⟨w.heap.size + 1 + 1, 0, none⟩ = false := E6.frozen 0
  have ko := (hk4.row (show w.heap.size + 1 ≠ w2.heap.size by omega) (vcs u)).c1
  have B6 := Lib.hid (below_setRow (below_setRow B4 (show w.heap.size ≤ w.heap.size + 1 by omega) (vcs u)) (show w.heap.size ≤ w.heap.size + 1 by omega) (vcs u))
  clear E5 E6 hk4 V2'
  go_wp2_with (first | refine wpList_store_v u rfl _ _ rfl rfl rfl V1'.out rfl ?_ | refine wpList_store_v u rfl _ _ rfl rfl rfl V5.out rfl ?_)
  refine leaves_cons (f := 24) (args := #[.pointer (some ⟨w.heap.size + 1, 0, none⟩), .pointer (some ⟨w.heap.size + 1 + 1, 0, none⟩)]) (by simp) (by simp [go_sem]) ?_
  refine (catch_ok _ _ _).mono ?_
  rintro e u' w'' ⟨rfl, rfl, rfl⟩
  refine leaves_ve rfl rfl rfl rfl (Lies.grow' V6.out.lies (grown_set _ (w.heap.size + 1 + 1) 0 (.int .i64 0)) (by simp)) (by simp [go_sem, k0]) ⟨rfl, ?_⟩
  exact B6.out.setCell (show w.heap.size ≤ (⟨w.heap.size + 1 + 1, 0, none⟩ : Addr).block by simp; omega) _
theorem eval_over (x : Xc) (ao : Option Addr) (L cap : Nat) (u : Vl) (w : World) (C : ∀ w1, Below w.heap.size w w1 → Calls Try.prog 10 #[xv x] w1 fun e w' => e = .returned (.bool true) ∧ Below w1.heap.size w1 w')
    (D : ∀ w2, Below w.heap.size w w2 → Calls Try.prog 25 #[.pointer (some ⟨w2.heap.size, 0, none⟩), xv x] (w2.alloc (.cells #[.slice ao L cap, .bool false] 54)) fun e w' => e = .returned (avl u) ∧ Rk w' w2.heap.size (.slice ao L cap) true ∧ (w2.alloc (.cells #[.slice ao L cap, .bool false] 54)).grownBy w' (some w2.heap.size)) : Calls Try.prog 12 #[xv x, .slice ao L cap] w fun e w' => e = .returned (.tuple #[avl Vl.zero, .int .i64 7]) ∧ Below w.heap.size w w' := by
  have hsf := run_store_float
  have hmf := run_mf
  have Ld := Lib.hid (laidE w x)
  have c0 := below_a3 w (.cells #[.int .i64 x.kind, .string x.name, .int .i64 x.v.k, .int .i64 x.v.n, .float .f64 x.v.f, .string x.v.s, .slice x.ao x.len x.cap] 27) (.cells #[.int .i64 0, .int .i64 0, .float .f64 0, .string ⟨#[]⟩] 24) (.cells #[.int .i64 0] 32)
  have C1 := Lib.hid (C _ c0)
  clear C
  have ⟨q0, q1, q2, q3, q4, q5, q6⟩ := Ld.out.1.at
  generalize hW : ((w.alloc (.cells #[.int .i64 x.kind, .string x.name, .int .i64 x.v.k, .int .i64 x.v.n, .float .f64 x.v.f, .string x.v.s, .slice x.ao x.len x.cap] 27)).alloc (.cells #[.int .i64 0, .int .i64 0, .float .f64 0, .string ⟨#[]⟩] 24)).alloc (.cells #[.int .i64 0] 32) = W0 at *
  go_enter_defers Try.func12, Try.ntmps12
  go_upto_region 1 with fail
  try rw [hW]
  clear hW
  go_wp2_with fail
  (with_reducible refine C1.out.mono ?_); rintro e w2 ⟨rfl, hb2⟩
  go_upto_region 5 with fail
  have R3 : Rk (w2.alloc (.cells #[.slice ao L cap, .bool false] 54)) w2.heap.size (.slice ao L cap) false := ⟨by simp, by simp, by simp⟩
  have a3 := below_a1 w2 (.cells #[.slice ao L cap, .bool false] 54)
  have D1 := Lib.hid (D w2 (Below.chain c0 hb2))
  have ⟨u0, u1, u2, u3, u4, u5, u6⟩ := ((Ld.out.1.keep hb2).keep a3).at
  have sz : w.heap.size + 2 < w2.heap.size := Nat.lt_of_lt_of_le Ld.out.2.2.lt hb2.size
  have V1 := Lib.hid ((Ld.out.2.1.keep hb2).keep a3)
  have V2 := Lib.hid ((Ld.out.2.2.keep hb2).keep a3)
  have B3 := Lib.hid (Below.chain (Below.chain c0 hb2) a3)
  clear D a3
  generalize w2.alloc (.cells #[.slice ao L cap, .bool false] 54) = W3 at *
  go_wp2_with fail
  (with_reducible refine D1.out.mono ?_); rintro e w4 ⟨rfl, hk4, hg4⟩
  have V1' := Lib.hid (V1.out.grownR hg4 (by simp; omega))
  have V2' := V2.out.grownR hg4 (by simp; omega)
  have B4 : Below w.heap.size w w4 := B3.out.grown hg4 B3.out.size (fun k hk => by cases hk; omega)
  have V5 := Lib.hid (V1'.out.set (vcs u))
  have ⟨l0, l1, l2, l3⟩ := V5.out.lies
  have V6 := Lib.hid (V5.out.set (vcs Vl.zero))
  have E5 := V2'.grownR (grown_rowS w4 (w.heap.size + 1) (vcs u)) (by simp)
  have E6 := E5.grownR (grown_rowS (w4.setRow (w.heap.size + 1) (vcs u)) (w.heap.size + 1) (vcs Vl.zero)) (by simp)
  have k0 : ((w4.setRow (w.heap.size + 1) (vcs u)).setRow (w.heap.size + 1) (vcs Vl.zero)).cell? ⟨w.heap.size + 1 + 1, 0, none⟩ = some (.int .i64 0) := E6.cell 0
  have k1 : ((w4.setRow (w.heap.size + 1) (vcs u)).setRow (w.heap.size + 1) (vcs Vl.zero)).frozen? ⟨w.heap.size + 1 + 1, 0, none⟩ = false := E6.frozen 0
  have ko := (hk4.row (show w.heap.size + 1 ≠ w2.heap.size by omega) (vcs u)).c1
  have B6 := Lib.hid (below_setRow (below_setRow B4 (show w.heap.size ≤ w.heap.size + 1 by omega) (vcs u)) (show w.heap.size ≤ w.heap.size + 1 by omega) (vcs Vl.zero))
  clear E5 E6 hk4 V2'
  go_wp2_with (first | refine wpList_store_v u rfl _ _ rfl rfl rfl V1'.out rfl ?_ | refine wpList_store_v Vl.zero rfl _ _ rfl rfl rfl V5.out rfl ?_)
  refine leaves_cons (f := 24) (args := #[.pointer (some ⟨w.heap.size + 1, 0, none⟩), .pointer (some ⟨w.heap.size + 1 + 1, 0, none⟩)]) (by simp) (by simp [go_sem]) ?_
  refine (catch_ok _ _ _).mono ?_
  rintro e u' w'' ⟨rfl, rfl, rfl⟩
  refine leaves_ve rfl rfl rfl rfl (Lies.grow' V6.out.lies (grown_set _ (w.heap.size + 1 + 1) 0 (.int .i64 7)) (by simp)) (by simp [go_sem, k0]) ⟨rfl, ?_⟩
  exact B6.out.setCell (show w.heap.size ≤ (⟨w.heap.size + 1 + 1, 0, none⟩ : Addr).block by simp; omega) _
end Go.Proofs.Ytfhnjilflffdfaa
