import Derived.Test.YtnjlcdemfdokoaaGreatDoorA2
import Derived.Test.YtnjlcdemfdokoaaGreatDoorAL
import Derived.Deep.QuietTactic
import Derived.BigQuiet
import Derived.StillTailTactics
import Derived.Deep.RegionWith
import Derived.BigRegion
namespace Go.Proofs.YtnjlcdemfdokoaaGreatDoor
open Go Go.RowKit
set_option linter.unusedVariables false
/-- a value of package api, as the machine holds it -/
abbrev av (k n : Int) (f : Nat) (s : ByteArray) : Value := .agg #[.int .i64 k, .int .i64 n, .float .f64 f, .string s]
theorem below_drewN {n : Nat} {w w' : World} (h : Below n w w') (k : Nat) : Below n w (w'.drewN k) := by
  induction k with
  | zero => exact h
  | succ k ih => exact ih.drew
theorem below_a1 (w : World) (o : Obj) : Below w.heap.size w (w.alloc o) := (Below.refl _ _).alloc (Nat.le_refl _) o
theorem below_a2 (w : World) (o p : Obj) : Below w.heap.size w ((w.alloc o).alloc p) := (below_a1 w o).alloc (by simp) p

theorem ident_core (k n k' n' : Int) (f f' : Nat) (s s' : ByteArray) (a b c d : Bool) (ha : (k == k') = a) (hb : (n == n') = b) (hc : ((f : Int) == (f' : Int)) = c) (hd : (s.toList == s'.toList) = d) (w : World) :
    Calls Tryz.prog 35 #[.agg #[.int .i64 k, .int .i64 n, .float .f64 f, .string s], .agg #[.int .i64 k', .int .i64 n', .float .f64 f', .string s']] w fun e w' => e = .returned (.bool (a && b && c && d)) ∧ Below w.heap.size w w' := by
  have h2 := run_bits
  have hc' : (f == f') = c := by rw [← hc, Bool.eq_iff_iff]; simp; omega
  cases a
  · go_enter Tryz.func35, Tryz.ntmps35
    go_wp2_with fail
    go_quiet (fail)
    go_wp2_with fail
    go_ret
    exact ⟨rfl, below_drewN (below_a2 _ _ _) _⟩
  cases b
  · go_enter Tryz.func35, Tryz.ntmps35
    go_wp2_with fail
    go_quiet (fail)
    go_wp2_with fail
    go_ret
    exact ⟨rfl, below_drewN (below_a2 _ _ _) _⟩
  cases c
  · go_enter Tryz.func35, Tryz.ntmps35
    go_wp2_with fail
    go_quiet (fail)
    go_wp2_with fail
    go_ret
    exact ⟨rfl, below_drewN (below_a2 _ _ _) _⟩
  · go_enter Tryz.func35, Tryz.ntmps35
    go_wp2_with fail
    go_quiet (fail)
    go_wp2_with fail
    go_ret
    refine ⟨?_, below_drewN (below_a2 _ _ _) _⟩
    simp
/-- the same, field by field -/
def idB (k n : Int) (f : Nat) (s : ByteArray) (k' n' : Int) (f' : Nat) (s' : ByteArray) : Bool := (k == k') && (n == n') && (f == f') && (s.toList == s'.toList)
theorem ident_any (k n k' n' : Int) (f f' : Nat) (s s' : ByteArray) (w : World) :
    Calls Tryz.prog 35 #[.agg #[.int .i64 k, .int .i64 n, .float .f64 f, .string s], .agg #[.int .i64 k', .int .i64 n', .float .f64 f', .string s']] w fun e w' => e = .returned (.bool (idB k n f s k' n' f' s')) ∧ Below w.heap.size w w' := by
  have h := ident_core k n k' n' f f' s s' _ _ _ _ rfl rfl rfl rfl w
  have hc' : ((f : Int) == (f' : Int)) = (f == f') := by rw [Bool.eq_iff_iff]; simp; omega
  rw [hc'] at h
  exact h
end Go.Proofs.YtnjlcdemfdokoaaGreatDoor
namespace Go.Proofs.YtnjlcdemfdokoaaGreatDoor
open Go Go.RowKit
set_option linter.unusedVariables false
/-- a world in which all blocks of w0 lie as they lay -/
structure Later (w0 : World) where
  w : World
  kept : Below w0.heap.size w0 w
instance later_some (w0 : World) : Nonempty (Later w0) := ⟨⟨w0, Below.refl _ _⟩⟩
theorem later_cell {w0 : World} {a : Addr} {v : Value} (h : w0.cell? a = some v) (x : Later w0) : x.w.cell? a = some v := (x.kept.cell (Lib.lt_of_cell h)).trans h
theorem later_call {P : Program} {f : FuncId} {args : Array Value} {w0 : World} {x : Later w0} {v : Value} (h : Calls P f args x.w fun e w' => e = .returned v ∧ Below x.w.heap.size x.w w') :
    Calls P f args x.w fun e w'' => e = .returned v ∧ ∃ y : Later w0, w'' = y.w := h.mono fun _ w' ⟨he, hb⟩ => ⟨he, ⟨⟨w', Below.chain x.kept hb⟩, rfl⟩⟩
theorem later_same {P : Program} {f : FuncId} {args : Array Value} {w0 : World} {x : Later w0} {v : Value} (h : Calls P f args x.w fun e w' => e = .returned v ∧ x.w = w') :
    Calls P f args x.w fun e w'' => e = .returned v ∧ ∃ y : Later w0, w'' = y.w := h.mono fun _ _ ⟨he, hb⟩ => ⟨he, ⟨x, hb.symm⟩⟩
theorem wp_region_later {P : Program} {id : Nat} {Q : Exit → Act → World → Prop} {a : Act} {w : World} {l : List Oper} (hm : P.follows .mixedOrders = true) (hB : Region.lexB .any l.toArray = true)
    (h : wpQuiet P l.toArray (fun w' => ∃ x : Later w, w' = x.w) (fun a' => ∀ w', (∃ x : Later w, w' = x.w) → Q .normal a' w') l a) : (Code.region id l.toArray true).wp P Q a w :=
  wp_region_quiet (C := fun w' => ∃ x : Later w, w' = x.w) hm hB ⟨⟨w.drew, (Below.refl _ _).drew⟩, rfl⟩ (by simpa using h)
theorem later4 (w : World) (a b c d : Value) (t : TypeId) (x : Later (w.alloc (.cells #[a, b, c, d] t))) :
    x.w.cell? ⟨w.heap.size, 0, none⟩ = some a ∧ x.w.cell? ⟨w.heap.size, 1, none⟩ = some b ∧ x.w.cell? ⟨w.heap.size, 2, none⟩ = some c ∧ x.w.cell? ⟨w.heap.size, 3, none⟩ = some d :=
  ⟨later_cell (by simp) x, later_cell (by simp) x, later_cell (by simp) x, later_cell (by simp) x⟩

theorem later8 (w : World) (a b c d a' b' c' d' : Value) (t : TypeId) (x : Later ((w.alloc (.cells #[a, b, c, d] t)).alloc (.cells #[a', b', c', d'] t))) :
    (x.w.cell? ⟨w.heap.size, 0, none⟩ = some a ∧ x.w.cell? ⟨w.heap.size, 1, none⟩ = some b ∧ x.w.cell? ⟨w.heap.size, 2, none⟩ = some c ∧ x.w.cell? ⟨w.heap.size, 3, none⟩ = some d) ∧
    x.w.cell? ⟨w.heap.size + 1, 0, none⟩ = some a' ∧ x.w.cell? ⟨w.heap.size + 1, 1, none⟩ = some b' ∧ x.w.cell? ⟨w.heap.size + 1, 2, none⟩ = some c' ∧ x.w.cell? ⟨w.heap.size + 1, 3, none⟩ = some d' :=
  ⟨⟨later_cell (by simp) x, later_cell (by simp) x, later_cell (by simp) x, later_cell (by simp) x⟩, later_cell (by simp) x, later_cell (by simp) x, later_cell (by simp) x, later_cell (by simp) x⟩
theorem run_store_float (a : Addr) (m : Mode) (k : FloatKind) (n : Nat) (w : World) : (store a (.float k n) m).run Tryz.prog w = stored Tryz.prog w a (.float k n) m := run_store Tryz.prog w a _ m rfl
/-- the four cells of a value -/
def Lies (w : World) (b : Nat) (v0 v1 v2 v3 : Value) : Prop := w.cell? ⟨b, 0, none⟩ = some v0 ∧ w.cell? ⟨b, 1, none⟩ = some v1 ∧ w.cell? ⟨b, 2, none⟩ = some v2 ∧ w.cell? ⟨b, 3, none⟩ = some v3
theorem lies_new (w : World) (a b c d : Value) (t : TypeId) : Lies (w.alloc (.cells #[a, b, c, d] t)) w.heap.size a b c d := ⟨by simp, by simp, by simp, by simp⟩
theorem Lies.below {w w' : World} {b : Nat} {v0 v1 v2 v3 : Value} (h : Lies w b v0 v1 v2 v3) (hb : Below w.heap.size w w') : Lies w' b v0 v1 v2 v3 :=
  ⟨(hb.cell (Lib.lt_of_cell h.1)).trans h.1, (hb.cell (Lib.lt_of_cell h.2.1)).trans h.2.1, (hb.cell (Lib.lt_of_cell h.2.2.1)).trans h.2.2.1, (hb.cell (Lib.lt_of_cell h.2.2.2)).trans h.2.2.2⟩
theorem Lies.alloc {w : World} {b : Nat} {v0 v1 v2 v3 : Value} (h : Lies w b v0 v1 v2 v3) (o : Obj) : Lies (w.alloc o) b v0 v1 v2 v3 := h.below (below_a1 _ _)
theorem Lies.drewN {w : World} {b : Nat} {v0 v1 v2 v3 : Value} (h : Lies w b v0 v1 v2 v3) (n : Nat) : Lies (w.drewN n) b v0 v1 v2 v3 := h.below (below_drewN (Below.refl _ _) n)
/-- a truth as a number -/
def b01 (b : Bool) : Int := if b = true then 1 else 0
theorem load4 {w : World} {b : Nat} {v0 v1 v2 v3 : Value} (h : Lies w b v0 v1 v2 v3) : (loadVar 28 ⟨b, 0, none⟩).run Tryz.prog w = .ok (.agg #[v0, v1, v2, v3]) w := by
  obtain ⟨h0, h1, h2, h3⟩ := h
  go_simp
theorem ret_v {fn : Func} {p : Tmp} {R : Ending → World → Prop} {a : Act} {w : World} {b : Nat} {v0 v1 v2 v3 : Value} (h : fn.results = #[.cell p 28]) (hp : a.tmps.getD p undef = .pointer (some ⟨b, 0, none⟩)) (hd : a.defers = [])
    (hc : Lies w b v0 v1 v2 v3) (hR : R (.returned (.agg #[v0, v1, v2, v3])) w) : bodyPost Tryz.prog fn R .ret a w := by
  refine bodyPost_ret ?_ hd hR
  have hp' : a.tmps[p]?.getD undef = .pointer (some ⟨b, 0, none⟩) := by simpa using hp
  simp [results, h, hp', asAddr, load4 hc]
theorem ret_ve {fn : Func} {p q : Tmp} {R : Ending → World → Prop} {a : Act} {w : World} {b : Nat} {v0 v1 v2 v3 e : Value} (h : fn.results = #[.cell p 28, .tmp q]) (hp : a.tmps.getD p undef = .pointer (some ⟨b, 0, none⟩)) (hq : a.tmps.getD q undef = e) (hd : a.defers = [])
    (hc : Lies w b v0 v1 v2 v3) (hR : R (.returned (.tuple #[.agg #[v0, v1, v2, v3], e])) w) : bodyPost Tryz.prog fn R .ret a w := by
  refine bodyPost_ret ?_ hd hR
  have hp' : a.tmps[p]?.getD undef = .pointer (some ⟨b, 0, none⟩) := by simpa using hp
  have hq' : a.tmps[q]?.getD undef = e := by simpa using hq
  simp [results, h, hp', hq', asAddr, load4 hc]
theorem ret_vnb {fn : Func} {p q r : Tmp} {R : Ending → World → Prop} {a : Act} {w : World} {b : Nat} {v0 v1 v2 v3 e g : Value} (h : fn.results = #[.cell p 28, .tmp q, .tmp r]) (hp : a.tmps.getD p undef = .pointer (some ⟨b, 0, none⟩)) (hq : a.tmps.getD q undef = e) (hr : a.tmps.getD r undef = g) (hd : a.defers = [])
    (hc : Lies w b v0 v1 v2 v3) (hR : R (.returned (.tuple #[.agg #[v0, v1, v2, v3], e, g])) w) : bodyPost Tryz.prog fn R .ret a w := by
  refine bodyPost_ret ?_ hd hR
  have hp' : a.tmps[p]?.getD undef = .pointer (some ⟨b, 0, none⟩) := by simpa using hp
  have hq' : a.tmps[q]?.getD undef = e := by simpa using hq
  have hr' : a.tmps[r]?.getD undef = g := by simpa using hr
  simp [results, h, hp', hq', hr', asAddr, load4 hc]

theorem truth_any (b : Bool) (w : World) : Calls Tryz.prog 36 #[.bool b] w fun e w' => e = .returned (.agg #[.int .i64 1, .int .i64 (b01 b), .float .f64 0, .string ⟨#[]⟩]) ∧ Below w.heap.size w w' := by
  cases b
  · have hsf := run_store_float
    go_enter Tryz.func36, Tryz.ntmps36
    go_wp2_with fail
    refine ret_v rfl rfl rfl (lies_new _ _ _ _ _ _) ?_
    exact ⟨rfl, below_a1 _ _⟩
  · have hsf := run_store_float
    go_enter Tryz.func36, Tryz.ntmps36
    go_wp2_with fail
    refine ret_v rfl rfl rfl (lies_new _ _ _ _ _ _) ?_
    exact ⟨rfl, below_a1 _ _⟩
theorem whole_any (n : Int) (w : World) : Calls Tryz.prog 37 #[.int .i64 n] w fun e w' => e = .returned (.agg #[.int .i64 2, .int .i64 n, .float .f64 0, .string ⟨#[]⟩]) ∧ Below w.heap.size w w' := by
  have hsf := run_store_float
  go_enter Tryz.func37, Tryz.ntmps37
  go_wp2_with fail
  refine ret_v rfl rfl rfl (lies_new _ _ _ _ _ _) ?_
  exact ⟨rfl, below_a1 _ _⟩
theorem vtext_any (s : ByteArray) (w : World) : Calls Tryz.prog 39 #[.string s] w fun e w' => e = .returned (.agg #[.int .i64 4, .int .i64 0, .float .f64 0, .string s]) ∧ Below w.heap.size w w' := by
  have hsf := run_store_float
  go_enter Tryz.func39, Tryz.ntmps39
  go_wp2_with fail
  refine ret_v rfl rfl rfl (lies_new _ _ _ _ _ _) ?_
  exact ⟨rfl, below_a1 _ _⟩
theorem vfloat_any (f : Nat) (hf : f < 18446744073709551616) (w : World) : Calls Tryz.prog 38 #[.float .f64 f] w fun e w' => e = .returned (.agg #[.int .i64 3, .int .i64 0, .float .f64 (Flt.canon f), .string ⟨#[]⟩]) ∧ Below w.heap.size w w' := by
  have hsf := run_store_float
  go_enter Tryz.func38, Tryz.ntmps38
  go_wp2_with fail
  refine (canon_any _ hf _).mono ?_; rintro e w' ⟨rfl, rfl⟩
  go_wp2_with fail
  refine ret_v rfl rfl rfl (lies_new _ _ _ _ _ _) ?_
  exact ⟨rfl, below_a1 _ _⟩
theorem right0 (n : Int) (f : Nat) (s : ByteArray) (w : World) :
    Calls Tryz.prog 16 #[.agg #[.int .i64 0, .int .i64 n, .float .f64 f, .string s]] w fun e w' => e = .returned (.bool (idB 0 n f s 0 0 0 ⟨#[]⟩)) ∧ Below w.heap.size w w' := by
  go_enter Tryz.func16, Tryz.ntmps16
  go_wp2_with fail
  refine (ident_any _ _ _ _ _ _ _ _ _).mono ?_; rintro e w1 ⟨rfl, hb1⟩
  go_wp2_with fail
  go_ret
  exact ⟨rfl, Below.chain (below_a1 _ _) hb1⟩
theorem right1 (n : Int) (f : Nat) (s : ByteArray) (a : Bool) (ha : idB 1 n f s 1 0 0 ⟨#[]⟩ = a) (w : World) :
    Calls Tryz.prog 16 #[.agg #[.int .i64 1, .int .i64 n, .float .f64 f, .string s]] w fun e w' => e = .returned (.bool (a || idB 1 n f s 1 1 0 ⟨#[]⟩)) ∧ Below w.heap.size w w' := by
  have L := later4 w (.int .i64 1) (.int .i64 n) (.float .f64 f) (.string s) 28
  have T1 := truth_any true
  have T0 := truth_any false
  rw [show b01 true = 1 from rfl] at T1
  rw [show b01 false = 0 from rfl] at T0
  have I0 := ident_any 1 n 1 0 f 0 s ⟨#[]⟩
  rw [ha] at I0
  have I1 := ident_any 1 n 1 1 f 0 s ⟨#[]⟩
  clear ha
  cases a
  · go_enter Tryz.func16, Tryz.ntmps16
    go_wp2_with fail
    refine wp_region_later (by kernel_rfl) (by kernel_rfl) ?_
    repeat (go_big_quiet_step (first | with_reducible exact later_call (T0 _) | with_reducible exact later_call (T1 _) | with_reducible exact later_call (I0 _) | with_reducible exact later_call (I1 _)))
    refine wpQuiet_nil ?_
    rintro w' ⟨x, rfl⟩
    go_wp2_with fail
    go_ret
    exact ⟨rfl, Below.chain (below_a1 _ _) x.kept⟩
  · go_enter Tryz.func16, Tryz.ntmps16
    go_wp2_with fail
    refine wp_region_later (by kernel_rfl) (by kernel_rfl) ?_
    repeat (go_big_quiet_step (first | with_reducible exact later_call (T0 _) | with_reducible exact later_call (T1 _) | with_reducible exact later_call (I0 _) | with_reducible exact later_call (I1 _)))
    refine wpQuiet_nil ?_
    rintro w' ⟨x, rfl⟩
    go_wp2_with fail
    go_ret
    exact ⟨rfl, Below.chain (below_a1 _ _) x.kept⟩
theorem right2 (n : Int) (f : Nat) (s : ByteArray) (w : World) :
    Calls Tryz.prog 16 #[.agg #[.int .i64 2, .int .i64 n, .float .f64 f, .string s]] w fun e w' => e = .returned (.bool (idB 2 n f s 2 n 0 ⟨#[]⟩)) ∧ Below w.heap.size w w' := by
  have L := later4 w (.int .i64 2) (.int .i64 n) (.float .f64 f) (.string s) 28
  have T1 := whole_any n
  have I1 := ident_any 2 n 2 n f 0 s ⟨#[]⟩
  go_enter Tryz.func16, Tryz.ntmps16
  go_wp2_with fail
  refine wp_region_later (by kernel_rfl) (by kernel_rfl) ?_
  repeat (go_big_quiet_step (first | with_reducible exact later_call (T1 _) | with_reducible exact later_call (I1 _)))
  refine wpQuiet_nil ?_
  rintro w' ⟨x, rfl⟩
  go_wp2_with fail
  go_ret
  exact ⟨rfl, Below.chain (below_a1 _ _) x.kept⟩
theorem right3 (n : Int) (f : Nat) (hf : f < 18446744073709551616) (s : ByteArray) (w : World) :
    Calls Tryz.prog 16 #[.agg #[.int .i64 3, .int .i64 n, .float .f64 f, .string s]] w fun e w' => e = .returned (.bool (idB 3 n f s 3 0 (Flt.canon f) ⟨#[]⟩)) ∧ Below w.heap.size w w' := by
  have L := later4 w (.int .i64 3) (.int .i64 n) (.float .f64 f) (.string s) 28
  have T1 := vfloat_any f hf
  have I1 := ident_any 3 n 3 0 f (Flt.canon f) s ⟨#[]⟩
  clear hf
  go_enter Tryz.func16, Tryz.ntmps16
  go_wp2_with fail
  refine wp_region_later (by kernel_rfl) (by kernel_rfl) ?_
  repeat (go_big_quiet_step (first | with_reducible exact later_call (T1 _) | with_reducible exact later_call (I1 _)))
  refine wpQuiet_nil ?_
  rintro w' ⟨x, rfl⟩
  go_wp2_with fail
  go_ret
  exact ⟨rfl, Below.chain (below_a1 _ _) x.kept⟩
theorem right4 (n : Int) (f : Nat) (s : ByteArray) (w : World) :
    Calls Tryz.prog 16 #[.agg #[.int .i64 4, .int .i64 n, .float .f64 f, .string s]] w fun e w' => e = .returned (.bool (idB 4 n f s 4 0 0 s)) ∧ Below w.heap.size w w' := by
  have L := later4 w (.int .i64 4) (.int .i64 n) (.float .f64 f) (.string s) 28
  have T1 := vtext_any s
  have I1 := ident_any 4 n 4 0 f 0 s s
  go_enter Tryz.func16, Tryz.ntmps16
  go_wp2_with fail
  refine wp_region_later (by kernel_rfl) (by kernel_rfl) ?_
  repeat (go_big_quiet_step (first | with_reducible exact later_call (T1 _) | with_reducible exact later_call (I1 _)))
  refine wpQuiet_nil ?_
  rintro w' ⟨x, rfl⟩
  go_wp2_with fail
  go_ret
  exact ⟨rfl, Below.chain (below_a1 _ _) x.kept⟩
theorem right5 (k n : Int) (f : Nat) (s : ByteArray) (h0 : (k == 0) = false) (h1 : (k == 1) = false) (h2 : (k == 2) = false) (h3 : (k == 3) = false) (h4 : (k == 4) = false) (w : World) :
    Calls Tryz.prog 16 #[.agg #[.int .i64 k, .int .i64 n, .float .f64 f, .string s]] w fun e w' => e = .returned (.bool false) ∧ Below w.heap.size w w' := by
  go_enter Tryz.func16, Tryz.ntmps16
  go_wp2_with fail
  go_ret
  exact ⟨rfl, below_a1 _ _⟩
/-- which values are right -/
def rightB (k n : Int) (f : Nat) (s : ByteArray) : Bool :=
  if k = 0 then decide (n = 0 ∧ f = 0 ∧ s.toList = []) else if k = 1 then decide ((n = 0 ∨ n = 1) ∧ f = 0 ∧ s.toList = []) else if k = 2 then decide (f = 0 ∧ s.toList = [])
  else if k = 3 then decide (n = 0 ∧ f = Flt.canon f ∧ s.toList = []) else if k = 4 then decide (n = 0 ∧ f = 0) else false
theorem nil_list : (⟨#[]⟩ : ByteArray).toList = [] := by rw [Lib.toList_data]
theorem ret_bool' {a b : Bool} (h : a = b) {w w' : World} {e : Ending} (he : e = .returned (.bool a) ∧ Below w.heap.size w w') : e = .returned (.bool b) ∧ Below w.heap.size w w' := h ▸ he
theorem right_any (k n : Int) (f : Nat) (hf : f < 18446744073709551616) (s : ByteArray) (w : World) :
    Calls Tryz.prog 16 #[.agg #[.int .i64 k, .int .i64 n, .float .f64 f, .string s]] w fun e w' => e = .returned (.bool (rightB k n f s)) ∧ Below w.heap.size w w' := by
  by_cases h0 : k = 0
  · subst h0
    refine (right0 n f s w).mono fun e w' h => ret_bool' ?_ h
    rw [Bool.eq_iff_iff]; simp [rightB, idB]; grind
  by_cases h1 : k = 1
  · subst h1
    refine (right1 n f s _ rfl w).mono fun e w' h => ret_bool' ?_ h
    rw [Bool.eq_iff_iff]; simp [rightB, idB]; grind
  by_cases h2 : k = 2
  · subst h2
    refine (right2 n f s w).mono fun e w' h => ret_bool' ?_ h
    rw [Bool.eq_iff_iff]; simp [rightB, idB]
  by_cases h3 : k = 3
  · subst h3
    refine (right3 n f hf s w).mono fun e w' h => ret_bool' ?_ h
    rw [Bool.eq_iff_iff]; simp [rightB, idB]; grind
  by_cases h4 : k = 4
  · subst h4
    refine (right4 n f s w).mono fun e w' h => ret_bool' ?_ h
    rw [Bool.eq_iff_iff]; simp [rightB, idB]
  · refine (right5 k n f s (by simpa using h0) (by simpa using h1) (by simpa using h2) (by simpa using h3) (by simpa using h4) w).mono fun e w' h => ret_bool' ?_ h
    simp [rightB, h0, h1, h2, h3, h4]
end Go.Proofs.YtnjlcdemfdokoaaGreatDoor
namespace Go.Proofs.YtnjlcdemfdokoaaGreatDoor
open Go Go.RowKit
set_option linter.unusedVariables false
theorem same_any (k n k' n' : Int) (f f' : Nat) (hf : f < 18446744073709551616) (hf' : f' < 18446744073709551616) (s s' : ByteArray) (w : World) :
    Calls Tryz.prog 18 #[.agg #[.int .i64 k, .int .i64 n, .float .f64 f, .string s], .agg #[.int .i64 k', .int .i64 n', .float .f64 f', .string s']] w fun e w' => e = .returned (.bool (idB k n (Flt.canon f) s k' n' (Flt.canon f') s')) ∧ Below w.heap.size w w' := by
  have C1 := canon_any f hf
  have C2 := canon_any f' hf'
  have hsf := run_store_float
  clear hf hf'
  go_enter Tryz.func18, Tryz.ntmps18
  go_wp2_with fail
  go_region_with (first | (with_reducible refine (C1 _).mono ?_; rintro e w' ⟨rfl, rfl⟩) | (with_reducible refine (C2 _).mono ?_; rintro e w' ⟨rfl, rfl⟩))
  all_goals
    go_wp2_with fail
    refine (ident_any _ _ _ _ _ _ _ _ _).mono ?_
    rintro e w1 ⟨rfl, hb1⟩
    go_wp2_with fail
    go_ret
    exact ⟨rfl, Below.chain (below_a2 _ _ _).drew hb1⟩
end Go.Proofs.YtnjlcdemfdokoaaGreatDoor
namespace Go.Proofs.YtnjlcdemfdokoaaGreatDoor
open Go Go.RowKit
set_option linter.unusedVariables false
theorem rsame_core (k n k' n' : Int) (f f' : Nat) (hf : f < 18446744073709551616) (hf' : f' < 18446744073709551616) (s s' : ByteArray) (a b c d : Bool) (ha : (k == k') = a) (hb : (n == n') = b) (hc : (s.toList == s'.toList) = c) (hd : ((Flt.canon f : Int) == (Flt.canon f' : Int)) = d) (w : World) :
    Calls Tryz.prog 19 #[.agg #[.int .i64 k, .int .i64 n, .float .f64 f, .string s], .agg #[.int .i64 k', .int .i64 n', .float .f64 f', .string s']] w fun e w' => e = .returned (.bool (a && b && c && d)) ∧ Below w.heap.size w w' := by
  have C1 := rbits_any f hf
  have C2 := rbits_any f' hf'
  have hd' : (Flt.canon f == Flt.canon f') = d := by rw [← hd, Bool.eq_iff_iff]; simp; omega
  have L : ∀ x : Later ((w.alloc (.cells #[.int .i64 k, .int .i64 n, .float .f64 f, .string s] 28)).alloc (.cells #[.int .i64 k', .int .i64 n', .float .f64 f', .string s'] 28)), _ := later8 w _ _ _ _ _ _ _ _ 28
  clear hf hf'
  cases a
  · go_enter Tryz.func19, Tryz.ntmps19
    go_wp2_with fail
    refine wp_region_later (by kernel_rfl) (by kernel_rfl) ?_
    repeat (go_big_quiet_step (first | with_reducible exact later_same (C1 _) | with_reducible exact later_same (C2 _)))
    refine wpQuiet_nil ?_
    rintro w' ⟨x, rfl⟩
    go_wp2_with fail
    go_ret
    exact ⟨rfl, Below.chain (below_a2 _ _ _) x.kept⟩
  cases b
  · go_enter Tryz.func19, Tryz.ntmps19
    go_wp2_with fail
    refine wp_region_later (by kernel_rfl) (by kernel_rfl) ?_
    repeat (go_big_quiet_step (first | with_reducible exact later_same (C1 _) | with_reducible exact later_same (C2 _)))
    refine wpQuiet_nil ?_
    rintro w' ⟨x, rfl⟩
    go_wp2_with fail
    go_ret
    exact ⟨rfl, Below.chain (below_a2 _ _ _) x.kept⟩
  cases c
  · go_enter Tryz.func19, Tryz.ntmps19
    go_wp2_with fail
    refine wp_region_later (by kernel_rfl) (by kernel_rfl) ?_
    repeat (go_big_quiet_step (first | with_reducible exact later_same (C1 _) | with_reducible exact later_same (C2 _)))
    refine wpQuiet_nil ?_
    rintro w' ⟨x, rfl⟩
    go_wp2_with fail
    go_ret
    exact ⟨rfl, Below.chain (below_a2 _ _ _) x.kept⟩
  · go_enter Tryz.func19, Tryz.ntmps19
    go_wp2_with fail
    refine wp_region_later (by kernel_rfl) (by kernel_rfl) ?_
    repeat (go_big_quiet_step (first | with_reducible exact later_same (C1 _) | with_reducible exact later_same (C2 _)))
    refine wpQuiet_nil ?_
    rintro w' ⟨x, rfl⟩
    go_wp2_with fail
    go_ret
    refine ⟨?_, Below.chain (below_a2 _ _ _) x.kept⟩
    simp
theorem rsame_any (k n k' n' : Int) (f f' : Nat) (hf : f < 18446744073709551616) (hf' : f' < 18446744073709551616) (s s' : ByteArray) (w : World) :
    Calls Tryz.prog 19 #[.agg #[.int .i64 k, .int .i64 n, .float .f64 f, .string s], .agg #[.int .i64 k', .int .i64 n', .float .f64 f', .string s']] w fun e w' => e = .returned (.bool (idB k n (Flt.canon f) s k' n' (Flt.canon f') s')) ∧ Below w.heap.size w w' := by
  refine (rsame_core k n k' n' f f' hf hf' s s' _ _ _ _ rfl rfl rfl rfl w).mono fun e w' h => ret_bool' ?_ h
  unfold idB
  rw [Bool.eq_iff_iff]; simp; grind
end Go.Proofs.YtnjlcdemfdokoaaGreatDoor
namespace Go.Proofs.YtnjlcdemfdokoaaGreatDoor
open Go Go.RowKit
set_option linter.unusedVariables false
/-- how one text is to another one -/
def cmpS (s t : ByteArray) : Int := if Op.bytesLess s.toList t.toList = true then -1 else if s.toList = t.toList then 0 else 1
theorem isnans_any (s : ByteArray) (w : World) : Calls Tryz.prog 79 #[.string s] w fun e w' => e = .returned (.bool false) ∧ w = w' := by
  go_enter Tryz.func79, Tryz.ntmps79
  go_wp2_with fail
  go_ret
  refine ⟨?_, rfl⟩
  first | with_reducible rfl | simp
theorem cmps_core (s t : ByteArray) (a b : Bool) (ha : Op.bytesLess s.toList t.toList = a) (hb : (s.toList == t.toList) = b) (w : World) :
    Calls Tryz.prog 47 #[.string s, .string t] w fun e w' => e = .returned (.int .i64 (if a = true then -1 else if b = true then 0 else 1)) ∧ w = w' := by
  cases a <;> cases b
  all_goals
    go_enter Tryz.func47, Tryz.ntmps47
    go_wp2_with (go_at_call 79; refine (isnans_any _ _).mono ?_; rintro e w' ⟨rfl, rfl⟩)
    go_ret
    exact ⟨rfl, rfl⟩
theorem cmps_any (s t : ByteArray) (w : World) :
    Calls Tryz.prog 47 #[.string s, .string t] w fun e w' => e = .returned (.int .i64 (cmpS s t)) ∧ w = w' := by
  refine (cmps_core s t _ _ rfl rfl w).mono fun e w' h => ?_
  unfold cmpS
  simpa using h
/-- the first that is not 0 -/
def orI (a b c d : Int) : Int := if a = 0 then (if b = 0 then (if c = 0 then d else c) else b) else a
def at4 (a b c d : Int) (j : Nat) : Int := if j = 0 then a else if j = 1 then b else if j = 2 then c else d
theorem or_any (a b c d : Int) (g : Nat) (w : World) (hg : ∀ j, j < 4 → w.cell? ⟨g, j, none⟩ = some (.int .i64 (at4 a b c d j))) :
    Calls Tryz.prog 43 #[.slice (some ⟨g, 0, none⟩) 4 4] w fun e w' => e = .returned (.int .i64 (orI a b c d)) ∧ w = w' := by
  have HG := Lib.hid hg
  clear hg
  go_enter Tryz.func43, Tryz.ntmps43
  go_wp2_with fail
  go_loop [5, 8] (fun _ i => ∃ k : Nat, k ≤ 4 ∧ i = .int .i64 k ∧ ∀ m, m < k → at4 a b c d m = 0) (fun _ i => 4 - (intOf i).toNat)
  case atStart => exact ⟨0, Nat.zero_le _, rfl, fun m h => absurd h (Nat.not_lt_zero _)⟩
  case round =>
    obtain ⟨k, hk, rfl, hz⟩ := hrel
    have HZ := Lib.hid hz
    clear hz
    by_cases hlt : k < 4
    · have hc := HG.out k hlt
      have ik : (k : Int) < 4 := by omega
      by_cases h0 : at4 a b c d k = 0
      · rw [h0] at hc
        go_wp2_with fail
        go_round
        case rel => exact ⟨k + 1, by omega, by go_num, fun m hm => by
          by_cases e : m = k
          · rw [e]; exact h0
          · exact HZ.out m (by omega)⟩
        case measure => simp [intOf]; omega
      · have hx : (at4 a b c d k != 0) = true := by simpa using h0
        have hx' : (at4 a b c d k == 0) = false := by simpa using h0
        have HK := Lib.hid h0
        clear h0
        obtain ⟨z, ez⟩ : ∃ z, z = at4 a b c d k := ⟨_, rfl⟩
        rw [← ez] at hx hx' hc
        have HE := Lib.hid ez
        clear ez
        go_wp2_with fail
        go_ret
        refine ⟨ret_int ?_, rfl⟩
        rw [HE.out]
        have h := HZ.out
        have hn := HK.out
        clear HG
        unfold orI
        have e : k = 0 ∨ k = 1 ∨ k = 2 ∨ k = 3 := by omega
        rcases e with rfl | rfl | rfl | rfl
        · simp [at4] at hn ⊢; grind
        · have := h 0 (by omega); simp [at4] at hn this ⊢; grind
        · have := h 0 (by omega); have := h 1 (by omega); simp [at4] at *; grind
        · have := h 0 (by omega); have := h 1 (by omega); have := h 2 (by omega); simp [at4] at *; grind
    · have ik : ¬ (k : Int) < 4 := by omega
      have ik' : decide ((k : Int) < 4) = false := by simpa using ik
      go_wp2_with fail
      go_ret
      refine ⟨ret_int ?_, rfl⟩
      have h := HZ.out
      have h0 := h 0 (by omega); have h1 := h 1 (by omega); have h2 := h 2 (by omega); have h3 := h 3 (by omega)
      simp [at4] at h0 h1 h2 h3
      simp [orI, h0, h1, h2, h3]
theorem wp_region_tail {P : Program} {id : Nat} {Q : Exit → Act → World → Prop} {a : Act} {w : World} {l : List Oper} (n : Nat) (hm : P.follows .mixedOrders = true) (hB : Region.lexTailB .any l.toArray n = true)
    (h : wpStill P l.toArray w.drew (fun a' => wpList P l.toArray Q (l.drop n) a' w.drew) (l.take n) a) : (Code.region id l.toArray true).wp P Q a w := wp_region_still_tail n hm hB h
theorem flip {P : Program} {f : FuncId} {args : Array Value} {v : Value} (h : ∀ w : World, Calls P f args w fun e w' => e = .returned v ∧ w = w') (w : World) : Calls P f args w fun e w' => e = .returned v ∧ w' = w :=
  (h w).mono fun _ _ ⟨a, b⟩ => ⟨a, b.symm⟩
set_option maxRecDepth 100000 in
theorem less_any (k n k' n' : Int) (f f' : Nat) (hf : f < 18446744073709551616) (hf' : f' < 18446744073709551616) (s s' : ByteArray) (w : World) :
    Calls Tryz.prog 20 #[.agg #[.int .i64 k, .int .i64 n, .float .f64 f, .string s], .agg #[.int .i64 k', .int .i64 n', .float .f64 f', .string s']] w fun e w' => e = .returned (.bool (decide (orI (Lib.compareInt k k') (Flt.cmp3 n n') (Flt.cmp3 (Flt.kbits f : Nat) (Flt.kbits f' : Nat)) (cmpS s s') < 0))) ∧ Below w.heap.size w w' := by
  have C1 := fun W => Tryz.cmp_Compare_int k k' W
  have C2 := flip (cmpi_any n n')
  have C3 := flip (order_any f f' hf hf')
  have C4 := flip (cmps_any s s')
  clear hf hf'
  generalize hA : Lib.compareInt k k' = A at C1 ⊢
  generalize hB : Flt.cmp3 n n' = B at C2 ⊢
  generalize hC : Flt.cmp3 (Flt.kbits f : Nat) (Flt.kbits f' : Nat) = C at C3 ⊢
  generalize hD : cmpS s s' = D at C4 ⊢
  clear hA hB hC hD
  go_enter Tryz.func20, Tryz.ntmps20
  go_wp2_with fail
  refine wp_region_tail 20 (by kernel_rfl) (by kernel_rfl) ?_
  simp only [List.take_succ_cons, List.take_zero, List.drop_succ_cons, List.drop_zero]
  repeat still_step
  still_call (C1 _)
  repeat still_step
  still_call (C2 _)
  repeat still_step
  still_call (C3 _)
  repeat still_step
  still_call (C4 _)
  repeat still_step
  refine wpStill_nil ?_
  go_wp2_with fail
  refine (or_any A B C D _ _ ?_).mono ?_
  · intro j hj
    have e : j = 0 ∨ j = 1 ∨ j = 2 ∨ j = 3 := by omega
    rcases e with rfl | rfl | rfl | rfl <;> (simp only [at4]; go_simp)
  · rintro e w' ⟨rfl, rfl⟩
    go_wp2_with fail
    go_ret
    exact ⟨rfl, ((below_a2 _ _ _).alloc (by simp; omega) _).drew⟩
/-- which is ahead -/
def lessB (k n : Int) (f : Nat) (s : ByteArray) (k' n' : Int) (f' : Nat) (s' : ByteArray) : Bool :=
  if k = k' then (if n = n' then (if Flt.kbits f = Flt.kbits f' then Op.bytesLess s.toList s'.toList else decide (Flt.kbits f < Flt.kbits f')) else decide (n < n')) else decide (k < k')
theorem orI_less (k n : Int) (f : Nat) (s : ByteArray) (k' n' : Int) (f' : Nat) (s' : ByteArray) :
    decide (orI (Lib.compareInt k k') (Flt.cmp3 n n') (Flt.cmp3 (Flt.kbits f : Nat) (Flt.kbits f' : Nat)) (cmpS s s') < 0) = lessB k n f s k' n' f' s' := by
  unfold orI lessB Lib.compareInt Flt.cmp3 cmpS
  rw [Bool.eq_iff_iff]
  (repeat' split) <;> simp_all <;> omega
theorem rless_core (k n k' n' : Int) (f f' : Nat) (s s' : ByteArray) (C : Int) (C1 : ∀ w, Calls Tryz.prog 48 #[.float .f64 f, .float .f64 f'] w fun e w' => e = .returned (.int .i64 C) ∧ w = w') (a b c : Bool) (ha : (k == k') = a) (hb : (n == n') = b) (hc : (C == 0) = c) (w : World) :
    Calls Tryz.prog 21 #[.agg #[.int .i64 k, .int .i64 n, .float .f64 f, .string s], .agg #[.int .i64 k', .int .i64 n', .float .f64 f', .string s']] w fun e w' => e = .returned (.bool (if a = true then (if b = true then (if c = true then Op.bytesLess s.toList s'.toList else decide (C < 0)) else decide (n < n')) else decide (k < k'))) ∧ Below w.heap.size w w' := by
  have ha' : (k != k') = !a := by rw [← ha]; rfl
  have hb' : (n != n') = !b := by rw [← hb]; rfl
  have hc' : (C != 0) = !c := by rw [← hc]; rfl
  cases a
  · go_enter Tryz.func21, Tryz.ntmps21
    go_wp2_with fail
    go_ret
    exact ⟨rfl, below_a2 _ _ _⟩
  cases b
  · go_enter Tryz.func21, Tryz.ntmps21
    go_wp2_with fail
    go_ret
    exact ⟨rfl, below_a2 _ _ _⟩
  cases c
  · go_enter Tryz.func21, Tryz.ntmps21
    go_wp2_with (refine (C1 _).mono ?_; rintro e w' ⟨rfl, rfl⟩)
    go_ret
    exact ⟨rfl, below_a2 _ _ _⟩
  · go_enter Tryz.func21, Tryz.ntmps21
    go_wp2_with (refine (C1 _).mono ?_; rintro e w' ⟨rfl, rfl⟩)
    go_ret
    exact ⟨rfl, below_a2 _ _ _⟩
theorem rless_any (k n k' n' : Int) (f f' : Nat) (hf : f < 18446744073709551616) (hf' : f' < 18446744073709551616) (s s' : ByteArray) (w : World) :
    Calls Tryz.prog 21 #[.agg #[.int .i64 k, .int .i64 n, .float .f64 f, .string s], .agg #[.int .i64 k', .int .i64 n', .float .f64 f', .string s']] w fun e w' => e = .returned (.bool (lessB k n f s k' n' f' s')) ∧ Below w.heap.size w w' := by
  have hr := Flt.rord_eq f f' hf hf'
  refine (rless_core k n k' n' f f' s s' _ (rorder_any f f' hf hf') _ _ _ rfl rfl rfl w).mono fun e w' h => ret_bool' ?_ h
  rw [hr]
  unfold lessB Flt.cmp3
  rw [Bool.eq_iff_iff]
  (repeat' split) <;> simp_all <;> omega
theorem less_any' (k n k' n' : Int) (f f' : Nat) (hf : f < 18446744073709551616) (hf' : f' < 18446744073709551616) (s s' : ByteArray) (w : World) :
    Calls Tryz.prog 20 #[.agg #[.int .i64 k, .int .i64 n, .float .f64 f, .string s], .agg #[.int .i64 k', .int .i64 n', .float .f64 f', .string s']] w fun e w' => e = .returned (.bool (lessB k n f s k' n' f' s')) ∧ Below w.heap.size w w' :=
  (less_any k n k' n' f f' hf hf' s s' w).mono fun _ _ h => ret_bool' (orI_less ..) h
theorem lies_at (w : World) (g : Nat) (hg : g = w.heap.size) (a b c d : Value) (t : TypeId) : Lies (w.alloc (.cells #[a, b, c, d] t)) g a b c d := by subst hg; exact lies_new w a b c d t
theorem Lies.drew {w : World} {b : Nat} {v0 v1 v2 v3 : Value} (h : Lies w b v0 v1 v2 v3) : Lies w.drew b v0 v1 v2 v3 := h.drewN 1
/-- at most sixty bytes -/
def cut60 (s : ByteArray) : ByteArray := s.extract 0 (min s.size 60)
set_option maxRecDepth 100000 in
theorem of_core (k n : Int) (f m : Nat) (s : ByteArray) (hm : min (s.size : Int) 60 = (m : Int)) (hl : m ≤ s.size) (w : World) :
    Calls Tryz.prog 15 #[.agg #[.int .i64 k, .int .i64 n, .int .u64 (f : Int), .string s]] w fun e w' => e = .returned (.agg #[.int .i64 k, .int .i64 n, .float .f64 f, .string (s.extract 0 m)]) ∧ Below w.heap.size w w' := by
  have h1 := run_frombits
  have hsf := run_store_float
  go_enter Tryz.func15, Tryz.ntmps15
  go_wp2_with fail
  refine wp_region_tail 15 (by kernel_rfl) (by kernel_rfl) ?_
  simp only [List.take_succ_cons, List.take_zero, List.drop_succ_cons, List.drop_zero]
  repeat still_step
  refine wpStill_nil ?_
  go_wp2_with fail
  refine ret_v rfl rfl rfl (Lies.drew (lies_at _ _ (by simp) _ _ _ _ _)) ?_
  exact ⟨rfl, (below_a2 _ _ _).drew⟩
theorem of_any (k n : Int) (f : Nat) (s : ByteArray) (w : World) :
    Calls Tryz.prog 15 #[.agg #[.int .i64 k, .int .i64 n, .int .u64 (f : Int), .string s]] w fun e w' => e = .returned (.agg #[.int .i64 k, .int .i64 n, .float .f64 f, .string (cut60 s)]) ∧ Below w.heap.size w w' :=
  of_core k n f (min s.size 60) s (by omega) (by omega) w
end Go.Proofs.YtnjlcdemfdokoaaGreatDoor
