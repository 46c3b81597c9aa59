import Derived.Test.YtainigcchlgehaaGreatDoorA2
import Derived.Test.YtainigcchlgehaaGreatDoorAL
import Derived.Deep.QuietTactic
import Derived.BigQuiet
import Derived.StillTailTactics
import Derived.Deep.RegionWith
import Derived.BigRegion
namespace Go.Proofs.YtainigcchlgehaaGreatDoor
open Go Go.RowKit
set_option linter.unusedVariables false
/-- a value of package api, as the machine holds it -/
abbrev av (k n : Int) (f : Nat) (s : ByteArray) : Value := .agg #[.int .i64 k, .int .i64 n, .float .f64 f, .string s]
theorem below_drewN {n : Nat} {w w' : World} (h : Below n w w') (k : Nat) : Below n w (w'.drewN k) := by
  induction k with
  | zero => exact h
  | succ k ih => exact ih.drew
theorem below_a1 (w : World) (o : Obj) : Below w.heap.size w (w.alloc o) := (Below.refl _ _).alloc (Nat.le_refl _) o
theorem below_a2 (w : World) (o p : Obj) : Below w.heap.size w ((w.alloc o).alloc p) := (below_a1 w o).alloc (by simp) p

/-- the same, field by field -/
def idB (k n : Int) (f : Nat) (s : ByteArray) (k' n' : Int) (f' : Nat) (s' : ByteArray) : Bool := (k == k') && (n == n') && (f == f') && (s.toList == s'.toList)
end Go.Proofs.YtainigcchlgehaaGreatDoor
namespace Go.Proofs.YtainigcchlgehaaGreatDoor
open Go Go.RowKit
set_option linter.unusedVariables false
/-- a world in which all blocks of w0 lie as they lay -/
structure Later (w0 : World) where
  w : World
  kept : Below w0.heap.size w0 w
instance later_some (w0 : World) : Nonempty (Later w0) := ⟨⟨w0, Below.refl _ _⟩⟩
theorem later_cell {w0 : World} {a : Addr} {v : Value} (h : w0.cell? a = some v) (x : Later w0) : x.w.cell? a = some v := (x.kept.cell (Lib.lt_of_cell h)).trans h
theorem later_call {P : Program} {f : FuncId} {args : Array Value} {w0 : World} {x : Later w0} {v : Value} (h : Calls P f args x.w fun e w' => e = .returned v ∧ Below x.w.heap.size x.w w') :
    Calls P f args x.w fun e w'' => e = .returned v ∧ ∃ y : Later w0, w'' = y.w := h.mono fun _ w' ⟨he, hb⟩ => ⟨he, ⟨⟨w', Below.chain x.kept hb⟩, rfl⟩⟩
theorem later_same {P : Program} {f : FuncId} {args : Array Value} {w0 : World} {x : Later w0} {v : Value} (h : Calls P f args x.w fun e w' => e = .returned v ∧ x.w = w') :
    Calls P f args x.w fun e w'' => e = .returned v ∧ ∃ y : Later w0, w'' = y.w := h.mono fun _ _ ⟨he, hb⟩ => ⟨he, ⟨x, hb.symm⟩⟩
theorem wp_region_later {P : Program} {id : Nat} {Q : Exit → Act → World → Prop} {a : Act} {w : World} {l : List Oper} (hm : P.follows .mixedOrders = true) (hB : Region.lexB .any l.toArray = true)
    (h : wpQuiet P l.toArray (fun w' => ∃ x : Later w, w' = x.w) (fun a' => ∀ w', (∃ x : Later w, w' = x.w) → Q .normal a' w') l a) : (Code.region id l.toArray true).wp P Q a w :=
  wp_region_quiet (C := fun w' => ∃ x : Later w, w' = x.w) hm hB ⟨⟨w.drew, (Below.refl _ _).drew⟩, rfl⟩ (by simpa using h)
theorem later4 (w : World) (a b c d : Value) (t : TypeId) (x : Later (w.alloc (.cells #[a, b, c, d] t))) :
    x.w.cell? ⟨w.heap.size, 0, none⟩ = some a ∧ x.w.cell? ⟨w.heap.size, 1, none⟩ = some b ∧ x.w.cell? ⟨w.heap.size, 2, none⟩ = some c ∧ x.w.cell? ⟨w.heap.size, 3, none⟩ = some d :=
  ⟨later_cell (by simp) x, later_cell (by simp) x, later_cell (by simp) x, later_cell (by simp) x⟩

theorem later8 (w : World) (a b c d a' b' c' d' : Value) (t : TypeId) (x : Later ((w.alloc (.cells #[a, b, c, d] t)).alloc (.cells #[a', b', c', d'] t))) :
    (x.w.cell? ⟨w.heap.size, 0, none⟩ = some a ∧ x.w.cell? ⟨w.heap.size, 1, none⟩ = some b ∧ x.w.cell? ⟨w.heap.size, 2, none⟩ = some c ∧ x.w.cell? ⟨w.heap.size, 3, none⟩ = some d) ∧
    x.w.cell? ⟨w.heap.size + 1, 0, none⟩ = some a' ∧ x.w.cell? ⟨w.heap.size + 1, 1, none⟩ = some b' ∧ x.w.cell? ⟨w.heap.size + 1, 2, none⟩ = some c' ∧ x.w.cell? ⟨w.heap.size + 1, 3, none⟩ = some d' :=
  ⟨⟨later_cell (by simp) x, later_cell (by simp) x, later_cell (by simp) x, later_cell (by simp) x⟩, later_cell (by simp) x, later_cell (by simp) x, later_cell (by simp) x, later_cell (by simp) x⟩
theorem run_store_float (a : Addr) (m : Mode) (k : FloatKind) (n : Nat) (w : World) : (store a (.float k n) m).run Tryz.prog w = stored Tryz.prog w a (.float k n) m := run_store Tryz.prog w a _ m rfl
/-- the four cells of a value -/
def Lies (w : World) (b : Nat) (v0 v1 v2 v3 : Value) : Prop := w.cell? ⟨b, 0, none⟩ = some v0 ∧ w.cell? ⟨b, 1, none⟩ = some v1 ∧ w.cell? ⟨b, 2, none⟩ = some v2 ∧ w.cell? ⟨b, 3, none⟩ = some v3
theorem lies_new (w : World) (a b c d : Value) (t : TypeId) : Lies (w.alloc (.cells #[a, b, c, d] t)) w.heap.size a b c d := ⟨by simp, by simp, by simp, by simp⟩
theorem Lies.below {w w' : World} {b : Nat} {v0 v1 v2 v3 : Value} (h : Lies w b v0 v1 v2 v3) (hb : Below w.heap.size w w') : Lies w' b v0 v1 v2 v3 :=
  ⟨(hb.cell (Lib.lt_of_cell h.1)).trans h.1, (hb.cell (Lib.lt_of_cell h.2.1)).trans h.2.1, (hb.cell (Lib.lt_of_cell h.2.2.1)).trans h.2.2.1, (hb.cell (Lib.lt_of_cell h.2.2.2)).trans h.2.2.2⟩
theorem Lies.alloc {w : World} {b : Nat} {v0 v1 v2 v3 : Value} (h : Lies w b v0 v1 v2 v3) (o : Obj) : Lies (w.alloc o) b v0 v1 v2 v3 := h.below (below_a1 _ _)
theorem Lies.drewN {w : World} {b : Nat} {v0 v1 v2 v3 : Value} (h : Lies w b v0 v1 v2 v3) (n : Nat) : Lies (w.drewN n) b v0 v1 v2 v3 := h.below (below_drewN (Below.refl _ _) n)
/-- a truth as a number -/
def b01 (b : Bool) : Int := if b = true then 1 else 0
theorem load4 {w : World} {b : Nat} {v0 v1 v2 v3 : Value} (h : Lies w b v0 v1 v2 v3) : (loadVar 41 ⟨b, 0, none⟩).run Tryz.prog w = .ok (.agg #[v0, v1, v2, v3]) w := by
  obtain ⟨h0, h1, h2, h3⟩ := h
  go_simp
theorem ret_v {fn : Func} {p : Tmp} {R : Ending → World → Prop} {a : Act} {w : World} {b : Nat} {v0 v1 v2 v3 : Value} (h : fn.results = #[.cell p 41]) (hp : a.tmps.getD p undef = .pointer (some ⟨b, 0, none⟩)) (hd : a.defers = [])
    (hc : Lies w b v0 v1 v2 v3) (hR : R (.returned (.agg #[v0, v1, v2, v3])) w) : bodyPost Tryz.prog fn R .ret a w := by
  refine bodyPost_ret ?_ hd hR
  have hp' : a.tmps[p]?.getD undef = .pointer (some ⟨b, 0, none⟩) := by simpa using hp
  simp [results, h, hp', asAddr, load4 hc]
theorem ret_ve {fn : Func} {p q : Tmp} {R : Ending → World → Prop} {a : Act} {w : World} {b : Nat} {v0 v1 v2 v3 e : Value} (h : fn.results = #[.cell p 41, .tmp q]) (hp : a.tmps.getD p undef = .pointer (some ⟨b, 0, none⟩)) (hq : a.tmps.getD q undef = e) (hd : a.defers = [])
    (hc : Lies w b v0 v1 v2 v3) (hR : R (.returned (.tuple #[.agg #[v0, v1, v2, v3], e])) w) : bodyPost Tryz.prog fn R .ret a w := by
  refine bodyPost_ret ?_ hd hR
  have hp' : a.tmps[p]?.getD undef = .pointer (some ⟨b, 0, none⟩) := by simpa using hp
  have hq' : a.tmps[q]?.getD undef = e := by simpa using hq
  simp [results, h, hp', hq', asAddr, load4 hc]
theorem ret_vnb {fn : Func} {p q r : Tmp} {R : Ending → World → Prop} {a : Act} {w : World} {b : Nat} {v0 v1 v2 v3 e g : Value} (h : fn.results = #[.cell p 41, .tmp q, .tmp r]) (hp : a.tmps.getD p undef = .pointer (some ⟨b, 0, none⟩)) (hq : a.tmps.getD q undef = e) (hr : a.tmps.getD r undef = g) (hd : a.defers = [])
    (hc : Lies w b v0 v1 v2 v3) (hR : R (.returned (.tuple #[.agg #[v0, v1, v2, v3], e, g])) w) : bodyPost Tryz.prog fn R .ret a w := by
  refine bodyPost_ret ?_ hd hR
  have hp' : a.tmps[p]?.getD undef = .pointer (some ⟨b, 0, none⟩) := by simpa using hp
  have hq' : a.tmps[q]?.getD undef = e := by simpa using hq
  have hr' : a.tmps[r]?.getD undef = g := by simpa using hr
  simp [results, h, hp', hq', hr', asAddr, load4 hc]

theorem truth_any (b : Bool) (w : World) : Calls Tryz.prog 69 #[.bool b] w fun e w' => e = .returned (.agg #[.int .i64 1, .int .i64 (b01 b), .float .f64 0, .string ⟨#[]⟩]) ∧ Below w.heap.size w w' := by
  cases b
  · have hsf := run_store_float
    go_enter Tryz.func69, Tryz.ntmps69
    go_wp2_with fail
    refine ret_v rfl rfl rfl (lies_new _ _ _ _ _ _) ?_
    exact ⟨rfl, below_a1 _ _⟩
  · have hsf := run_store_float
    go_enter Tryz.func69, Tryz.ntmps69
    go_wp2_with fail
    refine ret_v rfl rfl rfl (lies_new _ _ _ _ _ _) ?_
    exact ⟨rfl, below_a1 _ _⟩
theorem whole_any (n : Int) (w : World) : Calls Tryz.prog 72 #[.int .i64 n] w fun e w' => e = .returned (.agg #[.int .i64 2, .int .i64 n, .float .f64 0, .string ⟨#[]⟩]) ∧ Below w.heap.size w w' := by
  have hsf := run_store_float
  go_enter Tryz.func72, Tryz.ntmps72
  go_wp2_with fail
  refine ret_v rfl rfl rfl (lies_new _ _ _ _ _ _) ?_
  exact ⟨rfl, below_a1 _ _⟩
theorem vtext_any (s : ByteArray) (w : World) : Calls Tryz.prog 66 #[.string s] w fun e w' => e = .returned (.agg #[.int .i64 4, .int .i64 0, .float .f64 0, .string s]) ∧ Below w.heap.size w w' := by
  have hsf := run_store_float
  go_enter Tryz.func66, Tryz.ntmps66
  go_wp2_with fail
  refine ret_v rfl rfl rfl (lies_new _ _ _ _ _ _) ?_
  exact ⟨rfl, below_a1 _ _⟩
theorem vfloat_any (f : Nat) (hf : f < 18446744073709551616) (w : World) : Calls Tryz.prog 74 #[.float .f64 f] w fun e w' => e = .returned (.agg #[.int .i64 3, .int .i64 0, .float .f64 (Flt.canon f), .string ⟨#[]⟩]) ∧ Below w.heap.size w w' := by
  have hsf := run_store_float
  go_enter Tryz.func74, Tryz.ntmps74
  go_wp2_with fail
  refine (canon_any _ hf _).mono ?_; rintro e w' ⟨rfl, rfl⟩
  go_wp2_with fail
  refine ret_v rfl rfl rfl (lies_new _ _ _ _ _ _) ?_
  exact ⟨rfl, below_a1 _ _⟩
/-- which values are right -/
def rightB (k n : Int) (f : Nat) (s : ByteArray) : Bool :=
  if k = 0 then decide (n = 0 ∧ f = 0 ∧ s.toList = []) else if k = 1 then decide ((n = 0 ∨ n = 1) ∧ f = 0 ∧ s.toList = []) else if k = 2 then decide (f = 0 ∧ s.toList = [])
  else if k = 3 then decide (n = 0 ∧ f = Flt.canon f ∧ s.toList = []) else if k = 4 then decide (n = 0 ∧ f = 0) else false
theorem nil_list : (⟨#[]⟩ : ByteArray).toList = [] := by rw [Lib.toList_data]
theorem ret_bool' {a b : Bool} (h : a = b) {w w' : World} {e : Ending} (he : e = .returned (.bool a) ∧ Below w.heap.size w w') : e = .returned (.bool b) ∧ Below w.heap.size w w' := h ▸ he
end Go.Proofs.YtainigcchlgehaaGreatDoor
namespace Go.Proofs.YtainigcchlgehaaGreatDoor
open Go Go.RowKit
set_option linter.unusedVariables false
end Go.Proofs.YtainigcchlgehaaGreatDoor
namespace Go.Proofs.YtainigcchlgehaaGreatDoor
open Go Go.RowKit
set_option linter.unusedVariables false
end Go.Proofs.YtainigcchlgehaaGreatDoor
namespace Go.Proofs.YtainigcchlgehaaGreatDoor
open Go Go.RowKit
set_option linter.unusedVariables false
/-- how one text is to another one -/
def cmpS (s t : ByteArray) : Int := if Op.bytesLess s.toList t.toList = true then -1 else if s.toList = t.toList then 0 else 1
/-- the first that is not 0 -/
def orI (a b c d : Int) : Int := if a = 0 then (if b = 0 then (if c = 0 then d else c) else b) else a
def at4 (a b c d : Int) (j : Nat) : Int := if j = 0 then a else if j = 1 then b else if j = 2 then c else d
theorem wp_region_tail {P : Program} {id : Nat} {Q : Exit → Act → World → Prop} {a : Act} {w : World} {l : List Oper} (n : Nat) (hm : P.follows .mixedOrders = true) (hB : Region.lexTailB .any l.toArray n = true)
    (h : wpStill P l.toArray w.drew (fun a' => wpList P l.toArray Q (l.drop n) a' w.drew) (l.take n) a) : (Code.region id l.toArray true).wp P Q a w := wp_region_still_tail n hm hB h
theorem flip {P : Program} {f : FuncId} {args : Array Value} {v : Value} (h : ∀ w : World, Calls P f args w fun e w' => e = .returned v ∧ w = w') (w : World) : Calls P f args w fun e w' => e = .returned v ∧ w' = w :=
  (h w).mono fun _ _ ⟨a, b⟩ => ⟨a, b.symm⟩
/-- which is ahead -/
def lessB (k n : Int) (f : Nat) (s : ByteArray) (k' n' : Int) (f' : Nat) (s' : ByteArray) : Bool :=
  if k = k' then (if n = n' then (if Flt.kbits f = Flt.kbits f' then Op.bytesLess s.toList s'.toList else decide (Flt.kbits f < Flt.kbits f')) else decide (n < n')) else decide (k < k')
theorem orI_less (k n : Int) (f : Nat) (s : ByteArray) (k' n' : Int) (f' : Nat) (s' : ByteArray) :
    decide (orI (Lib.compareInt k k') (Flt.cmp3 n n') (Flt.cmp3 (Flt.kbits f : Nat) (Flt.kbits f' : Nat)) (cmpS s s') < 0) = lessB k n f s k' n' f' s' := by
  unfold orI lessB Lib.compareInt Flt.cmp3 cmpS
  rw [Bool.eq_iff_iff]
  (repeat' split) <;> simp_all <;> omega
theorem lies_at (w : World) (g : Nat) (hg : g = w.heap.size) (a b c d : Value) (t : TypeId) : Lies (w.alloc (.cells #[a, b, c, d] t)) g a b c d := by subst hg; exact lies_new w a b c d t
theorem Lies.drew {w : World} {b : Nat} {v0 v1 v2 v3 : Value} (h : Lies w b v0 v1 v2 v3) : Lies w.drew b v0 v1 v2 v3 := h.drewN 1
/-- at most sixty bytes -/
def cut60 (s : ByteArray) : ByteArray := s.extract 0 (min s.size 60)
end Go.Proofs.YtainigcchlgehaaGreatDoor


