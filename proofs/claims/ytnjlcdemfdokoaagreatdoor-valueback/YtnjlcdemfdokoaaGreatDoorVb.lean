import Derived.Test.YtnjlcdemfdokoaaGreatDoorVa
namespace Go.Proofs.YtnjlcdemfdokoaaGreatDoor
open Go Go.RowKit
/-- a world in which all blocks of w0 lie as they lay -/
structure Later (w0 : World) where
  w : World
  kept : Below w0.heap.size w0 w
instance later_some (w0 : World) : Nonempty (Later w0) := ⟨⟨w0, Below.refl _ _⟩⟩
theorem later_cell {w0 : World} {a : Addr} {v : Value} (h : w0.cell? a = some v) (x : Later w0) : x.w.cell? a = some v := (x.kept.cell (Lib.lt_of_cell h)).trans h
theorem later_call {P : Program} {f : FuncId} {args : Array Value} {w0 : World} {x : Later w0} {v : Value} (h : Calls P f args x.w fun e w' => e = .returned v ∧ Below x.w.heap.size x.w w') :
    Calls P f args x.w fun e w'' => e = .returned v ∧ ∃ y : Later w0, w'' = y.w := h.mono fun _ w' ⟨he, hb⟩ => ⟨he, ⟨⟨w', Below.chain x.kept hb⟩, rfl⟩⟩
theorem later_same {P : Program} {f : FuncId} {args : Array Value} {w0 : World} {x : Later w0} {v : Value} (h : Calls P f args x.w fun e w' => e = .returned v ∧ x.w = w') :
    Calls P f args x.w fun e w'' => e = .returned v ∧ ∃ y : Later w0, w'' = y.w := h.mono fun _ _ ⟨he, hb⟩ => ⟨he, ⟨x, hb.symm⟩⟩
theorem wp_region_later {P : Program} {id : Nat} {Q : Exit → Act → World → Prop} {a : Act} {w : World} {l : List Oper} (hm : P.follows .mixedOrders = true) (hB : Region.lexB .any l.toArray = true)
    (h : wpQuiet P l.toArray (fun w' => ∃ x : Later w, w' = x.w) (fun a' => ∀ w', (∃ x : Later w, w' = x.w) → Q .normal a' w') l a) : (Code.region id l.toArray true).wp P Q a w :=
  wp_region_quiet (C := fun w' => ∃ x : Later w, w' = x.w) hm hB ⟨⟨w.drew, (Below.refl _ _).drew⟩, rfl⟩ (by simpa using h)
theorem later4 (w : World) (a b c d : Value) (t : TypeId) (x : Later (w.alloc (.cells #[a, b, c, d] t))) :
    x.w.cell? ⟨w.heap.size, 0, none⟩ = some a ∧ x.w.cell? ⟨w.heap.size, 1, none⟩ = some b ∧ x.w.cell? ⟨w.heap.size, 2, none⟩ = some c ∧ x.w.cell? ⟨w.heap.size, 3, none⟩ = some d :=
  ⟨later_cell (by simp) x, later_cell (by simp) x, later_cell (by simp) x, later_cell (by simp) x⟩

theorem later8 (w : World) (a b c d a' b' c' d' : Value) (t : TypeId) (x : Later ((w.alloc (.cells #[a, b, c, d] t)).alloc (.cells #[a', b', c', d'] t))) :
    (x.w.cell? ⟨w.heap.size, 0, none⟩ = some a ∧ x.w.cell? ⟨w.heap.size, 1, none⟩ = some b ∧ x.w.cell? ⟨w.heap.size, 2, none⟩ = some c ∧ x.w.cell? ⟨w.heap.size, 3, none⟩ = some d) ∧
    x.w.cell? ⟨w.heap.size + 1, 0, none⟩ = some a' ∧ x.w.cell? ⟨w.heap.size + 1, 1, none⟩ = some b' ∧ x.w.cell? ⟨w.heap.size + 1, 2, none⟩ = some c' ∧ x.w.cell? ⟨w.heap.size + 1, 3, none⟩ = some d' :=
  ⟨⟨later_cell (by simp) x, later_cell (by simp) x, later_cell (by simp) x, later_cell (by simp) x⟩, later_cell (by simp) x, later_cell (by simp) x, later_cell (by simp) x, later_cell (by simp) x⟩
theorem run_store_float (a : Addr) (m : Mode) (k : FloatKind) (n : Nat) (w : World) : (store a (.float k n) m).run Tryz.prog w = stored Tryz.prog w a (.float k n) m := run_store Tryz.prog w a _ m rfl
/-- the four cells of a value -/
def Lies (w : World) (b : Nat) (v0 v1 v2 v3 : Value) : Prop := w.cell? ⟨b, 0, none⟩ = some v0 ∧ w.cell? ⟨b, 1, none⟩ = some v1 ∧ w.cell? ⟨b, 2, none⟩ = some v2 ∧ w.cell? ⟨b, 3, none⟩ = some v3
theorem lies_new (w : World) (a b c d : Value) (t : TypeId) : Lies (w.alloc (.cells #[a, b, c, d] t)) w.heap.size a b c d := ⟨by simp, by simp, by simp, by simp⟩
theorem Lies.below {w w' : World} {b : Nat} {v0 v1 v2 v3 : Value} (h : Lies w b v0 v1 v2 v3) (hb : Below w.heap.size w w') : Lies w' b v0 v1 v2 v3 :=
  ⟨(hb.cell (Lib.lt_of_cell h.1)).trans h.1, (hb.cell (Lib.lt_of_cell h.2.1)).trans h.2.1, (hb.cell (Lib.lt_of_cell h.2.2.1)).trans h.2.2.1, (hb.cell (Lib.lt_of_cell h.2.2.2)).trans h.2.2.2⟩
theorem Lies.alloc {w : World} {b : Nat} {v0 v1 v2 v3 : Value} (h : Lies w b v0 v1 v2 v3) (o : Obj) : Lies (w.alloc o) b v0 v1 v2 v3 := h.below (below_a1 _ _)
theorem Lies.drewN {w : World} {b : Nat} {v0 v1 v2 v3 : Value} (h : Lies w b v0 v1 v2 v3) (n : Nat) : Lies (w.drewN n) b v0 v1 v2 v3 := h.below (below_drewN (Below.refl _ _) n)
/-- a truth as a number -/
def b01 (b : Bool) : Int := if b = true then 1 else 0
theorem load4 {w : World} {b : Nat} {v0 v1 v2 v3 : Value} (h : Lies w b v0 v1 v2 v3) : (loadVar 28 ⟨b, 0, none⟩).run Tryz.prog w = .ok (.agg #[v0, v1, v2, v3]) w := by
  obtain ⟨h0, h1, h2, h3⟩ := h
  go_simp
theorem ret_v {fn : Func} {p : Tmp} {R : Ending → World → Prop} {a : Act} {w : World} {b : Nat} {v0 v1 v2 v3 : Value} (h : fn.results = #[.cell p 28]) (hp : a.tmps.getD p undef = .pointer (some ⟨b, 0, none⟩)) (hd : a.defers = [])
    (hc : Lies w b v0 v1 v2 v3) (hR : R (.returned (.agg #[v0, v1, v2, v3])) w) : bodyPost Tryz.prog fn R .ret a w := by
  refine bodyPost_ret ?_ hd hR
  have hp' : a.tmps[p]?.getD undef = .pointer (some ⟨b, 0, none⟩) := by simpa using hp
  simp [results, h, hp', asAddr, load4 hc]
theorem ret_ve {fn : Func} {p q : Tmp} {R : Ending → World → Prop} {a : Act} {w : World} {b : Nat} {v0 v1 v2 v3 e : Value} (h : fn.results = #[.cell p 28, .tmp q]) (hp : a.tmps.getD p undef = .pointer (some ⟨b, 0, none⟩)) (hq : a.tmps.getD q undef = e) (hd : a.defers = [])
    (hc : Lies w b v0 v1 v2 v3) (hR : R (.returned (.tuple #[.agg #[v0, v1, v2, v3], e])) w) : bodyPost Tryz.prog fn R .ret a w := by
  refine bodyPost_ret ?_ hd hR
  have hp' : a.tmps[p]?.getD undef = .pointer (some ⟨b, 0, none⟩) := by simpa using hp
  have hq' : a.tmps[q]?.getD undef = e := by simpa using hq
  simp [results, h, hp', hq', asAddr, load4 hc]
theorem ret_vnb {fn : Func} {p q r : Tmp} {R : Ending → World → Prop} {a : Act} {w : World} {b : Nat} {v0 v1 v2 v3 e g : Value} (h : fn.results = #[.cell p 28, .tmp q, .tmp r]) (hp : a.tmps.getD p undef = .pointer (some ⟨b, 0, none⟩)) (hq : a.tmps.getD q undef = e) (hr : a.tmps.getD r undef = g) (hd : a.defers = [])
    (hc : Lies w b v0 v1 v2 v3) (hR : R (.returned (.tuple #[.agg #[v0, v1, v2, v3], e, g])) w) : bodyPost Tryz.prog fn R .ret a w := by
  refine bodyPost_ret ?_ hd hR
  have hp' : a.tmps[p]?.getD undef = .pointer (some ⟨b, 0, none⟩) := by simpa using hp
  have hq' : a.tmps[q]?.getD undef = e := by simpa using hq
  have hr' : a.tmps[r]?.getD undef = g := by simpa using hr
  simp [results, h, hp', hq', hr', asAddr, load4 hc]

theorem truth_any (b : Bool) (w : World) : Calls Tryz.prog 36 #[.bool b] w fun e w' => e = .returned (.agg #[.int .i64 1, .int .i64 (b01 b), .float .f64 0, .string ⟨#[]⟩]) ∧ Below w.heap.size w w' := by
  cases b
  · have hsf := run_store_float
    go_enter Tryz.func36, Tryz.ntmps36
    go_wp2_with fail
    refine ret_v rfl rfl rfl (lies_new _ _ _ _ _ _) ?_
    exact ⟨rfl, below_a1 _ _⟩
  · have hsf := run_store_float
    go_enter Tryz.func36, Tryz.ntmps36
    go_wp2_with fail
    refine ret_v rfl rfl rfl (lies_new _ _ _ _ _ _) ?_
    exact ⟨rfl, below_a1 _ _⟩
theorem whole_any (n : Int) (w : World) : Calls Tryz.prog 37 #[.int .i64 n] w fun e w' => e = .returned (.agg #[.int .i64 2, .int .i64 n, .float .f64 0, .string ⟨#[]⟩]) ∧ Below w.heap.size w w' := by
  have hsf := run_store_float
  go_enter Tryz.func37, Tryz.ntmps37
  go_wp2_with fail
  refine ret_v rfl rfl rfl (lies_new _ _ _ _ _ _) ?_
  exact ⟨rfl, below_a1 _ _⟩
theorem vtext_any (s : ByteArray) (w : World) : Calls Tryz.prog 39 #[.string s] w fun e w' => e = .returned (.agg #[.int .i64 4, .int .i64 0, .float .f64 0, .string s]) ∧ Below w.heap.size w w' := by
  have hsf := run_store_float
  go_enter Tryz.func39, Tryz.ntmps39
  go_wp2_with fail
  refine ret_v rfl rfl rfl (lies_new _ _ _ _ _ _) ?_
  exact ⟨rfl, below_a1 _ _⟩
theorem vfloat_any (f : Nat) (hf : f < 18446744073709551616) (w : World) : Calls Tryz.prog 38 #[.float .f64 f] w fun e w' => e = .returned (.agg #[.int .i64 3, .int .i64 0, .float .f64 (Flt.canon f), .string ⟨#[]⟩]) ∧ Below w.heap.size w w' := by
  have hsf := run_store_float
  go_enter Tryz.func38, Tryz.ntmps38
  go_wp2_with fail
  refine (canon_any _ hf _).mono ?_; rintro e w' ⟨rfl, rfl⟩
  go_wp2_with fail
  refine ret_v rfl rfl rfl (lies_new _ _ _ _ _ _) ?_
  exact ⟨rfl, below_a1 _ _⟩
theorem right0 (n : Int) (f : Nat) (s : ByteArray) (w : World) :
    Calls Tryz.prog 16 #[.agg #[.int .i64 0, .int .i64 n, .float .f64 f, .string s]] w fun e w' => e = .returned (.bool (idB 0 n f s 0 0 0 ⟨#[]⟩)) ∧ Below w.heap.size w w' := by
  go_enter Tryz.func16, Tryz.ntmps16
  go_wp2_with fail
  refine (ident_any _ _ _ _ _ _ _ _ _).mono ?_; rintro e w1 ⟨rfl, hb1⟩
  go_wp2_with fail
  go_ret
  exact ⟨rfl, Below.chain (below_a1 _ _) hb1⟩
theorem right1 (n : Int) (f : Nat) (s : ByteArray) (a : Bool) (ha : idB 1 n f s 1 0 0 ⟨#[]⟩ = a) (w : World) :
    Calls Tryz.prog 16 #[.agg #[.int .i64 1, .int .i64 n, .float .f64 f, .string s]] w fun e w' => e = .returned (.bool (a || idB 1 n f s 1 1 0 ⟨#[]⟩)) ∧ Below w.heap.size w w' := by
  have L := later4 w (.int .i64 1) (.int .i64 n) (.float .f64 f) (.string s) 28
  have T1 := truth_any true
  have T0 := truth_any false
  rw [show b01 true = 1 from rfl] at T1
  rw [show b01 false = 0 from rfl] at T0
  have I0 := ident_any 1 n 1 0 f 0 s ⟨#[]⟩
  rw [ha] at I0
  have I1 := ident_any 1 n 1 1 f 0 s ⟨#[]⟩
  clear ha
  cases a
  · go_enter Tryz.func16, Tryz.ntmps16
    go_wp2_with fail
    refine wp_region_later (by kernel_rfl) (by kernel_rfl) ?_
    repeat (go_big_quiet_step (first | with_reducible exact later_call (T0 _) | with_reducible exact later_call (T1 _) | with_reducible exact later_call (I0 _) | with_reducible exact later_call (I1 _)))
    refine wpQuiet_nil ?_
    rintro w' ⟨x, rfl⟩
    go_wp2_with fail
    go_ret
    exact ⟨rfl, Below.chain (below_a1 _ _) x.kept⟩
  · go_enter Tryz.func16, Tryz.ntmps16
    go_wp2_with fail
    refine wp_region_later (by kernel_rfl) (by kernel_rfl) ?_
    repeat (go_big_quiet_step (first | with_reducible exact later_call (T0 _) | with_reducible exact later_call (T1 _) | with_reducible exact later_call (I0 _) | with_reducible exact later_call (I1 _)))
    refine wpQuiet_nil ?_
    rintro w' ⟨x, rfl⟩
    go_wp2_with fail
    go_ret
    exact ⟨rfl, Below.chain (below_a1 _ _) x.kept⟩
theorem right2 (n : Int) (f : Nat) (s : ByteArray) (w : World) :
    Calls Tryz.prog 16 #[.agg #[.int .i64 2, .int .i64 n, .float .f64 f, .string s]] w fun e w' => e = .returned (.bool (idB 2 n f s 2 n 0 ⟨#[]⟩)) ∧ Below w.heap.size w w' := by
  have L := later4 w (.int .i64 2) (.int .i64 n) (.float .f64 f) (.string s) 28
  have T1 := whole_any n
  have I1 := ident_any 2 n 2 n f 0 s ⟨#[]⟩
  go_enter Tryz.func16, Tryz.ntmps16
  go_wp2_with fail
  refine wp_region_later (by kernel_rfl) (by kernel_rfl) ?_
  repeat (go_big_quiet_step (first | with_reducible exact later_call (T1 _) | with_reducible exact later_call (I1 _)))
  refine wpQuiet_nil ?_
  rintro w' ⟨x, rfl⟩
  go_wp2_with fail
  go_ret
  exact ⟨rfl, Below.chain (below_a1 _ _) x.kept⟩
theorem right3 (n : Int) (f : Nat) (hf : f < 18446744073709551616) (s : ByteArray) (w : World) :
    Calls Tryz.prog 16 #[.agg #[.int .i64 3, .int .i64 n, .float .f64 f, .string s]] w fun e w' => e = .returned (.bool (idB 3 n f s 3 0 (Flt.canon f) ⟨#[]⟩)) ∧ Below w.heap.size w w' := by
  have L := later4 w (.int .i64 3) (.int .i64 n) (.float .f64 f) (.string s) 28
  have T1 := vfloat_any f hf
  have I1 := ident_any 3 n 3 0 f (Flt.canon f) s ⟨#[]⟩
  clear hf
  go_enter Tryz.func16, Tryz.ntmps16
  go_wp2_with fail
  refine wp_region_later (by kernel_rfl) (by kernel_rfl) ?_
  repeat (go_big_quiet_step (first | with_reducible exact later_call (T1 _) | with_reducible exact later_call (I1 _)))
  refine wpQuiet_nil ?_
  rintro w' ⟨x, rfl⟩
  go_wp2_with fail
  go_ret
  exact ⟨rfl, Below.chain (below_a1 _ _) x.kept⟩
theorem right4 (n : Int) (f : Nat) (s : ByteArray) (w : World) :
    Calls Tryz.prog 16 #[.agg #[.int .i64 4, .int .i64 n, .float .f64 f, .string s]] w fun e w' => e = .returned (.bool (idB 4 n f s 4 0 0 s)) ∧ Below w.heap.size w w' := by
  have L := later4 w (.int .i64 4) (.int .i64 n) (.float .f64 f) (.string s) 28
  have T1 := vtext_any s
  have I1 := ident_any 4 n 4 0 f 0 s s
  go_enter Tryz.func16, Tryz.ntmps16
  go_wp2_with fail
  refine wp_region_later (by kernel_rfl) (by kernel_rfl) ?_
  repeat (go_big_quiet_step (first | with_reducible exact later_call (T1 _) | with_reducible exact later_call (I1 _)))
  refine wpQuiet_nil ?_
  rintro w' ⟨x, rfl⟩
  go_wp2_with fail
  go_ret
  exact ⟨rfl, Below.chain (below_a1 _ _) x.kept⟩
theorem right5 (k n : Int) (f : Nat) (s : ByteArray) (h0 : (k == 0) = false) (h1 : (k == 1) = false) (h2 : (k == 2) = false) (h3 : (k == 3) = false) (h4 : (k == 4) = false) (w : World) :
    Calls Tryz.prog 16 #[.agg #[.int .i64 k, .int .i64 n, .float .f64 f, .string s]] w fun e w' => e = .returned (.bool false) ∧ Below w.heap.size w w' := by
  go_enter Tryz.func16, Tryz.ntmps16
  go_wp2_with fail
  go_ret
  exact ⟨rfl, below_a1 _ _⟩
/-- which values are right -/
def rightB (k n : Int) (f : Nat) (s : ByteArray) : Bool :=
  if k = 0 then decide (n = 0 ∧ f = 0 ∧ s.toList = []) else if k = 1 then decide ((n = 0 ∨ n = 1) ∧ f = 0 ∧ s.toList = []) else if k = 2 then decide (f = 0 ∧ s.toList = [])
  else if k = 3 then decide (n = 0 ∧ f = Flt.canon f ∧ s.toList = []) else if k = 4 then decide (n = 0 ∧ f = 0) else false
theorem nil_list : (⟨#[]⟩ : ByteArray).toList = [] := by rw [Lib.toList_data]
theorem ret_bool' {a b : Bool} (h : a = b) {w w' : World} {e : Ending} (he : e = .returned (.bool a) ∧ Below w.heap.size w w') : e = .returned (.bool b) ∧ Below w.heap.size w w' := h ▸ he
theorem right_any (k n : Int) (f : Nat) (hf : f < 18446744073709551616) (s : ByteArray) (w : World) :
    Calls Tryz.prog 16 #[.agg #[.int .i64 k, .int .i64 n, .float .f64 f, .string s]] w fun e w' => e = .returned (.bool (rightB k n f s)) ∧ Below w.heap.size w w' := by
  by_cases h0 : k = 0
  · subst h0
    refine (right0 n f s w).mono fun e w' h => ret_bool' ?_ h
    rw [Bool.eq_iff_iff]; simp [rightB, idB]; grind
  by_cases h1 : k = 1
  · subst h1
    refine (right1 n f s _ rfl w).mono fun e w' h => ret_bool' ?_ h
    rw [Bool.eq_iff_iff]; simp [rightB, idB]; grind
  by_cases h2 : k = 2
  · subst h2
    refine (right2 n f s w).mono fun e w' h => ret_bool' ?_ h
    rw [Bool.eq_iff_iff]; simp [rightB, idB]
  by_cases h3 : k = 3
  · subst h3
    refine (right3 n f hf s w).mono fun e w' h => ret_bool' ?_ h
    rw [Bool.eq_iff_iff]; simp [rightB, idB]; grind
  by_cases h4 : k = 4
  · subst h4
    refine (right4 n f s w).mono fun e w' h => ret_bool' ?_ h
    rw [Bool.eq_iff_iff]; simp [rightB, idB]
  · refine (right5 k n f s (by simpa using h0) (by simpa using h1) (by simpa using h2) (by simpa using h3) (by simpa using h4) w).mono fun e w' h => ret_bool' ?_ h
    simp [rightB, h0, h1, h2, h3, h4]
end Go.Proofs.YtnjlcdemfdokoaaGreatDoor
