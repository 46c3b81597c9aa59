import Derived.Test.YtcbogapnhabhkaaPH
namespace Go.Proofs.Ytcbogapnhabhkaa
open Go Go.RowKit
set_option linter.unusedVariables false
/-- a value's four parts -/
structure V4 where
  k : Int
  n : Int
  f : Nat
  s : List UInt8
/-- what a reader makes of a value's bytes -/
def valR : List UInt8 → Option (V4 × List UInt8)
  | [] => none
  | c :: t =>
    if c = 0 then some (⟨0, 0, 0, []⟩, t)
    else if c = 1 then (match numR t with | some (n, r) => if n ≤ 1 then some (⟨1, n, 0, []⟩, r) else none | none => none)
    else if c = 2 then (match numR t with | some (n, r) => if n < 9223372036854775808 then some (⟨2, n, 0, []⟩, r) else none | none => none)
    else if c = 18 then (match numR t with | some (n, r) => if n < 9223372036854775808 then some (⟨2, -1 - (n : Int), 0, []⟩, r) else none | none => none)
    else if c = 3 then (match fltR t with | some (f, r) => some (⟨3, 0, f, []⟩, r) | none => none)
    else if c = 4 then (match textR t with | some (s, r) => some (⟨4, 0, 0, s⟩, r) | none => none)
    else none
theorem valR_cons (c : UInt8) (t : List UInt8) : valR (c :: t) =
    if c = 0 then some (⟨0, 0, 0, []⟩, t)
    else if c = 1 then (match numR t with | some (n, r) => if n ≤ 1 then some (⟨1, n, 0, []⟩, r) else none | none => none)
    else if c = 2 then (match numR t with | some (n, r) => if n < 9223372036854775808 then some (⟨2, n, 0, []⟩, r) else none | none => none)
    else if c = 18 then (match numR t with | some (n, r) => if n < 9223372036854775808 then some (⟨2, -1 - (n : Int), 0, []⟩, r) else none | none => none)
    else if c = 3 then (match fltR t with | some (f, r) => some (⟨3, 0, f, []⟩, r) | none => none)
    else if c = 4 then (match textR t with | some (s, r) => some (⟨4, 0, 0, s⟩, r) | none => none)
    else none := rfl
def V4.v (x : V4) : Value := .agg #[.int .i64 x.k, .int .i64 x.n, .float .f64 x.f, .string ⟨x.s.toArray⟩]
theorem one_bad_val (p : Nat) (w : World) (hR : Rd p w []) :
    Calls Try.prog 42 #[.pointer (some ⟨p, 0, none⟩)] w fun e w' => e = bad ∧ w.grownBy w' (some p) := by
  have hsf := run_store_float
  have h1 := Lib.hid (one_bad p (w.alloc (.cells #[.int .i64 0, .int .i64 0, .float .f64 0, .string ⟨#[]⟩] 29)) (hR.grown (below_a1 _ _)))
  go_enter Try.func42, Try.ntmps42
  go_wp2_with fail
  refine h1.out.mono ?_; rintro e w1 ⟨rfl, hg1⟩
  exact ⟨rfl, rfl, grown_trans (World.grownBy_alloc _ _ _) hg1⟩
theorem rvalue_all (p : Nat) (l : List UInt8) (w : World) (hR : Rd p w l) (hl : l.length ≤ 1000000) :
    (∀ x r, valR l = some (x, r) → Calls Try.prog 42 #[.pointer (some ⟨p, 0, none⟩)] w fun e w' => e = .returned x.v ∧ Rd p w' r ∧ w.grownBy w' (some p)) ∧
    (valR l = none → Calls Try.prog 42 #[.pointer (some ⟨p, 0, none⟩)] w fun e w' => e = bad ∧ w.grownBy w' (some p)) := by
  cases l with
  | nil => exact ⟨fun x r h => by simp [valR] at h, fun _ => one_bad_val p w hR⟩
  | cons c t =>
    have hl' : t.length < 1000000 := by simp at hl; omega
    rw [valR_cons]
    by_cases h0 : c = 0
    · subst h0
      rw [if_pos rfl]
      exact ⟨fun x r h => by cases h; exact rval0 p t w hR hl', fun h => by cases h⟩
    rw [if_neg h0]
    by_cases h1 : c = 1
    · subst h1
      rw [if_pos rfl]
      cases hn : numR t with
      | none => exact ⟨fun x r h => (by cases h), fun _ => rval1bad p t w hR hl' hn⟩
      | some q =>
        obtain ⟨n, r⟩ := q
        by_cases hs : n ≤ 1
        · simp only [if_pos hs]
          exact ⟨fun x r h => by cases h; exact rval1 p t n _ w hR hl' hn hs, fun h => by cases h⟩
        · simp only [if_neg hs]
          refine ⟨fun x r h => (by cases h), fun _ => ?_⟩
          by_cases h63 : n < 9223372036854775808
          · exact rval1big p t n r w hR hl' hn hs h63
          · exact rval1huge p t n r w hR hl' hn h63
    rw [if_neg h1]
    by_cases h2 : c = 2
    · subst h2
      rw [if_pos rfl]
      cases hn : numR t with
      | none => exact ⟨fun x r h => (by cases h), fun _ => rval2bad p t w hR hl' hn⟩
      | some q =>
        obtain ⟨n, r⟩ := q
        by_cases hs : n < 9223372036854775808
        · simp only [if_pos hs]
          exact ⟨fun x r h => by cases h; exact rval2 p t n _ w hR hl' hn hs, fun h => by cases h⟩
        · simp only [if_neg hs]
          exact ⟨fun x r h => (by cases h), fun _ => rval2huge p t n r w hR hl' hn hs⟩
    rw [if_neg h2]
    by_cases h18 : c = 18
    · subst h18
      rw [if_pos rfl]
      cases hn : numR t with
      | none => exact ⟨fun x r h => (by cases h), fun _ => rval18bad p t w hR hl' hn⟩
      | some q =>
        obtain ⟨n, r⟩ := q
        by_cases hs : n < 9223372036854775808
        · simp only [if_pos hs]
          exact ⟨fun x r h => by cases h; exact rval18 p t n _ w hR hl' hn hs, fun h => by cases h⟩
        · simp only [if_neg hs]
          exact ⟨fun x r h => (by cases h), fun _ => rval18huge p t n r w hR hl' hn hs⟩
    rw [if_neg h18]
    by_cases h3 : c = 3
    · subst h3
      rw [if_pos rfl]
      cases hn : fltR t with
      | none => exact ⟨fun x r h => (by cases h), fun _ => rval3bad p t w hR hl' hn⟩
      | some q =>
        obtain ⟨f, r⟩ := q
        exact ⟨fun x r h => by cases h; exact rval3 p t f _ w hR hl' hn, fun h => by cases h⟩
    rw [if_neg h3]
    by_cases h4 : c = 4
    · subst h4
      rw [if_pos rfl]
      cases hn : textR t with
      | none => exact ⟨fun x r h => (by cases h), fun _ => rval4bad p t w hR hl' hn⟩
      | some q =>
        obtain ⟨f, r⟩ := q
        exact ⟨fun x r h => by cases h; exact rval4 p t f _ w hR hl' hn, fun h => by cases h⟩
    rw [if_neg h4]
    exact ⟨fun x r h => (by cases h), fun _ => rvalx p t c w hR hl' h0 h1 h2 h18 h3 h4⟩
theorem Lies.drew' {w : World} {b : Nat} {v0 v1 v2 v3 : Value} (h : Lies w b v0 v1 v2 v3) : Lies w.drew b v0 v1 v2 v3 := h
theorem below_set4 {n : Nat} {w w' : World} {b : Nat} (h : Below n w w') (hb : n ≤ b) (v0 v1 v2 v3 : Value) :
    Below n w ((((w'.setCell ⟨b, 0, none⟩ v0).setCell ⟨b, 1, none⟩ v1).setCell ⟨b, 2, none⟩ v2).setCell ⟨b, 3, none⟩ v3) := (((h.setCell hb _).setCell hb _).setCell hb _).setCell hb _
theorem cell_far4 {w : World} {b c : Nat} {x : Value} (h : w.cell? ⟨c, 0, none⟩ = some x) (hn : c ≠ b) (v0 v1 v2 v3 : Value) : ((((w.setCell ⟨b, 0, none⟩ v0).setCell ⟨b, 1, none⟩ v1).setCell ⟨b, 2, none⟩ v2).setCell ⟨b, 3, none⟩ v3).cell? ⟨c, 0, none⟩ = some x :=
  (grown_trans (grown_trans (grown_trans (grown_set _ b 0 v0) (grown_set _ b 1 v1)) (grown_set _ b 2 v2)) (grown_set _ b 3 v3)).cell h (by simpa using hn)
theorem cell_on {w : World} {c : Nat} {x : Value} (h : w.cell? ⟨c, 0, none⟩ = some x) (v : Value) : (w.setCell ⟨c, 0, none⟩ v).cell? ⟨c, 0, none⟩ = some v := by simp [go_sem, h]
theorem cell_drew {w : World} {a : Addr} {x : Value} (h : w.cell? a = some x) : w.drew.cell? a = some x := h
theorem loadb {w : World} {c : Nat} {x : Bool} (h : w.cell? ⟨c, 0, none⟩ = some (.bool x)) : (loadVar 4 ⟨c, 0, none⟩).run Try.prog w = .ok (.bool x) w := by
  go_simp
theorem leaves_v {fn : Func} {p q r : Tmp} {tmps : Array Value} {R : Ending → World → Prop} {w : World} {b c : Nat} {v0 v1 v2 v3 e : Value} {x : Bool} {m : FrameMode} (hm : m = .returning) (h : fn.results = #[.cell p 29, .tmp q, .cell r 4]) (hp : tmps.getD p undef = .pointer (some ⟨b, 0, none⟩)) (hq : tmps.getD q undef = e) (hr : tmps.getD r undef = .pointer (some ⟨c, 0, none⟩))
    (hc : Lies w b v0 v1 v2 v3) (hx : w.cell? ⟨c, 0, none⟩ = some (.bool x)) (hR : R (.returned (.tuple #[.agg #[v0, v1, v2, v3], e, .bool x])) w) : Leaves Try.prog fn tmps R [] m w := by
  subst hm
  have hp' : tmps[p]?.getD undef = .pointer (some ⟨b, 0, none⟩) := by simpa using hp
  have hq' : tmps[q]?.getD undef = e := by simpa using hq
  have hr' : tmps[r]?.getD undef = .pointer (some ⟨c, 0, none⟩) := by simpa using hr
  simp [Leaves, results, h, hp', hq', hr', asAddr, load4 hc, loadb hx]
  exact hR
theorem rd_start3 (w : World) (ao : Option Addr) (len cap : Nat) (l : List UInt8) (X Y : Obj) (hB : Bs w.heap.size w (.slice ao len cap) l) : Rd (w.heap.size + 1 + 1) (((w.alloc X).alloc Y).alloc (.cells #[.slice ao len cap] 85)) l := by
  refine ⟨.slice ao len cap, by simp [go_sem], ?_, (hB.below ((below_a2 w X Y).alloc (by simp <;> omega) _)).mono (by omega)⟩
  go_simp
theorem first_val_ok (v : Value) (l : List UInt8) (x : V4) (r : List UInt8) (w : World) (hB : Bs w.heap.size w v l) (h : valR l = some (x, r)) (hl : l.length ≤ 1000000) (hr : r.length ≤ l.length) :
    Calls Try.prog 41 #[v, .func (.func 42) #[] #[]] w fun e w' => e = .returned (.tuple #[x.v, .int .i64 ((l.length : Int) - (r.length : Int)), .bool true]) ∧ Below w.heap.size w w' := by
  have hmf := run_mf
  have hsf := run_store_float
  obtain ⟨ao, cap, rfl⟩ := hB.shape
  have h1 := Lib.hid ((rvalue_all (w.heap.size + 1 + 1) l _ (rd_start3 w _ _ _ _ _ _ hB) hl).1 x r h : Calls _ _ _ (((w.alloc (.cells #[.int .i64 0, .int .i64 0, .float .f64 0, .string ⟨#[]⟩] 29)).alloc (.cells #[.bool false] 4)).alloc (.cells #[.slice ao l.length cap] 85)) _)
  have g0 : Below w.heap.size w (((w.alloc (.cells #[.int .i64 0, .int .i64 0, .float .f64 0, .string ⟨#[]⟩] 29)).alloc (.cells #[.bool false] 4)).alloc (.cells #[.slice ao l.length cap] 85)) := (below_a2 _ _ _).alloc (by simp <;> omega) _
  have c0 : (((w.alloc (.cells #[.int .i64 0, .int .i64 0, .float .f64 0, .string ⟨#[]⟩] 29)).alloc (.cells #[.bool false] 4)).alloc (.cells #[.slice ao l.length cap] 85)).cell? ⟨w.heap.size + 1, 0, none⟩ = some (.bool false) := by go_simp
  have f0 : (((w.alloc (.cells #[.int .i64 0, .int .i64 0, .float .f64 0, .string ⟨#[]⟩] 29)).alloc (.cells #[.bool false] 4)).alloc (.cells #[.slice ao l.length cap] 85)).frozen? ⟨w.heap.size + 1, 0, none⟩ = false := by go_simp
  have b0 : w.heap.size + 1 < (((w.alloc (.cells #[.int .i64 0, .int .i64 0, .float .f64 0, .string ⟨#[]⟩] 29)).alloc (.cells #[.bool false] 4)).alloc (.cells #[.slice ao l.length cap] 85)).heap.size := by simp <;> omega
  have l0 : Lies (((w.alloc (.cells #[.int .i64 0, .int .i64 0, .float .f64 0, .string ⟨#[]⟩] 29)).alloc (.cells #[.bool false] 4)).alloc (.cells #[.slice ao l.length cap] 85)) w.heap.size (.int .i64 0) (.int .i64 0) (.float .f64 0) (.string ⟨#[]⟩) := ((lies_new w _ _ _ _ _).alloc _).alloc _
  have r0 : Free (((w.alloc (.cells #[.int .i64 0, .int .i64 0, .float .f64 0, .string ⟨#[]⟩] 29)).alloc (.cells #[.bool false] 4)).alloc (.cells #[.slice ao l.length cap] 85)) w.heap.size := by refine ⟨?_, ?_, ?_, ?_⟩ <;> go_simp
  clear h hB
  generalize hW : ((w.alloc (.cells #[.int .i64 0, .int .i64 0, .float .f64 0, .string ⟨#[]⟩] 29)).alloc (.cells #[.bool false] 4)).alloc (.cells #[.slice ao l.length cap] 85) = W0 at h1 g0 c0 f0 b0 l0 r0
  have L0 := Lib.hid l0
  have R0 := Lib.hid r0
  clear l0 r0
  go_enter_defers Try.func41, Try.ntmps41
  go_wp2_with fail
  clear hW
  refine h1.out.mono ?_; rintro e w1 ⟨rfl, hR1, hg1⟩
  have hne : some (w.heap.size + 1) ≠ some (w.heap.size + 1 + 1) := by simp
  have c1 := hg1.cell c0 hne
  have f1 := (World.frozen?_of_block (a := ⟨w.heap.size + 1, 0, none⟩) (hg1.block (w.heap.size + 1) b0 hne)).trans f0
  have g1 : Below w.heap.size w w1 := g0.grown hg1 (by omega) (fun k hk => by cases hk; omega)
  have l1 := L0.out.grow hg1 (by omega)
  have r1 := R0.out.grow (by omega) hg1 (by omega)
  obtain ⟨v1, d1, e1, hB1⟩ := hR1
  obtain ⟨a1, cp1, rfl⟩ := hB1.shape
  obtain ⟨k, n, f, s⟩ := x
  have ⟨l1a, l1b, l1c, l1d⟩ := l1
  have ⟨r1a, r1b, r1c, r1d⟩ := r1
  have L1 := Lib.hid l1
  clear l1 r1 L0 R0 hB1 h1 hg1 g0 c0 f0 b0 hne
  simp only [V4.v]
  go_wp2_with fail
  go_region
  all_goals
    go_wp2_with fail
    refine leaves_cons (f := 60) (args := #[.pointer (some ⟨w.heap.size + 1, 0, none⟩)]) (by simp) (by simp [go_sem]) ?_
    refine (catch_val_ok (w.heap.size + 1) true _ ?_ ?_).mono ?_
    · simp [go_sem, c1]
    · simp [go_sem, f1]
    rintro e u' w'' ⟨rfl, rfl, rfl⟩
    refine leaves_v (x := true) rfl rfl rfl rfl rfl (Lies.grow (w := World.drew _) (p := w.heap.size + 1) (Lies.drew' (Lies.grow ((L1.out.set _ _ _ _).set _ _ _ _) (grown_set _ (w.heap.size + 1) 0 _) (by omega))) (grown_set _ (w.heap.size + 1) 0 _) (by omega)) (cell_on (cell_drew (cell_on (cell_far4 (cell_far4 c1 (by omega) _ _ _ _) (by omega) _ _ _ _) _)) _) ⟨rfl, ?_⟩
    exact (below_set4 (below_set4 g1 (Nat.le_refl _) _ _ _ _) (Nat.le_refl _) _ _ _ _ |>.setCell (show w.heap.size ≤ (⟨w.heap.size + 1, 0, none⟩ : Addr).block from Nat.le_succ _) _).drew.setCell (show w.heap.size ≤ (⟨w.heap.size + 1, 0, none⟩ : Addr).block from Nat.le_succ _) _
theorem first_val_bad (v : Value) (l : List UInt8)  (w : World) (hB : Bs w.heap.size w v l) (h : valR l = none) (hl : l.length ≤ 1000000) :
    Calls Try.prog 41 #[v, .func (.func 42) #[] #[]] w fun e w' => e = .returned (.tuple #[.agg #[.int .i64 0, .int .i64 0, .float .f64 0, .string ⟨#[]⟩], .int .i64 0, .bool false]) ∧ Below w.heap.size w w' := by
  have hmf := run_mf
  have hsf := run_store_float
  obtain ⟨ao, cap, rfl⟩ := hB.shape
  have h1 := Lib.hid ((rvalue_all (w.heap.size + 1 + 1) l _ (rd_start3 w _ _ _ _ _ _ hB) hl).2 h : Calls _ _ _ (((w.alloc (.cells #[.int .i64 0, .int .i64 0, .float .f64 0, .string ⟨#[]⟩] 29)).alloc (.cells #[.bool false] 4)).alloc (.cells #[.slice ao l.length cap] 85)) _)
  have g0 : Below w.heap.size w (((w.alloc (.cells #[.int .i64 0, .int .i64 0, .float .f64 0, .string ⟨#[]⟩] 29)).alloc (.cells #[.bool false] 4)).alloc (.cells #[.slice ao l.length cap] 85)) := (below_a2 _ _ _).alloc (by simp <;> omega) _
  have c0 : (((w.alloc (.cells #[.int .i64 0, .int .i64 0, .float .f64 0, .string ⟨#[]⟩] 29)).alloc (.cells #[.bool false] 4)).alloc (.cells #[.slice ao l.length cap] 85)).cell? ⟨w.heap.size + 1, 0, none⟩ = some (.bool false) := by go_simp
  have f0 : (((w.alloc (.cells #[.int .i64 0, .int .i64 0, .float .f64 0, .string ⟨#[]⟩] 29)).alloc (.cells #[.bool false] 4)).alloc (.cells #[.slice ao l.length cap] 85)).frozen? ⟨w.heap.size + 1, 0, none⟩ = false := by go_simp
  have b0 : w.heap.size + 1 < (((w.alloc (.cells #[.int .i64 0, .int .i64 0, .float .f64 0, .string ⟨#[]⟩] 29)).alloc (.cells #[.bool false] 4)).alloc (.cells #[.slice ao l.length cap] 85)).heap.size := by simp <;> omega
  have l0 : Lies (((w.alloc (.cells #[.int .i64 0, .int .i64 0, .float .f64 0, .string ⟨#[]⟩] 29)).alloc (.cells #[.bool false] 4)).alloc (.cells #[.slice ao l.length cap] 85)) w.heap.size (.int .i64 0) (.int .i64 0) (.float .f64 0) (.string ⟨#[]⟩) := ((lies_new w _ _ _ _ _).alloc _).alloc _
  have r0 : Free (((w.alloc (.cells #[.int .i64 0, .int .i64 0, .float .f64 0, .string ⟨#[]⟩] 29)).alloc (.cells #[.bool false] 4)).alloc (.cells #[.slice ao l.length cap] 85)) w.heap.size := by refine ⟨?_, ?_, ?_, ?_⟩ <;> go_simp
  clear h hB
  generalize hW : ((w.alloc (.cells #[.int .i64 0, .int .i64 0, .float .f64 0, .string ⟨#[]⟩] 29)).alloc (.cells #[.bool false] 4)).alloc (.cells #[.slice ao l.length cap] 85) = W0 at h1 g0 c0 f0 b0 l0 r0
  have L0 := Lib.hid l0
  have R0 := Lib.hid r0
  clear l0 r0
  go_enter_defers Try.func41, Try.ntmps41
  go_wp2_with fail
  clear hW
  refine h1.out.mono ?_; rintro e w1 ⟨rfl, hg1⟩
  have hne : some (w.heap.size + 1) ≠ some (w.heap.size + 1 + 1) := by simp
  have c1 := hg1.cell c0 hne
  have f1 := (World.frozen?_of_block (a := ⟨w.heap.size + 1, 0, none⟩) (hg1.block (w.heap.size + 1) b0 hne)).trans f0
  have g1 : Below w.heap.size w w1 := g0.grown hg1 (by omega) (fun k hk => by cases hk; omega)
  have l1 := L0.out.grow hg1 (by omega)
  have r1 := R0.out.grow (by omega) hg1 (by omega)
  have ⟨l1a, l1b, l1c, l1d⟩ := l1
  refine leaves_cons (f := 60) (args := #[.pointer (some ⟨w.heap.size + 1, 0, none⟩)]) (by simp) (by simp [go_sem]) ?_
  refine (catch_val_bad (w.heap.size + 1) false 31 _ [] _ c1 f1).mono ?_
  rintro e u' w'' ⟨rfl, rfl, rfl⟩
  refine leaves_v (x := false) rfl rfl rfl rfl rfl (l1.grow (grown_set _ (w.heap.size + 1) 0 _) (by omega)) (by simp [go_sem, c1]) ⟨rfl, ?_⟩
  exact g1.setCell (show w.heap.size ≤ (⟨w.heap.size + 1, 0, none⟩ : Addr).block from Nat.le_succ _) _
end Go.Proofs.Ytcbogapnhabhkaa
