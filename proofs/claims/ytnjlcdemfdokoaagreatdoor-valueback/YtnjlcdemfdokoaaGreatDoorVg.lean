import Derived.Test.YtnjlcdemfdokoaaGreatDoorVf
namespace Go.Proofs.YtnjlcdemfdokoaaGreatDoor
open Go Go.RowKit
theorem isnum_core (k n : Int) (f : Nat) (s : ByteArray) (a b : Bool) (ha : (k == 2) = a) (hb : (k == 3) = b) (w : World) :
    Calls Tryz.prog 50 #[.agg #[.int .i64 k, .int .i64 n, .float .f64 f, .string s]] w fun e w' => e = .returned (.bool (a || b)) ∧ Below w.heap.size w w' := by
  cases a
  · go_enter Tryz.func50, Tryz.ntmps50
    go_wp2_with fail
    go_ret
    exact ⟨rfl, below_a1 _ _⟩
  · go_enter Tryz.func50, Tryz.ntmps50
    go_wp2_with fail
    go_ret
    exact ⟨rfl, below_a1 _ _⟩
/-- is it a number -/
def numB (k : Int) : Bool := k == 2 || k == 3
theorem isnum_any (k n : Int) (f : Nat) (s : ByteArray) (w : World) :
    Calls Tryz.prog 50 #[.agg #[.int .i64 k, .int .i64 n, .float .f64 f, .string s]] w fun e w' => e = .returned (.bool (numB k)) ∧ Below w.heap.size w w' := isnum_core k n f s _ _ rfl rfl w
/-- how one float is to another one; 2: there is a nan -/
def fOrd (f f' : Nat) : Int := if Flt.isNan f = true ∨ Flt.isNan f' = true then 2 else Flt.cmp3 (Flt.key f) (Flt.key f')
theorem ford_core (f f' : Nat) (a b c : Bool) (ha : (FloatKind.f64.format.order f f' == some Ordering.lt) = a) (hb : (FloatKind.f64.format.order f f' == some Ordering.eq) = b) (hc : (FloatKind.f64.format.order f f' == some Ordering.gt) = c) (w : World) :
    Calls Tryz.prog 86 #[.float .f64 f, .float .f64 f'] w fun e w' => e = .returned (.int .i64 (if a = true then -1 else if b = true then 0 else if c = true then 1 else 2)) ∧ w = w' := by
  cases a <;> cases b <;> cases c
  all_goals
    go_enter Tryz.func86, Tryz.ntmps86
    go_wp2_with fail
    go_ret
    exact ⟨rfl, rfl⟩
theorem ford_any (f f' : Nat) (hf : f < 18446744073709551616) (hf' : f' < 18446744073709551616) (w : World) :
    Calls Tryz.prog 86 #[.float .f64 f, .float .f64 f'] w fun e w' => e = .returned (.int .i64 (fOrd f f')) ∧ w = w' := by
  have h := ford_core f f' _ _ _ (Flt.ord_lt hf hf') (Flt.ord_eq hf hf') (Flt.ord_gt hf hf') w
  refine h.mono fun e w' ⟨he, hw⟩ => ⟨?_, hw⟩
  rw [he]
  congr 2
  unfold fOrd Flt.cmp3
  cases Flt.isNan f <;> cases Flt.isNan f' <;> simp
  (repeat' split) <;> omega
/-- a whole number against a float; 2: there is a nan -/
def mOrd (n : Int) (f : Nat) : Int := if Flt.isNan f = true then 2 else Flt.cmp3 (n * ((2 ^ Flt.K : Nat) : Int)) (Flt.sv f)
theorem cmp3_bd (x y : Int) : -1 ≤ Flt.cmp3 x y ∧ Flt.cmp3 x y ≤ 1 := by unfold Flt.cmp3; (repeat' split) <;> omega
theorem mOrd_bd (n : Int) (f : Nat) : -1 ≤ mOrd n f ∧ mOrd n f ≤ 2 := by
  unfold mOrd
  have := cmp3_bd (n * ((2 ^ Flt.K : Nat) : Int)) (Flt.sv f)
  split <;> omega
theorem mord_core (n : Int) (f : Nat) (c : Int) (b : Bool) (C1 : ∀ w, Calls Tryz.prog 116 #[.int .i64 n, .float .f64 f] w fun e w' => e = .returned (.tuple #[.int .i64 c, .bool b]) ∧ w = w') (w : World) :
    Calls Tryz.prog 87 #[.int .i64 n, .float .f64 f] w fun e w' => e = .returned (.int .i64 (if b = true then c else 2)) ∧ w = w' := by
  cases b
  all_goals
    go_enter Tryz.func87, Tryz.ntmps87
    go_wp2_with (refine (C1 _).mono ?_; rintro e w' ⟨rfl, rfl⟩)
    go_ret
    exact ⟨rfl, rfl⟩
theorem mord_any (n : Int) (f : Nat) (n1 : -9223372036854775808 ≤ n) (n2 : n ≤ 9223372036854775807) (hf : f < 18446744073709551616) (w : World) :
    Calls Tryz.prog 87 #[.int .i64 n, .float .f64 f] w fun e w' => e = .returned (.int .i64 (mOrd n f)) ∧ w = w' := by
  unfold mOrd
  cases hn : Flt.isNan f
  · exact mord_core n f _ true (against_all n f n1 n2 hf hn) w
  · exact mord_core n f _ false (against_nan n f hf hn) w
/-- how one value is to another one -/
def ordI (k n : Int) (f : Nat) (s : ByteArray) (k' n' : Int) (f' : Nat) (s' : ByteArray) : Int :=
  if k = 4 then cmpS s s' else if k = 3 ∧ k' = 3 then fOrd f f' else if k' = 3 then mOrd n f' else if k = 3 then -mOrd n' f else Flt.cmp3 n n'
theorem ordr_core (k n k' n' : Int) (f f' : Nat) (s s' : ByteArray) (a b c : Bool) (ha : (k == 4) = a) (hb : (k == 3) = b) (hc : (k' == 3) = c) (S F M M' N : Int) (m1 : -2 ≤ M') (m2 : M' ≤ 2)
    (C1 : ∀ w, Calls Tryz.prog 47 #[.string s, .string s'] w fun e w' => e = .returned (.int .i64 S) ∧ w = w') (C2 : ∀ w, Calls Tryz.prog 86 #[.float .f64 f, .float .f64 f'] w fun e w' => e = .returned (.int .i64 F) ∧ w = w')
    (C3 : ∀ w, Calls Tryz.prog 87 #[.int .i64 n, .float .f64 f'] w fun e w' => e = .returned (.int .i64 M) ∧ w = w') (C4 : ∀ w, Calls Tryz.prog 87 #[.int .i64 n', .float .f64 f] w fun e w' => e = .returned (.int .i64 M') ∧ w = w')
    (C5 : ∀ w, Calls Tryz.prog 45 #[.int .i64 n, .int .i64 n'] w fun e w' => e = .returned (.int .i64 N) ∧ w = w') (w : World) :
    Calls Tryz.prog 51 #[.agg #[.int .i64 k, .int .i64 n, .float .f64 f, .string s], .agg #[.int .i64 k', .int .i64 n', .float .f64 f', .string s']] w fun e w' => e = .returned (.int .i64 (if a = true then S else if b = true then (if c = true then F else -M') else (if c = true then M else N))) ∧ Below w.heap.size w w' := by
  cases a
  case true =>
    go_enter Tryz.func51, Tryz.ntmps51
    go_wp2_with (with_reducible refine (C1 _).mono ?_; rintro e w' ⟨rfl, rfl⟩)
    go_ret
    exact ⟨rfl, below_a2 _ _ _⟩
  cases b <;> cases c
  all_goals
    go_enter Tryz.func51, Tryz.ntmps51
    go_wp2_with (first | ((with_reducible refine (C2 _).mono ?_); rintro e w' ⟨rfl, rfl⟩) | ((with_reducible refine (C3 _).mono ?_); rintro e w' ⟨rfl, rfl⟩) | ((with_reducible refine (C4 _).mono ?_); rintro e w' ⟨rfl, rfl⟩) | ((with_reducible refine (C5 _).mono ?_); rintro e w' ⟨rfl, rfl⟩))
    go_ret
    exact ⟨rfl, below_a2 _ _ _⟩
theorem ordr_any (k n k' n' : Int) (f f' : Nat) (s s' : ByteArray) (n1 : -9223372036854775808 ≤ n) (n2 : n ≤ 9223372036854775807) (n1' : -9223372036854775808 ≤ n') (n2' : n' ≤ 9223372036854775807) (hf : f < 18446744073709551616) (hf' : f' < 18446744073709551616) (w : World) :
    Calls Tryz.prog 51 #[.agg #[.int .i64 k, .int .i64 n, .float .f64 f, .string s], .agg #[.int .i64 k', .int .i64 n', .float .f64 f', .string s']] w fun e w' => e = .returned (.int .i64 (ordI k n f s k' n' f' s')) ∧ Below w.heap.size w w' := by
  have b := mOrd_bd n' f
  refine (ordr_core k n k' n' f f' s s' _ _ _ rfl rfl rfl _ _ _ _ _ (by omega) (by omega) (cmps_any s s') (ford_any f f' hf hf') (mord_any n f' n1 n2 hf') (mord_any n' f n1' n2' hf) (cmpi_any n n') w).mono fun e w' ⟨he, hw⟩ => ⟨?_, hw⟩
  rw [he]
  congr 2
  unfold ordI
  by_cases h1 : k = 4 <;> by_cases h2 : k = 3 <;> by_cases h3 : k' = 3 <;> simp [h1, h2, h3]
/-- what holds, of six ways -/
def holdB (i : Nat) (o : Int) : Bool := if i = 1 then o == 0 else if i = 2 then o != 0 else if i = 3 then o == -1 else if i = 4 then (o == -1 || o == 0) else if i = 5 then o == 1 else (o == 1 || o == 0)
theorem hold1 (o : Int) (w : World) : Calls Tryz.prog 80 #[.int .i64 o] w fun e w' => e = .returned (.bool (holdB 1 o)) ∧ w = w' := by
  go_enter Tryz.func80, Tryz.ntmps80
  go_wp2_with fail
  go_ret
  exact ⟨rfl, rfl⟩
theorem hold2 (o : Int) (w : World) : Calls Tryz.prog 81 #[.int .i64 o] w fun e w' => e = .returned (.bool (holdB 2 o)) ∧ w = w' := by
  go_enter Tryz.func81, Tryz.ntmps81
  go_wp2_with fail
  go_ret
  exact ⟨rfl, rfl⟩
theorem hold3 (o : Int) (w : World) : Calls Tryz.prog 82 #[.int .i64 o] w fun e w' => e = .returned (.bool (holdB 3 o)) ∧ w = w' := by
  go_enter Tryz.func82, Tryz.ntmps82
  go_wp2_with fail
  go_ret
  exact ⟨rfl, rfl⟩
theorem hold4c (o : Int) (a : Bool) (ha : (o == -1) = a) (w : World) : Calls Tryz.prog 83 #[.int .i64 o] w fun e w' => e = .returned (.bool (a || o == 0)) ∧ w = w' := by
  cases a
  all_goals
    go_enter Tryz.func83, Tryz.ntmps83
    go_wp2_with fail
    go_ret
    exact ⟨rfl, rfl⟩
theorem hold4 (o : Int) (w : World) : Calls Tryz.prog 83 #[.int .i64 o] w fun e w' => e = .returned (.bool (holdB 4 o)) ∧ w = w' := hold4c o _ rfl w
theorem hold5 (o : Int) (w : World) : Calls Tryz.prog 84 #[.int .i64 o] w fun e w' => e = .returned (.bool (holdB 5 o)) ∧ w = w' := by
  go_enter Tryz.func84, Tryz.ntmps84
  go_wp2_with fail
  go_ret
  exact ⟨rfl, rfl⟩
theorem hold6c (o : Int) (a : Bool) (ha : (o == 1) = a) (w : World) : Calls Tryz.prog 85 #[.int .i64 o] w fun e w' => e = .returned (.bool (a || o == 0)) ∧ w = w' := by
  cases a
  all_goals
    go_enter Tryz.func85, Tryz.ntmps85
    go_wp2_with fail
    go_ret
    exact ⟨rfl, rfl⟩
theorem hold6 (o : Int) (w : World) : Calls Tryz.prog 85 #[.int .i64 o] w fun e w' => e = .returned (.bool (holdB 6 o)) ∧ w = w' := hold6c o _ rfl w
end Go.Proofs.YtnjlcdemfdokoaaGreatDoor
