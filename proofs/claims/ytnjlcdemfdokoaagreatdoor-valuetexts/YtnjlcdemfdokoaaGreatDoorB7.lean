import Derived.Test.YtnjlcdemfdokoaaGreatDoorB5
import Derived.Test.YtnjlcdemfdokoaaGreatDoorB2
import Derived.Test.YtnjlcdemfdokoaaGreatDoorA3
namespace Go.Proofs.YtnjlcdemfdokoaaGreatDoor
open Go Go.RowKit
set_option linter.unusedVariables false
theorem rnull_any (w : World) : Calls Tryz.prog 52 #[] w fun e w' => e = .returned (.agg #[.int .i64 0, .int .i64 0, .float .f64 0, .string ⟨#[]⟩]) ∧ Below w.heap.size w w' := by
  have hsf := run_store_float
  go_enter Tryz.func52, Tryz.ntmps52
  go_wp2_with fail
  refine ret_v rfl rfl rfl (lies_new _ _ _ _ _ _) ?_
  exact ⟨rfl, below_a1 _ _⟩
theorem rtruth_any (b : Bool) (w : World) : Calls Tryz.prog 55 #[.bool b] w fun e w' => e = .returned (.agg #[.int .i64 1, .int .i64 (b01 b), .float .f64 0, .string ⟨#[]⟩]) ∧ Below w.heap.size w w' := by
  have hsf := run_store_float
  cases b
  all_goals
    go_enter Tryz.func55, Tryz.ntmps55
    go_wp2_with fail
    refine ret_v rfl rfl rfl (lies_new _ _ _ _ _ _) ?_
    exact ⟨rfl, below_a1 _ _⟩
theorem rnum_core (k n : Int) (f : Nat) (s : ByteArray) (a b : Bool) (ha : (k == 2) = a) (hb : (k == 3) = b) (w : World) :
    Calls Tryz.prog 53 #[.agg #[.int .i64 k, .int .i64 n, .float .f64 f, .string s]] w fun e w' => e = .returned (.bool (a || b)) ∧ Below w.heap.size w w' := by
  cases a
  all_goals
    go_enter Tryz.func53, Tryz.ntmps53
    go_wp2_with fail
    go_ret
    exact ⟨rfl, below_a1 _ _⟩
theorem rnum_any (k n : Int) (f : Nat) (s : ByteArray) (w : World) :
    Calls Tryz.prog 53 #[.agg #[.int .i64 k, .int .i64 n, .float .f64 f, .string s]] w fun e w' => e = .returned (.bool (numB k)) ∧ Below w.heap.size w w' := rnum_core k n f s _ _ rfl rfl w
theorem rless_t (n n' : Int) (f f' : Nat) (s s' : ByteArray) (k' : Int) (a b : Bool) (ha : Op.bytesLess s.toList s'.toList = a) (hb : (s.toList == s'.toList) = b) (w : World) :
    Calls Tryz.prog 54 #[.agg #[.int .i64 4, .int .i64 n, .float .f64 f, .string s], .agg #[.int .i64 k', .int .i64 n', .float .f64 f', .string s']] w fun e w' => e = .returned (.tuple #[.bool a, .bool b, .bool true]) ∧ Below w.heap.size w w' := by
  go_enter Tryz.func54, Tryz.ntmps54
  go_wp2_with fail
  go_quiet (fail)
  go_wp2_with fail
  go_ret3
  exact ⟨rfl, below_drewN (below_a2 _ _ _) _⟩
theorem rless_if (n n' : Int) (f f' : Nat) (s s' : ByteArray) (c : Int) (ok : Bool) (C1 : ∀ w, Calls Tryz.prog 88 #[.int .i64 n, .float .f64 f'] w fun e w' => e = .returned (.tuple #[.int .i64 c, .bool ok]) ∧ w = w') (w : World) :
    Calls Tryz.prog 54 #[.agg #[.int .i64 2, .int .i64 n, .float .f64 f, .string s], .agg #[.int .i64 3, .int .i64 n', .float .f64 f', .string s']] w fun e w' => e = .returned (.tuple #[.bool (decide (c < 0)), .bool (c == 0), .bool ok]) ∧ Below w.heap.size w w' := by
  go_enter Tryz.func54, Tryz.ntmps54
  go_wp2_with (refine (C1 _).mono ?_; rintro e w' ⟨rfl, rfl⟩)
  go_ret3
  exact ⟨rfl, below_a2 _ _ _⟩
theorem rless_fi (n n' : Int) (f f' : Nat) (s s' : ByteArray) (c : Int) (ok : Bool) (C1 : ∀ w, Calls Tryz.prog 88 #[.int .i64 n', .float .f64 f] w fun e w' => e = .returned (.tuple #[.int .i64 c, .bool ok]) ∧ w = w') (w : World) :
    Calls Tryz.prog 54 #[.agg #[.int .i64 3, .int .i64 n, .float .f64 f, .string s], .agg #[.int .i64 2, .int .i64 n', .float .f64 f', .string s']] w fun e w' => e = .returned (.tuple #[.bool (decide (0 < c)), .bool (c == 0), .bool ok]) ∧ Below w.heap.size w w' := by
  go_enter Tryz.func54, Tryz.ntmps54
  go_wp2_with (refine (C1 _).mono ?_; rintro e w' ⟨rfl, rfl⟩)
  go_ret3
  exact ⟨rfl, below_a2 _ _ _⟩
theorem rless_nn (k k' n n' : Int) (f f' : Nat) (s s' : ByteArray) (h4 : (k == 4) = false) (h3 : (k == 3) = false) (h3' : (k' == 3) = false) (w : World) :
    Calls Tryz.prog 54 #[.agg #[.int .i64 k, .int .i64 n, .float .f64 f, .string s], .agg #[.int .i64 k', .int .i64 n', .float .f64 f', .string s']] w fun e w' => e = .returned (.tuple #[.bool (decide (n < n')), .bool (n == n'), .bool true]) ∧ Below w.heap.size w w' := by
  cases h2 : (k == 2)
  all_goals
    go_enter Tryz.func54, Tryz.ntmps54
    go_wp2_with fail
    go_quiet (fail)
    go_wp2_with fail
    go_ret3
    exact ⟨rfl, below_drewN (below_a2 _ _ _) _⟩
end Go.Proofs.YtnjlcdemfdokoaaGreatDoor
namespace Go.Proofs.YtnjlcdemfdokoaaGreatDoor
open Go Go.RowKit
set_option linter.unusedVariables false
set_option maxHeartbeats 8000000 in
theorem rless_ff (n n' : Int) (f f' : Nat) (s s' : ByteArray) (o1 o2 zx zy c1 c2 : Bool) (C : Int) (x y : Nat) (hx : (IntKind.u64.wrap ((x : Int) * 2) == 0) = zx) (hy : (IntKind.u64.wrap ((y : Int) * 2) == 0) = zy) (h1 : decide (C < 0) = c1) (h2 : (C == 0) = c2) (N1 : ∀ w, Calls Tryz.prog 73 #[.float .f64 f] w fun e w' => e = .returned (.bool o1) ∧ w = w') (N2 : ∀ w, Calls Tryz.prog 73 #[.float .f64 f'] w fun e w' => e = .returned (.bool o2) ∧ w = w')
    (C1 : ∀ w, Calls Tryz.prog 48 #[.float .f64 f, .float .f64 f'] w fun e w' => e = .returned (.int .i64 C) ∧ w = w') (B1 : ∀ w, Calls Tryz.prog 41 #[.float .f64 f] w fun e w' => e = .returned (.int .u64 (x : Int)) ∧ w = w') (B2 : ∀ w, Calls Tryz.prog 41 #[.float .f64 f'] w fun e w' => e = .returned (.int .u64 (y : Int)) ∧ w = w') (w : World) :
    Calls Tryz.prog 54 #[.agg #[.int .i64 3, .int .i64 n, .float .f64 f, .string s], .agg #[.int .i64 3, .int .i64 n', .float .f64 f', .string s']] w fun e w' => e = .returned (.tuple #[.bool (c1 && !(zx && zy)), .bool (c2 || (zx && zy)), .bool (!o1 && !o2)]) ∧ Below w.heap.size w w' := by
  cases zx <;> cases zy <;> cases c1 <;> cases c2 <;> cases o1
  all_goals
    go_enter Tryz.func54, Tryz.ntmps54
    go_wp2_with (first | ((with_reducible refine (N1 _).mono ?_); rintro e w' ⟨rfl, rfl⟩) | ((with_reducible refine (N2 _).mono ?_); rintro e w' ⟨rfl, rfl⟩) | ((with_reducible refine (C1 _).mono ?_); rintro e w' ⟨rfl, rfl⟩) | ((with_reducible refine (B1 _).mono ?_); rintro e w' ⟨rfl, rfl⟩) | ((with_reducible refine (B2 _).mono ?_); rintro e w' ⟨rfl, rfl⟩))
    go_ret3
    first | exact ⟨rfl, below_a2 _ _ _⟩ | (refine ⟨?_, below_a2 _ _ _⟩; simp)
end Go.Proofs.YtnjlcdemfdokoaaGreatDoor
