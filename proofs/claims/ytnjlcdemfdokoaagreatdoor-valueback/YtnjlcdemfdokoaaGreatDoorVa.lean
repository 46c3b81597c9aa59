import Derived.Test.YtnjlcdemfdokoaaGreatDoorWm
import Derived.Test.YtnjlcdemfdokoaaGreatDoorShelfB
import Derived.Deep.QuietTactic
import Derived.BigQuiet
import Derived.StillTailTactics
namespace Go.Proofs.YtnjlcdemfdokoaaGreatDoor
open Go Go.RowKit
/-- a value of package api, as the machine holds it -/
abbrev av (k n : Int) (f : Nat) (s : ByteArray) : Value := .agg #[.int .i64 k, .int .i64 n, .float .f64 f, .string s]
theorem below_drewN {n : Nat} {w w' : World} (h : Below n w w') (k : Nat) : Below n w (w'.drewN k) := by
  induction k with
  | zero => exact h
  | succ k ih => exact ih.drew
theorem below_a1 (w : World) (o : Obj) : Below w.heap.size w (w.alloc o) := (Below.refl _ _).alloc (Nat.le_refl _) o
theorem below_a2 (w : World) (o p : Obj) : Below w.heap.size w ((w.alloc o).alloc p) := (below_a1 w o).alloc (by simp) p

theorem ident_core (k n k' n' : Int) (f f' : Nat) (s s' : ByteArray) (a b c d : Bool) (ha : (k == k') = a) (hb : (n == n') = b) (hc : ((f : Int) == (f' : Int)) = c) (hd : (s.toList == s'.toList) = d) (w : World) :
    Calls Tryz.prog 35 #[.agg #[.int .i64 k, .int .i64 n, .float .f64 f, .string s], .agg #[.int .i64 k', .int .i64 n', .float .f64 f', .string s']] w fun e w' => e = .returned (.bool (a && b && c && d)) ∧ Below w.heap.size w w' := by
  have h2 := run_bits
  have hc' : (f == f') = c := by rw [← hc, Bool.eq_iff_iff]; simp; omega
  cases a
  · go_enter Tryz.func35, Tryz.ntmps35
    go_wp2_with fail
    go_quiet (fail)
    go_wp2_with fail
    go_ret
    exact ⟨rfl, below_drewN (below_a2 _ _ _) _⟩
  cases b
  · go_enter Tryz.func35, Tryz.ntmps35
    go_wp2_with fail
    go_quiet (fail)
    go_wp2_with fail
    go_ret
    exact ⟨rfl, below_drewN (below_a2 _ _ _) _⟩
  cases c
  · go_enter Tryz.func35, Tryz.ntmps35
    go_wp2_with fail
    go_quiet (fail)
    go_wp2_with fail
    go_ret
    exact ⟨rfl, below_drewN (below_a2 _ _ _) _⟩
  · go_enter Tryz.func35, Tryz.ntmps35
    go_wp2_with fail
    go_quiet (fail)
    go_wp2_with fail
    go_ret
    refine ⟨?_, below_drewN (below_a2 _ _ _) _⟩
    simp
/-- the same, field by field -/
def idB (k n : Int) (f : Nat) (s : ByteArray) (k' n' : Int) (f' : Nat) (s' : ByteArray) : Bool := (k == k') && (n == n') && (f == f') && (s.toList == s'.toList)
theorem ident_any (k n k' n' : Int) (f f' : Nat) (s s' : ByteArray) (w : World) :
    Calls Tryz.prog 35 #[.agg #[.int .i64 k, .int .i64 n, .float .f64 f, .string s], .agg #[.int .i64 k', .int .i64 n', .float .f64 f', .string s']] w fun e w' => e = .returned (.bool (idB k n f s k' n' f' s')) ∧ Below w.heap.size w w' := by
  have h := ident_core k n k' n' f f' s s' _ _ _ _ rfl rfl rfl rfl w
  have hc' : ((f : Int) == (f' : Int)) = (f == f') := by rw [Bool.eq_iff_iff]; simp; omega
  rw [hc'] at h
  exact h
end Go.Proofs.YtnjlcdemfdokoaaGreatDoor
