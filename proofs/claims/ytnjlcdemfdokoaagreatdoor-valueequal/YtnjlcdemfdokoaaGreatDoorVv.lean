import Derived.Test.YtnjlcdemfdokoaaGreatDoorVc
namespace Go.Proofs.YtnjlcdemfdokoaaGreatDoor
open Go Go.RowKit
set_option linter.unusedVariables false
theorem rr0 (n : Int) (f : Nat) (s : ByteArray) (p q z e : Bool) (hp : (n == 0) = p) (hq : (n == 1) = q) (hz : ((f : Int) == 0) = z) (he : s.toList.isEmpty = e) (w : World) :
    Calls Tryz.prog 17 #[.agg #[.int .i64 0, .int .i64 n, .float .f64 f, .string s]] w fun E w' => E = .returned (.bool (p && z && e)) ∧ Below w.heap.size w w' := by
  have he' : (s.toList == []) = e := by rw [← he]; cases s.toList <;> rfl
  have hz' : (f == 0) = z := by rw [← hz, Bool.eq_iff_iff]; simp
  have h2 := run_bits
  cases p <;> cases z <;> cases e
  all_goals
    go_enter Tryz.func17, Tryz.ntmps17
    go_wp2_with fail
    go_ret
    first | exact ⟨rfl, below_a1 _ _⟩ | (refine ⟨?_, below_a1 _ _⟩; simp)
theorem rr1 (n : Int) (f : Nat) (s : ByteArray) (p q z e : Bool) (hp : (n == 0) = p) (hq : (n == 1) = q) (hz : ((f : Int) == 0) = z) (he : s.toList.isEmpty = e) (w : World) :
    Calls Tryz.prog 17 #[.agg #[.int .i64 1, .int .i64 n, .float .f64 f, .string s]] w fun E w' => E = .returned (.bool ((p || q) && z && e)) ∧ Below w.heap.size w w' := by
  have he' : (s.toList == []) = e := by rw [← he]; cases s.toList <;> rfl
  have hz' : (f == 0) = z := by rw [← hz, Bool.eq_iff_iff]; simp
  have h2 := run_bits
  cases p <;> cases q <;> cases z <;> cases e
  all_goals
    go_enter Tryz.func17, Tryz.ntmps17
    go_wp2_with fail
    go_ret
    first | exact ⟨rfl, below_a1 _ _⟩ | (refine ⟨?_, below_a1 _ _⟩; simp)
theorem rr2 (n : Int) (f : Nat) (s : ByteArray) (p q z e : Bool) (hp : (n == 0) = p) (hq : (n == 1) = q) (hz : ((f : Int) == 0) = z) (he : s.toList.isEmpty = e) (w : World) :
    Calls Tryz.prog 17 #[.agg #[.int .i64 2, .int .i64 n, .float .f64 f, .string s]] w fun E w' => E = .returned (.bool (z && e)) ∧ Below w.heap.size w w' := by
  have he' : (s.toList == []) = e := by rw [← he]; cases s.toList <;> rfl
  have hz' : (f == 0) = z := by rw [← hz, Bool.eq_iff_iff]; simp
  have h2 := run_bits
  cases z <;> cases e
  all_goals
    go_enter Tryz.func17, Tryz.ntmps17
    go_wp2_with fail
    go_ret
    first | exact ⟨rfl, below_a1 _ _⟩ | (refine ⟨?_, below_a1 _ _⟩; simp)
theorem rr4 (n : Int) (f : Nat) (s : ByteArray) (p q z e : Bool) (hp : (n == 0) = p) (hq : (n == 1) = q) (hz : ((f : Int) == 0) = z) (he : s.toList.isEmpty = e) (w : World) :
    Calls Tryz.prog 17 #[.agg #[.int .i64 4, .int .i64 n, .float .f64 f, .string s]] w fun E w' => E = .returned (.bool (p && z)) ∧ Below w.heap.size w w' := by
  have he' : (s.toList == []) = e := by rw [← he]; cases s.toList <;> rfl
  have hz' : (f == 0) = z := by rw [← hz, Bool.eq_iff_iff]; simp
  have h2 := run_bits
  cases p <;> cases z
  all_goals
    go_enter Tryz.func17, Tryz.ntmps17
    go_wp2_with fail
    go_ret
    first | exact ⟨rfl, below_a1 _ _⟩ | (refine ⟨?_, below_a1 _ _⟩; simp)
theorem rr5 (k : Int) (n : Int) (f : Nat) (s : ByteArray) (p q z e : Bool) (hp : (n == 0) = p) (hq : (n == 1) = q) (hz : ((f : Int) == 0) = z) (he : s.toList.isEmpty = e) (h0 : (k == 0) = false) (h1 : (k == 1) = false) (h2 : (k == 2) = false) (h3 : (k == 3) = false) (h4 : (k == 4) = false) (w : World) :
    Calls Tryz.prog 17 #[.agg #[.int .i64 k, .int .i64 n, .float .f64 f, .string s]] w fun E w' => E = .returned (.bool (false)) ∧ Below w.heap.size w w' := by
  have he' : (s.toList == []) = e := by rw [← he]; cases s.toList <;> rfl
  have hz' : (f == 0) = z := by rw [← hz, Bool.eq_iff_iff]; simp
  have hrb := run_bits
  cases z
  all_goals
    go_enter Tryz.func17, Tryz.ntmps17
    go_wp2_with fail
    go_ret
    first | exact ⟨rfl, below_a1 _ _⟩ | (refine ⟨?_, below_a1 _ _⟩; simp)
theorem rr3 (n : Int) (f : Nat) (s : ByteArray) (p e c z : Bool) (hp : (n == 0) = p) (he : s.toList.isEmpty = e) (hc : ((Flt.canon f : Int) == (f : Int)) = c) (hz : ((f : Int) == 0) = z) (hf : f < 18446744073709551616) (w : World) :
    Calls Tryz.prog 17 #[.agg #[.int .i64 3, .int .i64 n, .float .f64 f, .string s]] w fun E w' => E = .returned (.bool (p && e && c)) ∧ Below w.heap.size w w' := by
  have he' : (s.toList == []) = e := by rw [← he]; cases s.toList <;> rfl
  have hz' : (f == 0) = z := by rw [← hz, Bool.eq_iff_iff]; simp
  have hc' : (Flt.canon f == f) = c := by rw [← hc, Bool.eq_iff_iff]; simp; omega
  have h2 := run_bits
  have C1 := rbits_any f hf
  have L := later4 w (.int .i64 3) (.int .i64 n) (.float .f64 f) (.string s) 28
  clear hf
  cases p <;> cases e <;> cases c <;> cases z
  all_goals
    go_enter Tryz.func17, Tryz.ntmps17
    go_wp2_with fail
    refine wp_region_later (by kernel_rfl) (by kernel_rfl) ?_
    repeat (go_big_quiet_step (first | with_reducible exact later_same (C1 _)))
    refine wpQuiet_nil ?_
    rintro w' ⟨x, rfl⟩
    go_wp2_with fail
    go_ret
    exact ⟨rfl, Below.chain (below_a1 _ _) x.kept⟩
theorem rright_any (k n : Int) (f : Nat) (hf : f < 18446744073709551616) (s : ByteArray) (w : World) :
    Calls Tryz.prog 17 #[.agg #[.int .i64 k, .int .i64 n, .float .f64 f, .string s]] w fun e w' => e = .returned (.bool (rightB k n f s)) ∧ Below w.heap.size w w' := by
  by_cases h0 : k = 0
  · subst h0
    refine (rr0 n f s _ _ _ _ rfl rfl rfl rfl w).mono fun e w' h => ret_bool' ?_ h
    rw [Bool.eq_iff_iff]; simp [rightB]; grind
  by_cases h1 : k = 1
  · subst h1
    refine (rr1 n f s _ _ _ _ rfl rfl rfl rfl w).mono fun e w' h => ret_bool' ?_ h
    rw [Bool.eq_iff_iff]; simp [rightB]; grind
  by_cases h2 : k = 2
  · subst h2
    refine (rr2 n f s _ _ _ _ rfl rfl rfl rfl w).mono fun e w' h => ret_bool' ?_ h
    rw [Bool.eq_iff_iff]; simp [rightB]
  by_cases h3 : k = 3
  · subst h3
    refine (rr3 n f s _ _ _ _ rfl rfl rfl rfl hf w).mono fun e w' h => ret_bool' ?_ h
    rw [Bool.eq_iff_iff]; simp [rightB]; grind
  by_cases h4 : k = 4
  · subst h4
    refine (rr4 n f s _ _ _ _ rfl rfl rfl rfl w).mono fun e w' h => ret_bool' ?_ h
    rw [Bool.eq_iff_iff]; simp [rightB]
  · refine (rr5 k n f s _ _ _ _ rfl rfl rfl rfl (by simpa using h0) (by simpa using h1) (by simpa using h2) (by simpa using h3) (by simpa using h4) w).mono fun e w' h => ret_bool' ?_ h
    simp [rightB, h0, h1, h2, h3, h4]
end Go.Proofs.YtnjlcdemfdokoaaGreatDoor
