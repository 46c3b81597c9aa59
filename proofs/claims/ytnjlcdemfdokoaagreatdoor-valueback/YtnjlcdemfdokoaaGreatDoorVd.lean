import Derived.Test.YtnjlcdemfdokoaaGreatDoorVc
namespace Go.Proofs.YtnjlcdemfdokoaaGreatDoor
open Go Go.RowKit
theorem rsame_core (k n k' n' : Int) (f f' : Nat) (hf : f < 18446744073709551616) (hf' : f' < 18446744073709551616) (s s' : ByteArray) (a b c d : Bool) (ha : (k == k') = a) (hb : (n == n') = b) (hc : (s.toList == s'.toList) = c) (hd : ((Flt.canon f : Int) == (Flt.canon f' : Int)) = d) (w : World) :
    Calls Tryz.prog 19 #[.agg #[.int .i64 k, .int .i64 n, .float .f64 f, .string s], .agg #[.int .i64 k', .int .i64 n', .float .f64 f', .string s']] w fun e w' => e = .returned (.bool (a && b && c && d)) ∧ Below w.heap.size w w' := by
  have C1 := rbits_any f hf
  have C2 := rbits_any f' hf'
  have hd' : (Flt.canon f == Flt.canon f') = d := by rw [← hd, Bool.eq_iff_iff]; simp; omega
  have L : ∀ x : Later ((w.alloc (.cells #[.int .i64 k, .int .i64 n, .float .f64 f, .string s] 28)).alloc (.cells #[.int .i64 k', .int .i64 n', .float .f64 f', .string s'] 28)), _ := later8 w _ _ _ _ _ _ _ _ 28
  clear hf hf'
  cases a
  · go_enter Tryz.func19, Tryz.ntmps19
    go_wp2_with fail
    refine wp_region_later (by kernel_rfl) (by kernel_rfl) ?_
    repeat (go_big_quiet_step (first | with_reducible exact later_same (C1 _) | with_reducible exact later_same (C2 _)))
    refine wpQuiet_nil ?_
    rintro w' ⟨x, rfl⟩
    go_wp2_with fail
    go_ret
    exact ⟨rfl, Below.chain (below_a2 _ _ _) x.kept⟩
  cases b
  · go_enter Tryz.func19, Tryz.ntmps19
    go_wp2_with fail
    refine wp_region_later (by kernel_rfl) (by kernel_rfl) ?_
    repeat (go_big_quiet_step (first | with_reducible exact later_same (C1 _) | with_reducible exact later_same (C2 _)))
    refine wpQuiet_nil ?_
    rintro w' ⟨x, rfl⟩
    go_wp2_with fail
    go_ret
    exact ⟨rfl, Below.chain (below_a2 _ _ _) x.kept⟩
  cases c
  · go_enter Tryz.func19, Tryz.ntmps19
    go_wp2_with fail
    refine wp_region_later (by kernel_rfl) (by kernel_rfl) ?_
    repeat (go_big_quiet_step (first | with_reducible exact later_same (C1 _) | with_reducible exact later_same (C2 _)))
    refine wpQuiet_nil ?_
    rintro w' ⟨x, rfl⟩
    go_wp2_with fail
    go_ret
    exact ⟨rfl, Below.chain (below_a2 _ _ _) x.kept⟩
  · go_enter Tryz.func19, Tryz.ntmps19
    go_wp2_with fail
    refine wp_region_later (by kernel_rfl) (by kernel_rfl) ?_
    repeat (go_big_quiet_step (first | with_reducible exact later_same (C1 _) | with_reducible exact later_same (C2 _)))
    refine wpQuiet_nil ?_
    rintro w' ⟨x, rfl⟩
    go_wp2_with fail
    go_ret
    refine ⟨?_, Below.chain (below_a2 _ _ _) x.kept⟩
    simp
theorem rsame_any (k n k' n' : Int) (f f' : Nat) (hf : f < 18446744073709551616) (hf' : f' < 18446744073709551616) (s s' : ByteArray) (w : World) :
    Calls Tryz.prog 19 #[.agg #[.int .i64 k, .int .i64 n, .float .f64 f, .string s], .agg #[.int .i64 k', .int .i64 n', .float .f64 f', .string s']] w fun e w' => e = .returned (.bool (idB k n (Flt.canon f) s k' n' (Flt.canon f') s')) ∧ Below w.heap.size w w' := by
  refine (rsame_core k n k' n' f f' hf hf' s s' _ _ _ _ rfl rfl rfl rfl w).mono fun e w' h => ret_bool' ?_ h
  unfold idB
  rw [Bool.eq_iff_iff]; simp; grind
end Go.Proofs.YtnjlcdemfdokoaaGreatDoor
