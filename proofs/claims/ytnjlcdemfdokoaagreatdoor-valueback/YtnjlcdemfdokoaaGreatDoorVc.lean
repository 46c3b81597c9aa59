import Derived.Test.YtnjlcdemfdokoaaGreatDoorVb
import Derived.Deep.RegionWith
import Derived.BigRegion
namespace Go.Proofs.YtnjlcdemfdokoaaGreatDoor
open Go Go.RowKit
theorem same_any (k n k' n' : Int) (f f' : Nat) (hf : f < 18446744073709551616) (hf' : f' < 18446744073709551616) (s s' : ByteArray) (w : World) :
    Calls Tryz.prog 18 #[.agg #[.int .i64 k, .int .i64 n, .float .f64 f, .string s], .agg #[.int .i64 k', .int .i64 n', .float .f64 f', .string s']] w fun e w' => e = .returned (.bool (idB k n (Flt.canon f) s k' n' (Flt.canon f') s')) ∧ Below w.heap.size w w' := by
  have C1 := canon_any f hf
  have C2 := canon_any f' hf'
  have hsf := run_store_float
  clear hf hf'
  go_enter Tryz.func18, Tryz.ntmps18
  go_wp2_with fail
  go_region_with (first | (with_reducible refine (C1 _).mono ?_; rintro e w' ⟨rfl, rfl⟩) | (with_reducible refine (C2 _).mono ?_; rintro e w' ⟨rfl, rfl⟩))
  all_goals
    go_wp2_with fail
    refine (ident_any _ _ _ _ _ _ _ _ _).mono ?_
    rintro e w1 ⟨rfl, hb1⟩
    go_wp2_with fail
    go_ret
    exact ⟨rfl, Below.chain (below_a2 _ _ _).drew hb1⟩
end Go.Proofs.YtnjlcdemfdokoaaGreatDoor
