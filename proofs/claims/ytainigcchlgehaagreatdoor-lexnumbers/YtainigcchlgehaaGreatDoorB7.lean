import Derived.Test.YtainigcchlgehaaGreatDoorB5
import Derived.Test.YtainigcchlgehaaGreatDoorB2
import Derived.Test.YtainigcchlgehaaGreatDoorA3
namespace Go.Proofs.YtainigcchlgehaaGreatDoor
open Go Go.RowKit
set_option linter.unusedVariables false
theorem rnull_any (w : World) : Calls Tryz.prog 56 #[] w fun e w' => e = .returned (.agg #[.int .i64 0, .int .i64 0, .float .f64 0, .string ⟨#[]⟩]) ∧ Below w.heap.size w w' := by
  have hsf := run_store_float
  go_enter Tryz.func56, Tryz.ntmps56
  go_wp2_with fail
  refine ret_v rfl rfl rfl (lies_new _ _ _ _ _ _) ?_
  exact ⟨rfl, below_a1 _ _⟩
theorem rtruth_any (b : Bool) (w : World) : Calls Tryz.prog 15 #[.bool b] w fun e w' => e = .returned (.agg #[.int .i64 1, .int .i64 (b01 b), .float .f64 0, .string ⟨#[]⟩]) ∧ Below w.heap.size w w' := by
  have hsf := run_store_float
  cases b
  all_goals
    go_enter Tryz.func15, Tryz.ntmps15
    go_wp2_with fail
    refine ret_v rfl rfl rfl (lies_new _ _ _ _ _ _) ?_
    exact ⟨rfl, below_a1 _ _⟩
end Go.Proofs.YtainigcchlgehaaGreatDoor
namespace Go.Proofs.YtainigcchlgehaaGreatDoor
open Go Go.RowKit
set_option linter.unusedVariables false
end Go.Proofs.YtainigcchlgehaaGreatDoor


