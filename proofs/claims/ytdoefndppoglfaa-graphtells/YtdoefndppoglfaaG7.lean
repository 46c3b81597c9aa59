import Derived.Test.YtdoefndppoglfaaG6
import Derived.ProofKit
import Derived.OpenShut
import Derived.Carry
import Derived.ChangeSlices
import Derived.Lib.SmallJoins
import Derived.Laws.Cover2
import Derived.Deep.Slices
import Derived.WalkLawsBesides
namespace Go.Proofs.Ytdoefndppoglfaa
open Go Go.ChangeShapes Go.WideShapes Go.ChangeAt Go.RowKit
open Go.Joins
set_option linter.unusedVariables false
/-- is a direction among the directions? -/
def bitB (dir m : Int) : Bool := bits BinOp.and IntKind.i64 dir m != 0
/-- does an edge lead from a node to a node? -/
def leadsB (f t : Int) (d : Bool) (a b dir : Int) : Bool :=
  if d = true then (((f == a) && (t == b)) && bitB dir 4) || (((t == a) && (f == b)) && bitB dir 1) else (((f == a) && (t == b)) || ((t == a) && (f == b))) && bitB dir 2
set_option maxRecDepth 100000 in
set_option maxHeartbeats 4000000 in
theorem rleads_any (n : ByteArray) (f t : Int) (d : Bool) (l p : Sl) (a b dir : Int) (w : World) :
    Calls Try.prog 43 #[.agg #[.string n, .int .i64 f, .int .i64 t, .bool d, l.v, p.v], .int .i64 a, .int .i64 b, .int .i64 dir] w fun e w' => e = .returned (.bool (leadsB f t d a b dir)) ∧ Below w.heap.size w w' := by
  cases d
  all_goals
    go_enter Try.func43, Try.ntmps43
    go_wp2_with fail
    all_goals
      go_ret
      refine ⟨?_, below_a1 _ _⟩
      refine congrArg (fun q => Ending.returned (Value.bool q)) ?_
      simp_all [leadsB, bitB]
end Go.Proofs.Ytdoefndppoglfaa
