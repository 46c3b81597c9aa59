import Derived.Test.YtainigcchlgehaaGreatDoorB8
namespace Go.Proofs.YtainigcchlgehaaGreatDoor
open Go Go.RowKit
set_option linter.unusedVariables false
theorem below_a3 (w : World) (o1 o2 o3 : Obj) : Below w.heap.size w (((w.alloc o1).alloc o2).alloc o3) := (below_a2 w o1 o2).alloc (by simp; omega) o3
theorem null3 (w : World) (o1 o2 : Obj) (v0 v1 v2 v3 : Value) : Lies (((w.alloc o1).alloc o2).alloc (.cells #[v0, v1, v2, v3] 41)) (w.heap.size + 1 + 1) v0 v1 v2 v3 := lies_at ((w.alloc o1).alloc o2) _ (by simp) v0 v1 v2 v3 _
theorem size3 (w : World) (o1 o2 o3 : Obj) : (((w.alloc o1).alloc o2).alloc o3).heap.size = w.heap.size + 1 + 1 + 1 := by simp
end Go.Proofs.YtainigcchlgehaaGreatDoor


