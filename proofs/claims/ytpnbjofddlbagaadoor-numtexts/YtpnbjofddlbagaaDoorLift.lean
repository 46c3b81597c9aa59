import Derived.Test.YtpnbjofddlbagaaDoorWg
import Derived.Stop.LaidErr
import Derived.ProofKit
import Derived.LaidMore
import Derived.OpenShut
import Derived.Stop.Joined
namespace Go.Proofs.YtpnbjofddlbagaaDoor
open Go.ChangeShapes Go.WideShapes Go.ChangeAt Go.RowKit
set_option maxRecDepth 100000
/-- what the rows list -/
def listed : List (String × DataW Unit) := Rows.numOrdersRow.laid
theorem own : ownKnob Tryd.prog.godebug = none := by kernel_rfl
theorem g0 : Tryd.prog.globalNamed "math/bits.deBruijn64tab" = some 1 := by kernel_rfl
theorem g1 : Tryd.prog.globalNamed "internal/strconv.uint64pow10" = some 2 := by kernel_rfl
theorem g2 : Tryd.prog.globalNamed "strconv.ErrRange" = some 5 := by kernel_rfl
theorem g3 : Tryd.prog.globalNamed "strconv.ErrSyntax" = some 4 := by kernel_rfl
theorem gt0 : (Tryd.prog.globals[1]?).map (·.type) = some 79 := by kernel_rfl
theorem gt1 : (Tryd.prog.globals[2]?).map (·.type) = some 95 := by kernel_rfl
theorem gt2 : (Tryd.prog.globals[5]?).map (·.type) = some 69 := by kernel_rfl
theorem gt3 : (Tryd.prog.globals[4]?).map (·.type) = some 69 := by kernel_rfl
theorem c5 : Tryd.prog.cellsOf 5 = 1 := by kernel_rfl
theorem c79 : Tryd.prog.cellsOf 79 = 64 := by kernel_rfl
theorem c22 : Tryd.prog.cellsOf 22 = 1 := by kernel_rfl
theorem c95 : Tryd.prog.cellsOf 95 = 20 := by kernel_rfl
theorem c111 : Tryd.prog.cellsOf 111 = 1 := by kernel_rfl
theorem c9 : Tryd.prog.cellsOf 9 = 1 := by kernel_rfl
theorem star : "*" ++ "errors.errorString" = "*errors.errorString" := by decide
theorem row109 (u : TypeId) (h : Tryd.prog.typeName? 3 u = some "*errors.errorString") : u = 109 :=
  typeName_ptr_named (nm := "errors.errorString") (by rw [star]; kernel_rfl) (by kernel_rfl) (by decide) u (by rw [star]; exact h)
theorem of_laid {W : World} (h : laidMetH Tryd.prog listed W) : Tabs W := by
  rw [MakeChecks.laidMetH_plain _ _ _ (by kernel_rfl)] at h
  have h1 := h.tail
  have h2 := h1.tail
  have h3 := h2.tail
  have h4 := h3.tail
  have t1 := Lib.tabIs_of_head (zs := Lib.deBruijn64tab.map Int.ofNat) (k := .u8) g0 gt0 Tryd.underlying79 Tryd.underlying5 c5 c79 h1
  have t2 := Lib.tabIs_of_head (zs := Lib.pow10Tab) (k := .u64) g1 gt1 Tryd.underlying95 Tryd.underlying22 c22 c95 h2
  obtain ⟨a3, s3, hv3, _⟩ := laid_sentinel h3 g2 gt2 Tryd.underlying69 row109 Tryd.underlying109 Tryd.underlying111 rfl rfl Tryd.underlying9 c111 c9
  obtain ⟨a4, s4, hv4, _⟩ := laid_sentinel h4 g3 gt3 Tryd.underlying69 row109 Tryd.underlying109 Tryd.underlying111 rfl rfl Tryd.underlying9 c111 c9
  have h5 : W.cell? ⟨4, 0, none⟩ = some (.iface 109 (.pointer (some a4))) := by
    have := World.var?_cell g3 hv4 0
    simpa using this
  have h6 : W.cell? ⟨5, 0, none⟩ = some (.iface 109 (.pointer (some a3))) := by
    have := World.var?_cell g2 hv3 0
    simpa using this
  have h7 : TabAt 1 Lib.deBruijn64tab W := by
    intro j hj
    have := t1.cell g0 j (by simpa using hj)
    rw [this]
    congr 2
    simp [List.getD, List.getElem?_map, List.getElem?_eq_getElem hj]
  exact ⟨t2, h7, ⟨_, _, h5⟩, ⟨_, _, h6⟩⟩
theorem door_met (os : Os) (args : Array Value) : laidMetH Tryd.prog listed ((World.doorLaid Tryd.prog 400 os).forCall (fun _ _ => 0) ⟨#[], args, []⟩).memory :=
  laidMetH_of_parts3 (fuel := 8) (laidMet_of_run' 8 (by kernel_rfl) (by kernel_rfl)) (by kernel_rfl) (by kernel_rfl)
end Go.Proofs.YtpnbjofddlbagaaDoor
