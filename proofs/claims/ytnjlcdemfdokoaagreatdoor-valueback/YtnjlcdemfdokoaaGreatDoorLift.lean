import Derived.Test.YtnjlcdemfdokoaaGreatDoorWg
import Derived.Stop.LaidErr
import Derived.ProofKit
import Derived.LaidMore
import Derived.OpenShut
import Derived.Stop.Joined
namespace Go.Proofs.YtnjlcdemfdokoaaGreatDoor
open Go.ChangeShapes Go.WideShapes Go.ChangeAt Go.RowKit
set_option maxRecDepth 100000
/-- what the rows list -/
def listed : List (String × DataW Unit) := Rows.valueTellsRow.laid
theorem own : ownKnob Tryz.prog.godebug = none := by kernel_rfl
theorem g0 : Tryz.prog.globalNamed "math/bits.deBruijn64tab" = some 2 := by kernel_rfl
theorem g1 : Tryz.prog.globalNamed "internal/strconv.uint64pow10" = some 1 := by kernel_rfl
theorem g2 : Tryz.prog.globalNamed "strconv.ErrRange" = some 4 := by kernel_rfl
theorem g3 : Tryz.prog.globalNamed "strconv.ErrSyntax" = some 3 := by kernel_rfl
theorem gt0 : (Tryz.prog.globals[2]?).map (·.type) = some 147 := by kernel_rfl
theorem gt1 : (Tryz.prog.globals[1]?).map (·.type) = some 143 := by kernel_rfl
theorem gt2 : (Tryz.prog.globals[4]?).map (·.type) = some 109 := by kernel_rfl
theorem gt3 : (Tryz.prog.globals[3]?).map (·.type) = some 109 := by kernel_rfl
theorem c5 : Tryz.prog.cellsOf 5 = 1 := by kernel_rfl
theorem c79 : Tryz.prog.cellsOf 147 = 64 := by kernel_rfl
theorem c22 : Tryz.prog.cellsOf 22 = 1 := by kernel_rfl
theorem c95 : Tryz.prog.cellsOf 143 = 20 := by kernel_rfl
theorem c111 : Tryz.prog.cellsOf 169 = 1 := by kernel_rfl
theorem c9 : Tryz.prog.cellsOf 9 = 1 := by kernel_rfl
theorem star : "*" ++ "errors.errorString" = "*errors.errorString" := by decide
theorem row109 (u : TypeId) (h : Tryz.prog.typeName? 3 u = some "*errors.errorString") : u = 167 :=
  typeName_ptr_named (nm := "errors.errorString") (by rw [star]; kernel_rfl) (by kernel_rfl) (by decide) u (by rw [star]; exact h)
theorem of_laid {W : World} (h : laidMetH Tryz.prog listed W) : Tabs W := by
  rw [MakeChecks.laidMetH_plain _ _ _ (by kernel_rfl)] at h
  have h1 := h.tail
  have h2 := h1.tail
  have h3 := h2.tail
  have h4 := h3.tail
  have t1 := Lib.tabIs_of_head (zs := Lib.deBruijn64tab.map Int.ofNat) (k := .u8) g0 gt0 Tryz.underlying147 Tryz.underlying5 c5 c79 h1
  have t2 := Lib.tabIs_of_head (zs := Lib.pow10Tab) (k := .u64) g1 gt1 Tryz.underlying143 Tryz.underlying22 c22 c95 h2
  obtain ⟨a3, s3, hv3, _⟩ := laid_sentinel h3 g2 gt2 Tryz.underlying109 row109 Tryz.underlying167 Tryz.underlying169 rfl rfl Tryz.underlying9 c111 c9
  obtain ⟨a4, s4, hv4, _⟩ := laid_sentinel h4 g3 gt3 Tryz.underlying109 row109 Tryz.underlying167 Tryz.underlying169 rfl rfl Tryz.underlying9 c111 c9
  have h5 : W.cell? ⟨3, 0, none⟩ = some (.iface 167 (.pointer (some a4))) := by
    have := World.var?_cell g3 hv4 0
    simpa using this
  have h6 : W.cell? ⟨4, 0, none⟩ = some (.iface 167 (.pointer (some a3))) := by
    have := World.var?_cell g2 hv3 0
    simpa using this
  have h7 : TabAt 2 Lib.deBruijn64tab W := by
    intro j hj
    have := t1.cell g0 j (by simpa using hj)
    rw [this]
    congr 2
    simp [List.getD, List.getElem?_map, List.getElem?_eq_getElem hj]
  exact ⟨t2, h7, ⟨_, _, h5⟩, ⟨_, _, h6⟩⟩
theorem door_met (os : Os) (args : Array Value) : laidMetH Tryz.prog listed ((World.doorLaid Tryz.prog 400 os).forCall (fun _ _ => 0) ⟨#[], args, []⟩).memory :=
  laidMetH_of_parts3 (fuel := 8) (laidMet_of_run' 8 (by kernel_rfl) (by kernel_rfl)) (by kernel_rfl) (by kernel_rfl)
end Go.Proofs.YtnjlcdemfdokoaaGreatDoor
