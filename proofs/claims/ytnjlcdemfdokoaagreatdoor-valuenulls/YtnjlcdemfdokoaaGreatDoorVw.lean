import Derived.Test.YtnjlcdemfdokoaaGreatDoorVs
import Derived.Deep.DeepCutAuto
import Derived.Deep.RegionHeld3
namespace Go.Proofs.YtnjlcdemfdokoaaGreatDoor
open Go Go.RowKit
set_option linter.unusedVariables false
/-- the operators, and what is none -/
def opsL : List ByteArray := [⟨#[61]⟩, ⟨#[60, 62]⟩, ⟨#[60]⟩, ⟨#[60, 61]⟩, ⟨#[62]⟩, ⟨#[62, 61]⟩, ⟨#[43]⟩, ⟨#[45]⟩, ⟨#[42]⟩, ⟨#[47]⟩, ⟨#[]⟩]
def opAt (j : Nat) : ByteArray := opsL.getD j ⟨#[]⟩
theorem opsCell (w : World) (j : Nat) (hj : j < 11) : (w.alloc (.cells #[.string ⟨#[61]⟩, .string ⟨#[60, 62]⟩, .string ⟨#[60]⟩, .string ⟨#[60, 61]⟩, .string ⟨#[62]⟩, .string ⟨#[62, 61]⟩, .string ⟨#[43]⟩, .string ⟨#[45]⟩, .string ⟨#[42]⟩, .string ⟨#[47]⟩, .string ⟨#[]⟩] 9)).cell? ⟨w.heap.size, j, none⟩ = some (.string (opAt j)) := by
  have e : j = 0 ∨ j = 1 ∨ j = 2 ∨ j = 3 ∨ j = 4 ∨ j = 5 ∨ j = 6 ∨ j = 7 ∨ j = 8 ∨ j = 9 ∨ j = 10 := by omega
  rcases e with rfl | rfl | rfl | rfl | rfl | rfl | rfl | rfl | rfl | rfl | rfl <;> simp [opAt, opsL]
theorem ops_any (w : World) : Calls Tryz.prog 22 #[] w fun e w' => e = .returned (.slice (some ⟨w.heap.size, 0, none⟩) 11 11) ∧ w.alloc (.cells #[.string ⟨#[61]⟩, .string ⟨#[60, 62]⟩, .string ⟨#[60]⟩, .string ⟨#[60, 61]⟩, .string ⟨#[62]⟩, .string ⟨#[62, 61]⟩, .string ⟨#[43]⟩, .string ⟨#[45]⟩, .string ⟨#[42]⟩, .string ⟨#[47]⟩, .string ⟨#[]⟩] 9) = w' := by
  go_enter Tryz.func22, Tryz.ntmps22
  go_wp2_with fail
  go_ret
  exact ⟨rfl, rfl⟩
/-- none of its four cells is shut -/
def Free (w : World) (b : Nat) : Prop := w.frozen? ⟨b, 0, none⟩ = false ∧ w.frozen? ⟨b, 1, none⟩ = false ∧ w.frozen? ⟨b, 2, none⟩ = false ∧ w.frozen? ⟨b, 3, none⟩ = false
theorem free_new (w : World) (a b c d : Value) (t : TypeId) : Free (w.alloc (.cells #[a, b, c, d] t)) w.heap.size := by
  refine ⟨?_, ?_, ?_, ?_⟩ <;> go_simp
theorem Free.below {w w' : World} {b : Nat} {v0 v1 v2 v3 : Value} (h : Free w b) (hl : Lies w b v0 v1 v2 v3) (hb : Below w.heap.size w w') : Free w' b :=
  have hlt := Lib.lt_of_cell hl.1
  ⟨(hb.frozen (p := ⟨b, 0, none⟩) hlt).trans h.1, (hb.frozen (p := ⟨b, 1, none⟩) hlt).trans h.2.1, (hb.frozen (p := ⟨b, 2, none⟩) hlt).trans h.2.2.1, (hb.frozen (p := ⟨b, 3, none⟩) hlt).trans h.2.2.2⟩
theorem Free.drew {w : World} {b : Nat} (h : Free w b) : Free w.drew b := h
theorem Free.set {w : World} {b c : Nat} {v0 v1 v2 v3 : Value} (h : Free w b) : Free ((((w.setCell ⟨c, 0, none⟩ v0).setCell ⟨c, 1, none⟩ v1).setCell ⟨c, 2, none⟩ v2).setCell ⟨c, 3, none⟩ v3) b := by
  obtain ⟨h0, h1, h2, h3⟩ := h
  refine ⟨?_, ?_, ?_, ?_⟩ <;> go_simp
theorem Lies.setfar {w : World} {b c : Nat} {u0 u1 u2 u3 v0 v1 v2 v3 : Value} (h : Lies w b u0 u1 u2 u3) (hn : c ≠ b) : Lies ((((w.setCell ⟨c, 0, none⟩ v0).setCell ⟨c, 1, none⟩ v1).setCell ⟨c, 2, none⟩ v2).setCell ⟨c, 3, none⟩ v3) b u0 u1 u2 u3 :=
  ⟨Go.Proofs.YtnjlcdemfdokoaaGreatDoor.setfar hn h.1, Go.Proofs.YtnjlcdemfdokoaaGreatDoor.setfar hn h.2.1, Go.Proofs.YtnjlcdemfdokoaaGreatDoor.setfar hn h.2.2.1, Go.Proofs.YtnjlcdemfdokoaaGreatDoor.setfar hn h.2.2.2⟩
theorem k5 {w0 w1 : World} {a b j : Nat} {o a0 a1 a2 a3 : Value} (h : w0.cell? ⟨b, j, none⟩ = some o ∧ w0.cell? ⟨a, 0, none⟩ = some a0 ∧ w0.cell? ⟨a, 1, none⟩ = some a1 ∧ w0.cell? ⟨a, 2, none⟩ = some a2 ∧ w0.cell? ⟨a, 3, none⟩ = some a3) (hb : Below w0.heap.size w0 w1) :
    w1.cell? ⟨b, j, none⟩ = some o ∧ w1.cell? ⟨a, 0, none⟩ = some a0 ∧ w1.cell? ⟨a, 1, none⟩ = some a1 ∧ w1.cell? ⟨a, 2, none⟩ = some a2 ∧ w1.cell? ⟨a, 3, none⟩ = some a3 := by
  obtain ⟨h1, h2, h3, h4, h5⟩ := h
  exact ⟨later_cell h1 ⟨w1, hb⟩, later_cell h2 ⟨w1, hb⟩, later_cell h3 ⟨w1, hb⟩, later_cell h4 ⟨w1, hb⟩, later_cell h5 ⟨w1, hb⟩⟩
end Go.Proofs.YtnjlcdemfdokoaaGreatDoor
