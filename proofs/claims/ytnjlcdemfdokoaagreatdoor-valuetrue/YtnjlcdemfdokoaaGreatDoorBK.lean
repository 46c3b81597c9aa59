import Derived.Test.YtnjlcdemfdokoaaGreatDoorBD
import Derived.ChangeKeysEq
namespace Go.Proofs.YtnjlcdemfdokoaaGreatDoor
open Go Go.RowKit
set_option linter.unusedVariables false
/-- an array of six numbers -/
def Got (w : World) (B : Nat) (h : Nat → Int) : Prop := ∀ i, i < 6 → w.cell? ⟨B, i, none⟩ = some (.int .i64 (h i)) ∧ w.frozen? ⟨B, i, none⟩ = false
theorem Got.below {w w' : World} {B : Nat} {h : Nat → Int} (g : Got w B h) (hb : Below w.heap.size w w') : Got w' B h := fun i hi =>
  have hl := Lib.lt_of_cell (g i hi).1
  ⟨later_cell (g i hi).1 ⟨w', hb⟩, (hb.frozen (p := ⟨B, i, none⟩) hl).trans (g i hi).2⟩
theorem Got.new (w : World) (t : TypeId) : Got (w.alloc (.cells #[.int .i64 0, .int .i64 0, .int .i64 0, .int .i64 0, .int .i64 0, .int .i64 0] t)) w.heap.size (fun _ => 0) := by
  intro i hi
  have e : i = 0 ∨ i = 1 ∨ i = 2 ∨ i = 3 ∨ i = 4 ∨ i = 5 := by omega
  rcases e with rfl | rfl | rfl | rfl | rfl | rfl <;> constructor <;> go_simp
theorem Got.set {w : World} {B : Nat} {h : Nat → Int} (g : Got w B h) (j : Nat) (hj : j < 6) (v : Int) : Got (w.setCell ⟨B, j, none⟩ (.int .i64 v)) B (fun i => if i = j then v else h i) := by
  intro i hi
  obtain ⟨h1, h2⟩ := g i hi
  obtain ⟨h3, h4⟩ := g j hj
  by_cases e : i = j
  · subst e
    refine ⟨?_, ?_⟩
    · go_simp
    · go_simp
  · refine ⟨?_, ?_⟩
    · go_simp
    · go_simp
theorem opsArr (j : Nat) (hj : j < 11) : (#[.string ⟨#[61]⟩, .string ⟨#[60, 62]⟩, .string ⟨#[60]⟩, .string ⟨#[60, 61]⟩, .string ⟨#[62]⟩, .string ⟨#[62, 61]⟩, .string ⟨#[43]⟩, .string ⟨#[45]⟩, .string ⟨#[42]⟩, .string ⟨#[47]⟩, .string ⟨#[]⟩] : Array Value)[j]? = some (.string (opAt j)) := by
  have e : j = 0 ∨ j = 1 ∨ j = 2 ∨ j = 3 ∨ j = 4 ∨ j = 5 ∨ j = 6 ∨ j = 7 ∨ j = 8 ∨ j = 9 ∨ j = 10 := by omega
  rcases e with rfl | rfl | rfl | rfl | rfl | rfl | rfl | rfl | rfl | rfl | rfl <;> simp [opAt, opsL]
theorem opsLst (j : Nat) (hj : j < 11) : ([.string ⟨#[61]⟩, .string ⟨#[60, 62]⟩, .string ⟨#[60]⟩, .string ⟨#[60, 61]⟩, .string ⟨#[62]⟩, .string ⟨#[62, 61]⟩, .string ⟨#[43]⟩, .string ⟨#[45]⟩, .string ⟨#[42]⟩, .string ⟨#[47]⟩, .string ⟨#[]⟩] : List Value)[j]? = some (.string (opAt j)) := by
  have e : j = 0 ∨ j = 1 ∨ j = 2 ∨ j = 3 ∨ j = 4 ∨ j = 5 ∨ j = 6 ∨ j = 7 ∨ j = 8 ∨ j = 9 ∨ j = 10 := by omega
  rcases e with rfl | rfl | rfl | rfl | rfl | rfl | rfl | rfl | rfl | rfl | rfl <;> simp [opAt, opsL]
theorem k8 {w0 w1 : World} {a b : Nat} {a0 a1 a2 a3 b0 b1 b2 b3 : Value}
    (h : (w0.cell? ⟨a, 0, none⟩ = some a0 ∧ w0.cell? ⟨a, 1, none⟩ = some a1 ∧ w0.cell? ⟨a, 2, none⟩ = some a2 ∧ w0.cell? ⟨a, 3, none⟩ = some a3) ∧ w0.cell? ⟨b, 0, none⟩ = some b0 ∧ w0.cell? ⟨b, 1, none⟩ = some b1 ∧ w0.cell? ⟨b, 2, none⟩ = some b2 ∧ w0.cell? ⟨b, 3, none⟩ = some b3) (hb : Below w0.heap.size w0 w1) :
    (w1.cell? ⟨a, 0, none⟩ = some a0 ∧ w1.cell? ⟨a, 1, none⟩ = some a1 ∧ w1.cell? ⟨a, 2, none⟩ = some a2 ∧ w1.cell? ⟨a, 3, none⟩ = some a3) ∧ w1.cell? ⟨b, 0, none⟩ = some b0 ∧ w1.cell? ⟨b, 1, none⟩ = some b1 ∧ w1.cell? ⟨b, 2, none⟩ = some b2 ∧ w1.cell? ⟨b, 3, none⟩ = some b3 := by
  obtain ⟨⟨h2, h3, h4, h5⟩, h6, h7, h8, h9⟩ := h
  exact ⟨⟨later_cell h2 ⟨w1, hb⟩, later_cell h3 ⟨w1, hb⟩, later_cell h4 ⟨w1, hb⟩, later_cell h5 ⟨w1, hb⟩⟩, later_cell h6 ⟨w1, hb⟩, later_cell h7 ⟨w1, hb⟩, later_cell h8 ⟨w1, hb⟩, later_cell h9 ⟨w1, hb⟩⟩
theorem eq_arr6 (w : World) : (Op.equalIn 10000 45 (.agg #[.int .i64 0, .int .i64 1, .int .i64 0, .int .i64 0, .int .i64 0, .int .i64 0]) (.agg #[.int .i64 0, .int .i64 1, .int .i64 0, .int .i64 0, .int .i64 0, .int .i64 0])).run Tryz.prog w = .ok true w := by
  have hc : Tryz.prog.cellsOf 2 = 1 := by kernel_rfl
  obtain ⟨i, hi, -, -, -⟩ := info_parts (show (Tryz.prog.info? 2).map (fun i => (i.zero, i.size, i.bytes)) = some (some (.int .i64 0), 1, 8) by kernel_rfl)
  rw [show (10000 : Nat) = 9999 + 1 from rfl, run_equalIn_array (P := Tryz.prog) w 9999 _ _ Tryz.underlying45 hi, hc]
  have e : List.range 6 = [0, 1, 2, 3, 4, 5] := by decide
  rw [e]
  simp only [Op.eqItems]
  go_simp
end Go.Proofs.YtnjlcdemfdokoaaGreatDoor
