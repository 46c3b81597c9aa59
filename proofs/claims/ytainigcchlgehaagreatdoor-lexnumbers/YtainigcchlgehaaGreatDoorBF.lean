import Derived.Test.YtainigcchlgehaaGreatDoorB9
import Derived.Test.YtainigcchlgehaaGreatDoorB3
namespace Go.Proofs.YtainigcchlgehaaGreatDoor
open Go Go.RowKit
set_option linter.unusedVariables false
/-- v, and whether it has room -/
def IntRetB (v : Int) (w : World) (e : Ending) (w' : World) : Prop := ∃ N, e = .returned (.tuple #[.int .i64 N, .bool (roomB v)]) ∧ (roomB v = true → N = v) ∧ Below w.heap.size w w'
theorem intRetB_mk {v N : Int} {b : Bool} {w w' : World} (h1 : b = roomB v) (h2 : roomB v = true → N = v) (hb : Below w.heap.size w w') : IntRetB v w (.returned (.tuple #[.int .i64 N, .bool b])) w' := ⟨N, by rw [h1], h2, hb⟩
theorem wrap64_eq (x : Int) : wrap64 x = (x + 9223372036854775808) % 18446744073709551616 - 9223372036854775808 := by simp only [wrap64]
theorem wrap64_bd (x : Int) : -9223372036854775808 ≤ wrap64 x ∧ wrap64 x ≤ 9223372036854775807 ∧ ∃ q, wrap64 x = x - q * 18446744073709551616 := by
  rw [wrap64_eq]
  refine ⟨by omega, by omega, (x + 9223372036854775808) / 18446744073709551616, by omega⟩
theorem room_iff (v : Int) : roomB v = true ↔ wrap64 v = v := by
  unfold roomB; rw [decide_eq_true_iff, wrap64_eq]; omega
/-- a product is known by the quotient -/
theorem quo_room (a b : Int) (b0 : b ≠ 0) (b1 : -9223372036854775808 ≤ b) (b2 : b ≤ 9223372036854775807) : (wrap64 (a * b)).tdiv b = a ↔ roomB (a * b) = true := by
  rw [room_iff]
  constructor
  · intro h
    have hd := Int.tmod_add_mul_tdiv (wrap64 (a * b)) b
    rw [h] at hd
    obtain ⟨w1, w2, q, hq⟩ := wrap64_bd (a * b)
    have hl : ((wrap64 (a * b)).tmod b).natAbs < b.natAbs := by
      have := Int.natAbs_tmod (wrap64 (a * b)) b
      rw [this]
      exact Nat.mod_lt _ (by omega)
    have hc : b * a = a * b := Int.mul_comm _ _
    rw [hc] at hd
    generalize a * b = P at *
    generalize wrap64 P = W at *
    generalize W.tmod b = T at *
    omega
  · intro h
    rw [h]
    exact Int.mul_tdiv_cancel _ b0
/-- a step of floats, wherever it runs -/
theorem far (op : BinOp) (ho : op = .add ∨ op = .sub ∨ op = .mul) (x y : Nat) (w : World) : ∃ r w', (binOp op 39 (.float .f64 x) (.float .f64 y)).run Tryz.prog w = .ok (.float .f64 r) w' ∧ Flt.canon r = arC op x y ∧ r < 18446744073709551616 ∧ Below w.heap.size w w' := by
  unfold arC
  cases h : floatBits op .f64 x y with
  | some r =>
    have := floatBits_wf h
    exact ⟨r, w, run_float_arith (P := Tryz.prog) w op _ .f64 x y r h, rfl, by simpa [Lit.wf] using this, Below.refl _ _⟩
  | none =>
    obtain ⟨r, ⟨h1, h2⟩, h3⟩ := run_float_none op 39 x y ho h w
    exact ⟨r, w.drew, h3, Flt.canon_nan h1, h2, (Below.refl _ _).drew⟩
theorem canon2 (r : Nat) : Flt.canon (Flt.canon r) = Flt.canon r := by
  cases hn : Flt.isNan r
  · rw [Flt.canon_num hn, Flt.canon_num hn]
  · rw [Flt.canon_nan hn, Flt.canon_nan (by decide)]
theorem arC_lt (op : BinOp) (x y : Nat) : arC op x y < 18446744073709551616 ∧ Flt.canon (arC op x y) = arC op x y := by
  unfold arC
  cases h : floatBits op .f64 x y with
  | some r =>
    have := floatBits_wf h
    exact ⟨Flt.canon_lt (by simpa [Lit.wf] using this), canon2 r⟩
  | none => exact ⟨by decide, Flt.canon_nan (by decide)⟩
end Go.Proofs.YtainigcchlgehaaGreatDoor


