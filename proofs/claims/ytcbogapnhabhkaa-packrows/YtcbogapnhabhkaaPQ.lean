import Derived.Test.YtcbogapnhabhkaaPP
import Derived.Deep.RegionWith
import Derived.Deep.CutRange
import Derived.Deep.DeepCutAuto
import Derived.Deep.DeepFit
import Derived.Deep.Light
namespace Go.Proofs.Ytcbogapnhabhkaa
open Go Go.RowKit
set_option linter.unusedVariables false
theorem get_parts (l : List UInt8) : ∃ (n K : Nat) (ok : Bool), getT (numR l) l.length = .tuple #[.int .u64 n, .int .i64 K, .bool ok] ∧ n < 18446744073709551616 ∧ K ≤ l.length ∧ (ok = true → l.take K = numB n) := by
  cases h : numR l with
  | none => exact ⟨0, 0, false, rfl, by omega, by omega, fun h => by cases h⟩
  | some q =>
    obtain ⟨n, r⟩ := q
    obtain ⟨hn, hl⟩ := numR_back h
    refine ⟨n, (numB n).length, true, ?_, hn, by rw [hl]; simp, fun _ => by rw [hl]; exact List.take_left⟩
    simp only [getT]
    have : l.length = (numB n).length + r.length := by rw [hl, List.length_append]
    have e : (l.length : Int) - (r.length : Int) = ((numB n).length : Int) := by omega
    rw [e]
theorem text_parts (l : List UInt8) : ∃ (s : List UInt8) (K : Nat) (ok : Bool), textT (textR l) l.length = .tuple #[.string ⟨s.toArray⟩, .int .i64 K, .bool ok] ∧ s.length ≤ l.length ∧ K ≤ l.length ∧ (ok = true → l.take K = textB s) := by
  cases h : textR l with
  | none => exact ⟨[], 0, false, rfl, by simp, by omega, fun h => by cases h⟩
  | some q =>
    obtain ⟨s, r⟩ := q
    obtain ⟨hn, hl⟩ := textR_back h
    refine ⟨s, (textB s).length, true, ?_, by rw [hl]; simp [textB]; omega, by rw [hl]; simp, fun _ => by rw [hl]; exact List.take_left⟩
    simp only [textT]
    have : l.length = (textB s).length + r.length := by rw [hl, List.length_append]
    have e : (l.length : Int) - (r.length : Int) = ((textB s).length : Int) := by omega
    rw [e]
theorem row_ge (x : V4) (hx : RV x) : x.s.length ≤ x.row.length := by
  obtain ⟨hr, -⟩ := hx
  obtain ⟨k, n, f, s⟩ := x
  have hsn : (⟨s.toArray⟩ : ByteArray).toList = s := by rw [Lib.toList_data]
  simp only [V4.row] at *
  by_cases h4 : k = 4
  · subst h4; simp [rowV, textB]; omega
  · have : s = [] := by
      unfold rightB at hr
      repeat' split at hr
      all_goals simp [hsn] at hr
      all_goals first | exact hr.2.2 | exact hr.2 | contradiction
    rw [this]; simp
theorem val_parts (l : List UInt8) : ∃ (k n : Int) (f : Nat) (s : List UInt8) (K : Nat) (ok : Bool), valT (valR l) l.length = .tuple #[.agg #[.int .i64 k, .int .i64 n, .float .f64 f, .string ⟨s.toArray⟩], .int .i64 K, .bool ok] ∧ s.length ≤ l.length ∧ K ≤ l.length ∧
    (ok = true → RV ⟨k, n, f, s⟩ ∧ l.take K = rowV k n f s) ∧ (ok = false → K = 0 ∧ k = 0) ∧ f < 18446744073709551616 ∧ -9223372036854775808 ≤ n ∧ n ≤ 9223372036854775807 := by
  cases h : valR l with
  | none => exact ⟨0, 0, 0, [], 0, false, rfl, by simp, by omega, fun h => (by cases h), fun _ => ⟨rfl, rfl⟩, by omega, by omega, by omega⟩
  | some q =>
    obtain ⟨x, r⟩ := q
    obtain ⟨hn, hl⟩ := valR_back h
    have hge := row_ge x hn
    refine ⟨x.k, x.n, x.f, x.s, x.row.length, true, ?_, by rw [hl]; simp; omega, by rw [hl]; simp, fun _ => ⟨hn, by rw [hl]; exact List.take_left⟩, fun h => (by cases h), hn.f, hn.n1, hn.n2⟩
    simp only [valT]
    have : l.length = x.row.length + r.length := by rw [hl, List.length_append]
    have e : (l.length : Int) - (r.length : Int) = (x.row.length : Int) := by omega
    rw [e]
end Go.Proofs.Ytcbogapnhabhkaa
