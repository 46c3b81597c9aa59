import Derived.Test.YtnjlcdemfdokoaaGreatDoorLift
import Derived.Lib.SmallJoins
namespace Go.Proofs.YtnjlcdemfdokoaaGreatDoor
open Go.ChangeShapes Go.WideShapes Go.ChangeAt Go.RowKit
open Go.Joins
set_option linter.unusedVariables false
section
variable {H : Type} {enc : TypeId × Value → H} {w : World} {base : Nat} {spare : Nat → Bool} {held : Bool}
set_option maxRecDepth 100000 in
theorem open_raw {r : Reach} {b0 : Nat} {v : Value} {d : DataW H} {p : List MemPlace} (hv : Value.okWide Tryz.prog w r b0 24 v) (h : DataW.Trod enc Tryz.prog w base spare held 24 v d p) :
    ∃ (k n b : Int) (s : ByteArray), v = .agg #[.int .i64 k, .int .i64 n, .int .u64 b, .string s] ∧ d = .agg [.lit (.int .i64 k), .lit (.int .i64 n), .lit (.int .u64 b), .lit (.string s.data.toList)] ∧ p = [] ∧ (Lit.int .i64 k).wf = true ∧ (Lit.int .i64 n).wf = true ∧ (Lit.int .u64 b).wf = true ∧ s.size ≤ maxLen := by
  obtain ⟨v0, v1, v2, v3, y0, y1, y2, y3, m, rfl, rfl, rfl, h0, h1, h2, h3⟩ := open_agg4 Tryz.underlying24 (by kernel_rfl) (by kernel_rfl) hv h
  obtain ⟨k, e0, rfl, w0⟩ := DataW.trod_int Tryz.underlying3 h0
  obtain ⟨n, e1, rfl, w1⟩ := DataW.trod_int Tryz.underlying2 h1
  obtain ⟨b, e2, rfl, w2⟩ := DataW.trod_int Tryz.underlying22 h2
  obtain ⟨s, e3, rfl, w3⟩ := DataW.trod_string Tryz.underlying9 h3
  simp only [List.cons.injEq, and_true] at e0 e1 e2 e3
  subst e0 e1 e2 e3
  exact ⟨k, n, b, s, rfl, rfl, rfl, w0, w1, w2, w3⟩
set_option maxRecDepth 100000 in
theorem shut_raw {k n b : Int} {s : ByteArray} (w0 : (Lit.int .i64 k).wf = true) (w1 : (Lit.int .i64 n).wf = true) (w2 : (Lit.int .u64 b).wf = true) (w3 : s.size ≤ maxLen) :
    DataW.Trod enc Tryz.prog w base spare held 24 (.agg #[.int .i64 k, .int .i64 n, .int .u64 b, .string s]) (.agg [.lit (.int .i64 k), .lit (.int .i64 n), .lit (.int .u64 b), .lit (.string s.data.toList)]) [] :=
  shut_agg4 (y0 := (.lit (.int .i64 k), [])) (y1 := (.lit (.int .i64 n), [])) (y2 := (.lit (.int .u64 b), [])) (y3 := (.lit (.string s.data.toList), [])) Tryz.underlying24 (by kernel_rfl) (by kernel_rfl)
    (shut_int Tryz.underlying3 w0) (shut_int Tryz.underlying2 w1) (shut_int Tryz.underlying22 w2) (ChangeMaps.shut_string Tryz.underlying9 w3)
end
end Go.Proofs.YtnjlcdemfdokoaaGreatDoor
