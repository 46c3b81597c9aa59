import Derived.Test.YtfhnjilflffdfaaEX
namespace Go.Proofs.Ytfhnjilflffdfaa
open Go Go.ChangeShapes Go.WideShapes Go.ChangeAt Go.RowKit
open Go.Joins
set_option linter.unusedVariables false
section
variable {H : Type} {enc : TypeId × Value → H} {w : World} {base : Nat} {spare : Nat → Bool} {held : Bool}
theorem laid_out : laidOutB Try.prog = true := by kernel_rfl
set_option maxRecDepth 100000 in
/-- an expression that came in, by its own cells -/
theorem open_ex' {r : Reach} {b0 : Nat} {v : Value} {d : DataW H} {p : List MemPlace} (hv : Value.okWide Try.prog w r b0 27 v) (h : DataW.Trod enc Try.prog w base spare held 27 v d p) :
    ∃ t x, v = xv x ∧ Tx w t x := by
  obtain ⟨t, cs, rfl, ht⟩ := open_ex hv h
  obtain ⟨x, hx⟩ := ht.shape
  refine ⟨t, x, ?_, by unfold Tx; rw [← hx]; exact ht⟩
  obtain ⟨l⟩ := cs
  have e : l = encX.enc x := hx
  rw [e]
  rfl
set_option maxRecDepth 100000 in
theorem open_val {r : Reach} {b0 : Nat} {v : Value} {d : DataW H} {p : List MemPlace} (hv : Value.okWide Try.prog w r b0 24 v) (h : DataW.Trod enc Try.prog w base spare held 24 v d p) :
    ∃ (k n : Int) (b : Nat) (s : ByteArray), v = .agg #[.int .i64 k, .int .i64 n, .float .f64 b, .string s] ∧ d = .agg [.lit (.int .i64 k), .lit (.int .i64 n), .lit (.float .f64 b), .lit (.string s.data.toList)] ∧ p = [] ∧ Vl.Ok ⟨k, n, b, s⟩ := by
  obtain ⟨v0, v1, v2, v3, y0, y1, y2, y3, m, rfl, rfl, rfl, h0, h1, h2, h3⟩ := open_agg4 Try.underlying24 (by kernel_rfl) (by kernel_rfl) hv h
  obtain ⟨k, e0, rfl, w0⟩ := DataW.trod_int Try.underlying3 h0
  obtain ⟨n, e1, rfl, w1⟩ := DataW.trod_int Try.underlying2 h1
  obtain ⟨b, e2, rfl, w2⟩ := trod_flt Try.underlying22 h2
  obtain ⟨s, e3, rfl, w3⟩ := DataW.trod_string Try.underlying9 h3
  simp only [List.cons.injEq, and_true] at e0 e1 e2 e3
  subst e0 e1 e2 e3
  exact ⟨k, n, b, s, rfl, rfl, rfl, wf_ok w1 w2⟩
end
end Go.Proofs.Ytfhnjilflffdfaa
