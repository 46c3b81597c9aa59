import Derived.Test.YtfhnjilflffdfaaEU
import Derived.Laws.StructEq
namespace Go.Proofs.Ytfhnjilflffdfaa
open Go Go.RowKit
set_option linter.unusedVariables false
theorem feq0 (f : Nat) (hf : f < 18446744073709551616) (d : Nat) (w : World) : (Op.equalIn (d + 1) 22 (.float .f64 f) (.float .f64 0)).run Try.prog w = .ok (decide (f = 0 ∨ f = 9223372036854775808)) w := by
  simp [Op.equalIn, run_underlying Try.underlying22]
  show (FloatKind.f64.format.order f 0 == some Ordering.eq) = _
  rw [Flt.ord_eq hf (by decide)]
  have k0 : Flt.key 0 = 0 := by decide
  have n0 : Flt.isNan 0 = false := by decide
  rw [k0, n0]
  unfold Flt.isNan Flt.key Flt.rung
  rw [Bool.eq_iff_iff]
  simp
  split <;> omega
theorem nothing_any (v : Vl) (hv : v.Ok) (w : World) : Calls Try.prog 30 #[.agg #[.int .i64 v.k, .int .i64 v.n, .float .f64 v.f, .string v.s]] w fun e w' => e = .returned (.bool v.nought) ∧ Below w.heap.size w w' := by
  have hq := feq0 v.f hv.f2
  have hz : v.nought = (v.k == 0 && (v.n == 0 && (decide (v.f = 0 ∨ v.f = 9223372036854775808) && (v.s.toList == [])))) := by
    unfold Vl.nought
    rw [Bool.eq_iff_iff]
    simp
  rw [hz]
  clear hz hv
  obtain ⟨k, n, f, s⟩ := v
  simp only at hq ⊢
  generalize decide (f = 0 ∨ f = 9223372036854775808) = bf at *
  generalize hk : (k == 0) = bk at *
  generalize hn : (n == 0) = bn at *
  generalize hs : (s.toList == []) = bs at *
  have c0 := below_a1 w (.cells #[.int .i64 k, .int .i64 n, .float .f64 f, .string s] 24)
  go_enter Try.func30, Try.ntmps30
  go_wp2_with fail
  all_goals
    go_ret
    exact ⟨by simp_all, c0⟩
end Go.Proofs.Ytfhnjilflffdfaa
