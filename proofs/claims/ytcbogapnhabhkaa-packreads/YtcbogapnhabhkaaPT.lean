import Derived.Test.YtcbogapnhabhkaaPS
import Derived.Deep.RegionLaw
namespace Go.Proofs.Ytcbogapnhabhkaa
open Go Go.RowKit
set_option linter.unusedVariables false
theorem step_append_bs {w : World} {ops : Array Oper} {o : Oper} {a : Act} {K : Act → World → Prop} {Q : Exit → Act → World → Prop} {E : Prop} (hgd : o.guard = none) (s x : Operand)
    (ho : o.op = .call { callee := .builtin .append, args := #[s, x], argTypes := #[22, 22] }) {base n : Nat} {v vx : Value} {l m : List UInt8} (hs : a.eval s = v) (hx : a.eval x = vx)
    (h : Own w base v l) (hm : Bs n w vx m) (hlen : l.length + m.length ≤ 1000000) (hbase : base ≤ w.heap.size)
    (hk : ∀ v' w', Own w' base v' (l ++ m) → w.grownBy w' v.ownBlock → K (a.put o.dst v') w') : if Region.wanted o (yielded ops a.tmps) = true then Oper.wp Try.prog o a w K Q else E := by
  have hw : Region.wanted o (yielded ops a.tmps) = true := by simp [Region.wanted, hgd]
  rw [if_pos hw]
  obtain ⟨v', w', hr, h1, h2⟩ := run_append_bs o.type h hm hlen hbase
  exact Lib.wp_append_run w s x 22 22 ho v vx hs hx v' w' hr (hk v' w' h1 h2)
end Go.Proofs.Ytcbogapnhabhkaa
