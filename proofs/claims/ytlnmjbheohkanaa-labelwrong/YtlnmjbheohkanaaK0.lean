import Derived.Test.YtlnmjbheohkanaaBits
import Derived.Test.YtlnmjbheohkanaaRows
import Derived.BigQuiet
import Derived.BigRegion
import Derived.ChangeAlike
import Derived.Deep.QuietTactic
import Derived.Deep.RegionHeld3
import Derived.Deep.RegionWith
import Derived.Laws.BytesArg
import Derived.Laws.Externs
import Derived.Laws.FloatArith
import Derived.Lib.Hide
import Derived.Lib.Small
import Derived.Lib.Strings
import Derived.RegionTactic
import Derived.StillTailTactics
import Derived.WalkKit
import Derived.WalkLawsBesides
import Derived.WalkSpells
import Derived.Laws.Tables
import Derived.Deep.Cut
import Derived.Deep.LoopGhost
namespace Go.Proofs.Ytlnmjbheohkanaa
open Go
set_option linter.unusedVariables false
namespace Flt
theorem ord_eq {a b : Nat} (ha : a < 18446744073709551616) (hb : b < 18446744073709551616) : (FloatKind.f64.format.order a b == some Ordering.eq) = (!isNan a && !isNan b && decide (key a = key b)) := by
  show (Ieee.double.order a b == some Ordering.eq) = _
  cases h : isNan a
  · cases h' : isNan b
    · rw [order_eq ha hb h h']
      by_cases h1 : key a < key b
      · rw [if_pos h1]; simp; omega
      · rw [if_neg h1]
        by_cases h2 : key a = key b <;> simp [h2]
    · rw [order_nan_r hb h']; rfl
  · rw [order_nan_l ha h]; rfl
end Flt
end Go.Proofs.Ytlnmjbheohkanaa
namespace Go.Proofs.Ytlnmjbheohkanaa
open Go Go.RowKit
set_option linter.unusedVariables false
theorem Below.chain {w w' w'' : World} (h : Below w.heap.size w w') (k : Below w'.heap.size w' w'') : Below w.heap.size w w'' := h.trans (k.mono h.size)
theorem below_drewN {n : Nat} {w w' : World} (h : Below n w w') (k : Nat) : Below n w (w'.drewN k) := by
  induction k with
  | zero => exact h
  | succ k ih => exact ih.drew
theorem below_a1 (w : World) (o : Obj) : Below w.heap.size w (w.alloc o) := (Below.refl _ _).alloc (Nat.le_refl _) o
theorem below_a2 (w : World) (o p : Obj) : Below w.heap.size w ((w.alloc o).alloc p) := (below_a1 w o).alloc (by simp) p
theorem run_store_float (a : Addr) (m : Mode) (k : FloatKind) (n : Nat) (w : World) : (store a (.float k n) m).run Try.prog w = stored Try.prog w a (.float k n) m := run_store Try.prog w a _ m rfl
/-- the four cells of a value -/
def Lies (w : World) (b : Nat) (v0 v1 v2 v3 : Value) : Prop := w.cell? ⟨b, 0, none⟩ = some v0 ∧ w.cell? ⟨b, 1, none⟩ = some v1 ∧ w.cell? ⟨b, 2, none⟩ = some v2 ∧ w.cell? ⟨b, 3, none⟩ = some v3
theorem lies_new (w : World) (a b c d : Value) (t : TypeId) : Lies (w.alloc (.cells #[a, b, c, d] t)) w.heap.size a b c d := ⟨by simp, by simp, by simp, by simp⟩
theorem Lies.below {w w' : World} {b : Nat} {v0 v1 v2 v3 : Value} (h : Lies w b v0 v1 v2 v3) (hb : Below w.heap.size w w') : Lies w' b v0 v1 v2 v3 :=
  ⟨(hb.cell (block_lt_of_cell h.1)).trans h.1, (hb.cell (block_lt_of_cell h.2.1)).trans h.2.1, (hb.cell (block_lt_of_cell h.2.2.1)).trans h.2.2.1, (hb.cell (block_lt_of_cell h.2.2.2)).trans h.2.2.2⟩
theorem Lies.alloc {w : World} {b : Nat} {v0 v1 v2 v3 : Value} (h : Lies w b v0 v1 v2 v3) (o : Obj) : Lies (w.alloc o) b v0 v1 v2 v3 := h.below (below_a1 _ _)
theorem Lies.drewN {w : World} {b : Nat} {v0 v1 v2 v3 : Value} (h : Lies w b v0 v1 v2 v3) (n : Nat) : Lies (w.drewN n) b v0 v1 v2 v3 := h.below (below_drewN (Below.refl _ _) n)
theorem load4 {w : World} {b : Nat} {v0 v1 v2 v3 : Value} (h : Lies w b v0 v1 v2 v3) : (loadVar 25 ⟨b, 0, none⟩).run Try.prog w = .ok (.agg #[v0, v1, v2, v3]) w := by
  obtain ⟨h0, h1, h2, h3⟩ := h
  go_simp
theorem ret_v {fn : Func} {p : Tmp} {R : Ending → World → Prop} {a : Act} {w : World} {b : Nat} {v0 v1 v2 v3 : Value} (h : fn.results = #[.cell p 25]) (hp : a.tmps.getD p undef = .pointer (some ⟨b, 0, none⟩)) (hd : a.defers = [])
    (hc : Lies w b v0 v1 v2 v3) (hR : R (.returned (.agg #[v0, v1, v2, v3])) w) : bodyPost Try.prog fn R .ret a w := by
  refine bodyPost_ret ?_ hd hR
  have hp' : a.tmps[p]?.getD undef = .pointer (some ⟨b, 0, none⟩) := by simpa using hp
  simp [results, h, hp', asAddr, load4 hc]
theorem nil_list : (⟨#[]⟩ : ByteArray).toList = [] := by rw [Lib.toList_data]
theorem ret_bool' {a b : Bool} (h : a = b) {w w' : World} {e : Ending} (he : e = .returned (.bool a) ∧ Below w.heap.size w w') : e = .returned (.bool b) ∧ Below w.heap.size w w' := h ▸ he
theorem wp_region_tail {P : Program} {id : Nat} {Q : Exit → Act → World → Prop} {a : Act} {w : World} {l : List Oper} (n : Nat) (hm : P.follows .mixedOrders = true) (hB : Region.lexTailB .any l.toArray n = true)
    (h : wpStill P l.toArray w.drew (fun a' => wpList P l.toArray Q (l.drop n) a' w.drew) (l.take n) a) : (Code.region id l.toArray true).wp P Q a w := wp_region_still_tail n hm hB h
theorem lies_at (w : World) (g : Nat) (hg : g = w.heap.size) (a b c d : Value) (t : TypeId) : Lies (w.alloc (.cells #[a, b, c, d] t)) g a b c d := by subst hg; exact lies_new w a b c d t
theorem Lies.drew {w : World} {b : Nat} {v0 v1 v2 v3 : Value} (h : Lies w b v0 v1 v2 v3) : Lies w.drew b v0 v1 v2 v3 := h.drewN 1
theorem bytes_eq {s : ByteArray} {l : List UInt8} (h : s.data.toList = l) : s = ⟨l.toArray⟩ := by
  subst h; simp
theorem bcell {W w1 : World} (hb : Below W.heap.size W w1) : (∀ b o, b < W.heap.size → w1.cell? ⟨b, o, none⟩ = W.cell? ⟨b, o, none⟩) ∧ (∀ b o, b < W.heap.size → w1.frozen? ⟨b, o, none⟩ = W.frozen? ⟨b, o, none⟩) :=
  ⟨fun b o h => hb.cell (p := ⟨b, o, none⟩) h, fun b o h => hb.frozen (p := ⟨b, o, none⟩) h⟩
theorem Lies.set {w : World} {b : Nat} {u0 u1 u2 u3 : Value} (h : Lies w b u0 u1 u2 u3) (v0 v1 v2 v3 : Value) :
    Lies ((((w.setCell ⟨b, 0, none⟩ v0).setCell ⟨b, 1, none⟩ v1).setCell ⟨b, 2, none⟩ v2).setCell ⟨b, 3, none⟩ v3) b v0 v1 v2 v3 := by
  obtain ⟨h0, h1, h2, h3⟩ := h
  refine ⟨?_, ?_, ?_, ?_⟩ <;> go_simp
theorem below_set4 {n : Nat} {w w' : World} {b : Nat} (h : Below n w w') (hb : n ≤ b) (v0 v1 v2 v3 : Value) :
    Below n w ((((w'.setCell ⟨b, 0, none⟩ v0).setCell ⟨b, 1, none⟩ v1).setCell ⟨b, 2, none⟩ v2).setCell ⟨b, 3, none⟩ v3) := (((h.setCell hb _).setCell hb _).setCell hb _).setCell hb _
theorem str_of {s : ByteArray} {l : List UInt8} (h : s.toList = l) : s = ⟨l.toArray⟩ := bytes_eq (by rw [← Lib.toList_data]; exact h)
end Go.Proofs.Ytlnmjbheohkanaa
