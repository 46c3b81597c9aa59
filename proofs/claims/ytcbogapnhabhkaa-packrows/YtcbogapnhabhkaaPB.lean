import Derived.Test.YtcbogapnhabhkaaPA
import Derived.Test.YtcbogapnhabhkaaPM
import Derived.OwnWalk
import Derived.Laws.OwnMore
import Derived.Laws.IdiomStrings
import Derived.Lib.AppendZeros
import Derived.DataElems
namespace Go.Proofs.Ytcbogapnhabhkaa
open Go Go.RowKit
set_option linter.unusedVariables false
/-- bytes, as the machine's cells hold them -/
def u8s (l : List UInt8) : List Value := l.map fun c => .int .u8 (c.toNat : Int)
/-- a slice of bytes that the call itself made, from block 'base' on -/
def Own (w : World) (base : Nat) (v : Value) (l : List UInt8) : Prop := w.ownsRow base 5 1 v l.length (u8s l)
/-- a slice of bytes that lies somewhere below block n -/
def Bs (n : Nat) (w : World) (v : Value) (l : List UInt8) : Prop :=
  ∃ ao cap, v = .slice ao l.length cap ∧ l.length ≤ cap ∧ cap ≤ maxLen ∧ (ao = none → cap = 0) ∧ ∀ j u, l[j]? = some u → ∃ a, ao = some a ∧ a.block < n ∧ w.cell? (a.add j) = some (.int .u8 (u.toNat : Int))
theorem add_block (a : Addr) (j : Nat) : (a.add j).block = a.block := by unfold Addr.add; split <;> rfl
theorem Bs.below {n : Nat} {w w' : World} {v : Value} {l : List UInt8} (h : Bs n w v l) (hb : Below n w w') : Bs n w' v l := by
  obtain ⟨ao, cap, h1, h2, h3, h4, h5⟩ := h
  refine ⟨ao, cap, h1, h2, h3, h4, fun j u hj => ?_⟩
  obtain ⟨a, ha, hl, hc⟩ := h5 j u hj
  exact ⟨a, ha, hl, (hb.cell (by rw [add_block]; exact hl)).trans hc⟩
theorem Bs.grown {n p : Nat} {w w' : World} {v : Value} {l : List UInt8} (h : Bs n w v l) (hb : w.grownBy w' (some p)) (hp : n ≤ p) : Bs n w' v l := by
  obtain ⟨ao, cap, h1, h2, h3, h4, h5⟩ := h
  refine ⟨ao, cap, h1, h2, h3, h4, fun j u hj => ?_⟩
  obtain ⟨a, ha, hl, hc⟩ := h5 j u hj
  exact ⟨a, ha, hl, hb.cell hc (by rw [add_block]; simp; omega)⟩
theorem Bs.mono {n m : Nat} {w : World} {v : Value} {l : List UInt8} (h : Bs n w v l) (hm : n ≤ m) : Bs m w v l := by
  obtain ⟨ao, cap, h1, h2, h3, h4, h5⟩ := h
  exact ⟨ao, cap, h1, h2, h3, h4, fun j u hj => let ⟨a, ha, hl, hc⟩ := h5 j u hj; ⟨a, ha, by omega, hc⟩⟩
theorem Bs.nil (n : Nat) (w : World) : Bs n w (.slice none 0 0) [] := ⟨none, 0, rfl, Nat.le_refl _, by simp [maxLen], fun _ => rfl, fun j u h => by simp at h⟩
theorem Bs.size {n : Nat} {w : World} {v : Value} {l : List UInt8} (h : Bs n w v l) : Bs w.heap.size w v l := by
  obtain ⟨ao, cap, h1, h2, h3, h4, h5⟩ := h
  exact ⟨ao, cap, h1, h2, h3, h4, fun j u hj => let ⟨a, ha, hl, hc⟩ := h5 j u hj; ⟨a, ha, by have := block_lt_of_cell hc; rwa [add_block] at this, hc⟩⟩
theorem u8s_get (l : List UInt8) (j : Nat) : (u8s l)[j]? = (l[j]?).map fun c => .int .u8 (c.toNat : Int) := by simp [u8s]
theorem u8s_len (l : List UInt8) : (u8s l).length = l.length := by simp [u8s]
theorem u8s_app (l m : List UInt8) : u8s (l ++ m) = u8s l ++ u8s m := by simp [u8s]
theorem u8s_one (l : List UInt8) : ∀ u ∈ u8s l, u.oneCell' = true := by
  intro u hu; simp only [u8s, List.mem_map] at hu; obtain ⟨c, _, rfl⟩ := hu; rfl
theorem Own.bs {w : World} {base : Nat} {v : Value} {l : List UInt8} (h : Own w base v l) : Bs w.heap.size w v l := by
  rcases h.2 with ⟨rfl, hn⟩ | ⟨g, cap, cur, rfl, hb, hg, hnc, hcm, hcs, htake⟩
  · have : l = [] := List.eq_nil_of_length_eq_zero hn
    subst this; exact Bs.nil _ _
  · refine ⟨some ⟨g, 0, none⟩, cap, rfl, hnc, hcm, fun h => (by cases h), fun j u hj => ⟨_, rfl, (Array.getElem?_eq_some_iff.1 hg).1, ?_⟩⟩
    exact h.cells (g := g) rfl j _ (by rw [u8s_get, hj]; rfl)
theorem Own.below {w w' : World} {base : Nat} {v : Value} {l : List UInt8} (h : Own w base v l) (hb : Below w.heap.size w w') : Own w' base v l := by
  refine ⟨h.1, ?_⟩
  rcases h.2 with h0 | ⟨g, cap, cur, rfl, hbg, hg, rest⟩
  · exact .inl h0
  · exact .inr ⟨g, cap, cur, rfl, hbg, (hb.block g (Array.getElem?_eq_some_iff.1 hg).1).trans hg, rest⟩
theorem Own.lit (w : World) (base : Nat) (l : List UInt8) (hb : base ≤ w.heap.size) (hl : l.length ≤ 1000000) (cs : Array Value) (hcs : cs.toList = u8s l) :
    Own (w.alloc (.cells cs 5)) base (.slice (some ⟨w.heap.size, 0, none⟩) l.length l.length) l := by
  have := World.ownsRow_lit (base := base) (e := 5) (size := 1) w cs l.length hb (by simp only [maxLen]; omega) (by rw [← Array.length_toList, hcs, u8s_len]; simp)
  rw [hcs] at this; exact this
theorem Own.len {w : World} {base : Nat} {v : Value} {l : List UInt8} (h : Own w base v l) : ∃ ao cap, v = .slice ao l.length cap := let ⟨ao, cap, h1, _⟩ := h.bs; ⟨ao, cap, h1⟩
theorem info5 : (Try.prog.info? 5).map (fun i => (i.zero, i.size, i.bytes)) = some (some (.int .u8 0), 1, 1) := by kernel_rfl
/-- append of bytes to bytes of the call's own -/
theorem run_append_bs {w : World} {base n : Nat} {v x : Value} {l m : List UInt8} (ty : TypeId) (h : Own w base v l) (hx : Bs n w x m) (hlen : l.length + m.length ≤ 1000000) (hbase : base ≤ w.heap.size) :
    ∃ v' w', (Builtin.append_ #[22, 22] ty #[v, x]).run Try.prog w = .ok v' w' ∧ Own w' base v' (l ++ m) ∧ w.grownBy w' v.ownBlock := by
  obtain ⟨i, hi, hz, hs, hby⟩ := info_parts info5
  obtain ⟨ao, cap, rfl, h2, h3, h4, h5⟩ := hx
  cases ao with
  | none =>
    have hc := h4 rfl
    have hm : m = [] := List.eq_nil_of_length_eq_zero (by omega)
    subst hm
    subst hc
    have hr := run_append_owned_none (P := Try.prog) w base 22 ty 5 i 1 Try.underlying22 hi v l.length (u8s l) h
    exact ⟨v, w, hr, by rw [List.append_nil]; exact h, ⟨rfl, rfl, rfl, Nat.le_refl _, fun _ _ _ => rfl⟩⟩
  | some a =>
    obtain ⟨v', w', hr, ho, hg, _⟩ := run_append_own (P := Try.prog) w base 22 ty 5 i (.int .u8 0) 1 1 Try.underlying22 hi hz hs hby rfl (by decide) v l.length (u8s l) h a m.length cap (u8s m)
      (by rw [u8s_len]; simp) (fun j u hu => by
        rw [u8s_get] at hu
        cases hj : m[j]? with
        | none => rw [hj] at hu; cases hu
        | some c =>
          rw [hj] at hu
          obtain ⟨a', ha, _, hc⟩ := h5 j c hj
          cases ha
          simp only [Option.map_some, Option.some.injEq] at hu
          rw [← hu]; exact hc) (u8s_one m) (by simp only [maxLen]; omega) (by omega) hbase
    refine ⟨v', w', hr, ?_, hg⟩
    unfold Own
    rw [List.length_append, u8s_app]; exact ho
theorem wpList_append_bs {w : World} {ops : Array Oper} {rest : List Oper} {o : Oper} {a : Act} {Q : Exit → Act → World → Prop} (hgd : o.guard = none) (s x : Operand)
    (ho : o.op = .call { callee := .builtin .append, args := #[s, x], argTypes := #[22, 22] }) {base n : Nat} {v vx : Value} {l m : List UInt8} (hs : a.eval s = v) (hx : a.eval x = vx)
    (h : Own w base v l) (hm : Bs n w vx m) (hlen : l.length + m.length ≤ 1000000) (hbase : base ≤ w.heap.size)
    (hk : ∀ v' w', Own w' base v' (l ++ m) → w.grownBy w' v.ownBlock → wpList Try.prog ops Q rest (a.put o.dst v') w') : wpList Try.prog ops Q (o :: rest) a w := by
  obtain ⟨v', w', hr, h1, h2⟩ := run_append_bs o.type h hm hlen hbase
  exact Lib.wpList_append_run w hgd s x 22 22 ho v vx hs hx v' w' hr (hk v' w' h1 h2)
theorem Own.lenEq {w : World} {base : Nat} {l : List UInt8} {ao : Option Addr} {n cap : Nat} (h : Own w base (.slice ao n cap) l) : n = l.length := by
  obtain ⟨ao', cap', he, _⟩ := h.bs
  cases he; rfl
theorem Own.stored {w : World} {base g n cap : Nat} {l : List UInt8} (h : Own w base (.slice (some ⟨g, 0, none⟩) n cap) l) (j : Nat) (u : UInt8) :
    Own (w.setCell ⟨g, j, none⟩ (.int .u8 (u.toNat : Int))) base (.slice (some ⟨g, 0, none⟩) n cap) (l.set j u) ∧ w.grownBy (w.setCell ⟨g, j, none⟩ (.int .u8 (u.toNat : Int))) (some g) := by
  obtain rfl := h.lenEq
  have := World.ownsRow.stored h j (.int .u8 (u.toNat : Int))
  refine ⟨?_, this.2⟩
  unfold Own
  rw [List.length_set]
  have e : u8s (l.set j u) = (u8s l).set j (.int .u8 (u.toNat : Int)) := by simp [u8s, List.map_set]
  rw [e]; exact this.1
theorem Own.cell {w : World} {base g n cap : Nat} {l : List UInt8} (h : Own w base (.slice (some ⟨g, 0, none⟩) n cap) l) (j : Nat) (hj : j < l.length) : w.cell? ⟨g, j, none⟩ = some (.int .u8 (l[j].toNat : Int)) := by
  obtain rfl := h.lenEq
  rw [World.ownsRow.cellAt h j (by omega), u8s_get, List.getElem?_eq_getElem hj]; rfl
theorem Own.unfrozen {w : World} {base g n cap : Nat} {l : List UInt8} (h : Own w base (.slice (some ⟨g, 0, none⟩) n cap) l) (j : Nat) : w.frozen? ⟨g, j, none⟩ = false := by
  obtain rfl := h.lenEq
  exact World.ownsRow.frozenAt h j
/-- string(b) -/
theorem run_string_bs {n : Nat} {w : World} {v : Value} {l : List UInt8} (h : Bs n w v l) : (convert 22 9 v).run Try.prog w = .ok (.string ⟨l.toArray⟩) w := by
  obtain ⟨ao, cap, rfl, h2, h3, h4, h5⟩ := h
  cases ao with
  | none =>
    have hc := h4 rfl
    have hm : l = [] := List.eq_nil_of_length_eq_zero (by omega)
    subst hm
    rw [run_convert_bytes_string w 22 9 5 none _ cap Try.underlying22 Try.underlying5 Try.underlying9]
    rfl
  | some a =>
    refine run_convert_bytes_back w 22 9 5 a cap l Try.underlying22 Try.underlying5 Try.underlying9 fun j hj => ?_
    obtain ⟨a', ha, _, hc⟩ := h5 j l[j] (List.getElem?_eq_getElem hj)
    cases ha
    exact hc
/-- a piece of bytes -/
theorem Bs.sliced {n : Nat} {w : World} {ao : Option Addr} {len cap : Nat} {l : List UInt8} (h : Bs n w (.slice ao len cap) l) (lo hi mx : Nat) (h1 : lo ≤ hi) (h2 : hi ≤ l.length) (h3 : hi ≤ mx) (h4 : mx ≤ cap) :
    Bs n w (Go.sliced ao lo hi mx 1) ((l.take hi).drop lo) := by
  obtain ⟨ao', cap', he, k2, k3, k4, k5⟩ := h
  cases he
  have hlen : ((l.take hi).drop lo).length = hi - lo := by simp; omega
  refine ⟨_, mx - lo, by unfold Go.sliced; rw [hlen], by omega, by omega, ?_, fun j u hj => ?_⟩
  · split
    · intro _; omega
    · cases ao with
      | none => intro _; have := k4 rfl; omega
      | some a => intro h; cases h
  · have hj' : lo + j < hi := by
      have := (List.getElem?_eq_some_iff.1 hj).1
      rw [hlen] at this; omega
    rw [List.getElem?_drop, List.getElem?_take, if_pos hj'] at hj
    obtain ⟨a, ha, hl, hc⟩ := k5 _ u hj
    subst ha
    rw [if_neg (by omega)]
    refine ⟨a.add (lo * 1), rfl, by rw [add_block]; exact hl, ?_⟩
    rw [Addr.add_add, Nat.mul_one]; exact hc
/-- what one call after the other leaves -/
theorem grown_trans {w w' w'' : World} {r : Option Nat} (h : w.grownBy w' r) (k : w'.grownBy w'' r) : w.grownBy w'' r :=
  ⟨k.os.trans h.os, k.tape.trans h.tape, k.output.trans h.output, Nat.le_trans h.size k.size, fun i hi hr => (k.block i (Nat.lt_of_lt_of_le hi h.size) hr).trans (h.block i hi hr)⟩
theorem grown_of_below {w w' : World} (r : Option Nat) (h : Below w.heap.size w w') : w.grownBy w' r := ⟨h.os, h.tape, h.output, h.size, fun i hi _ => h.block i hi⟩
theorem below_of_grown {w w' : World} {r : Option Nat} (h : w.grownBy w' r) {B : Nat} (hB : B ≤ w.heap.size) (hr : ∀ k, r = some k → B ≤ k) : Below B w w' := (Below.refl B w).grown h hB hr
theorem Own.row {w : World} {base : Nat} {v : Value} {l : List UInt8} (h : Own w base v l) : ∀ k, v.ownBlock = some k → base ≤ k := fun k hk => (World.ownsRow.lt h k hk).1
theorem run_bytes_bs (w : World) (s : ByteArray) (hs : s.size ≤ 1000000) : ∃ v w', (convert 9 22 (.string s)).run Try.prog w = .ok v w' ∧ Bs w'.heap.size w' v s.data.toList ∧ Below w.heap.size w w' := by
  have hr := run_bytes_of_string (P := Try.prog) w 9 22 5 s Try.underlying9 Try.underlying22 Try.underlying5
  have hge := grownCap_ge w s.size 0 5
  have hm := grownCap_le_maxLen w s.size 0 5 (by simp only [maxLen]; omega)
  have hlen : s.data.toList.length = s.size := by simp
  refine ⟨_, _, hr, ⟨some ⟨w.heap.size, 0, none⟩, _, by rw [hlen], by omega, hm, fun h => (by cases h), fun j u hj => ⟨_, rfl, by simp, ?_⟩⟩, ((Below.refl _ w).drew).alloc (Nat.le_refl _) _⟩
  rw [Addr.add_lit, Nat.zero_add]
  rw [cell_of_row _ w.heap.size j _ 5 _ (heap_alloc_new w.drew _)]
  unfold bytesRow
  rw [Array.getElem?_append_left (by have := (List.getElem?_eq_some_iff.1 hj).1; simp at this ⊢; exact this)]
  simp [← Array.getElem?_toList, hj]
theorem not_i64 (n : Int) (h1 : -9223372036854775808 ≤ n) (h2 : n ≤ 9223372036854775807) : bits BinOp.xor IntKind.i64 (-1) n = -1 - n := by
  show IntKind.i64.wrap ((BitVec.ofInt 64 (-1) ^^^ BitVec.ofInt 64 n).toNat : Int) = _
  have e : BitVec.ofInt 64 (-1) = BitVec.allOnes 64 := by decide
  rw [e, BitVec.allOnes_xor, BitVec.toNat_not, BitVec.toNat_ofInt, IntKind.wrap_i64]
  simp only [Nat.reducePow]
  have h3 : 0 ≤ n % 18446744073709551616 := Int.emod_nonneg _ (by decide)
  omega
theorem join_byte (V : Nat) (c : UInt8) (hV : V < 72057594037927936) : bits BinOp.or IntKind.u64 (IntKind.u64.wrap ((V : Int) * 256)) (IntKind.u64.wrap (c.toNat : Int)) = ((V * 256 + c.toNat : Nat) : Int) := by
  have hc := c.toNat_lt
  rw [IntKind.wrap_u64, IntKind.wrap_u64]
  have e1 : (V : Int) * 256 % 18446744073709551616 = ((V * 256 : Nat) : Int) := by omega
  have e2 : (c.toNat : Int) % 18446744073709551616 = (c.toNat : Int) := by omega
  rw [e1, e2, u64_or_nat _ _ (by omega) (by omega), nat_join 8 _ _ (by omega) (by omega)]
end Go.Proofs.Ytcbogapnhabhkaa
