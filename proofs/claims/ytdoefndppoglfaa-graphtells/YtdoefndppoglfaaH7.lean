import Derived.Test.YtdoefndppoglfaaH6
import Derived.Test.YtdoefndppoglfaaG11
import Derived.RangeFuncNested
import Derived.RangeFuncLeaves
import Derived.Shelf.Abstract
import Derived.WalkKit
import Derived.OwnWalkIn
import Derived.TacticsInMore
import Derived.LoopNIn
import Derived.LoopIn
namespace Go.Proofs.Ytdoefndppoglfaa
open Go Go.ChangeShapes Go.WideShapes Go.ChangeAt Go.RowKit
open Go.Joins
open Go.Shelf
set_option linter.unusedVariables false
attribute [local go_sem] Oper.semAt_some
/-! ### directions -/
theorem bits_and_ne (a b : Int) : (bits BinOp.and IntKind.i64 a b != 0) = decide (BitVec.ofInt 64 a &&& BitVec.ofInt 64 b ≠ 0#64) := by
  have h : bits BinOp.and IntKind.i64 a b = IntKind.i64.wrap ((BitVec.ofInt 64 a &&& BitVec.ofInt 64 b).toNat : Int) := rfl
  generalize BitVec.ofInt 64 a &&& BitVec.ofInt 64 b = x at *
  rw [h, IntKind.wrap_i64, Bool.eq_iff_iff]
  have hx : x.toNat < 18446744073709551616 := x.isLt
  simp only [bne_iff_ne, ne_eq, decide_eq_true_eq]
  constructor
  · intro h1 h2
    subst h2
    exact h1 (by decide)
  · intro h1 h2
    apply h1
    have : x.toNat = 0 := by omega
    exact BitVec.eq_of_toNat_eq (by simpa using this)
theorem bit_comm (dir m : Int) : (bits BinOp.and IntKind.i64 m dir != 0) = bitB dir m := by
  unfold bitB
  rw [bits_and_ne, bits_and_ne, BitVec.and_comm]
theorem bit_five (dir : Int) : bitB dir 5 = (bitB dir 4 || bitB dir 1) := by
  unfold bitB
  rw [bits_and_ne, bits_and_ne, bits_and_ne]
  have e : BitVec.ofInt 64 5 = BitVec.ofInt 64 4 ||| BitVec.ofInt 64 1 := by decide
  have e2 : ∀ x : BitVec 64, x &&& (BitVec.ofInt 64 4 ||| BitVec.ofInt 64 1) = (x &&& BitVec.ofInt 64 4) ||| (x &&& BitVec.ofInt 64 1) := by
    intro x
    ext i
    simp only [BitVec.getElem_and, BitVec.getElem_or, Bool.and_or_distrib_left]
  rw [e, e2, Bool.eq_iff_iff]
  simp only [decide_eq_true_eq, ne_eq, Bool.or_eq_true]
  have key : ∀ p q : BitVec 64, (p ||| q = 0#64) ↔ (p = 0#64 ∧ q = 0#64) := by
    intro p q
    constructor
    · intro h
      constructor
      · ext i hi
        have := congrArg (fun z : BitVec 64 => z[i]) h
        simp only [BitVec.getElem_or, BitVec.getElem_zero, Bool.or_eq_false_iff] at this
        simpa using this.1
      · ext i hi
        have := congrArg (fun z : BitVec 64 => z[i]) h
        simp only [BitVec.getElem_or, BitVec.getElem_zero, Bool.or_eq_false_iff] at this
        simpa using this.2
    · rintro ⟨rfl, rfl⟩
      decide
  rw [key]
  constructor
  · intro h
    by_cases h1 : BitVec.ofInt 64 dir &&& BitVec.ofInt 64 4 = 0#64
    · exact .inr (fun h2 => h ⟨h1, h2⟩)
    · exact .inl h1
  · rintro (h | h) ⟨h1, h2⟩
    · exact h h1
    · exact h h2
/-! ### how edges lead, gathered for each node -/
/-- an edge, where it leads, by which directions -/
abbrev Ld := Int × Int × Int
def encL : Enc Ld 3 where
  enc p := [.int .i64 p.1, .int .i64 p.2.1, .int .i64 p.2.2]
  len p := rfl
  one p u hu := by
    simp only [List.mem_cons, List.not_mem_nil, or_false] at hu
    rcases hu with rfl | rfl | rfl <;> rfl
abbrev Yd := Int × Ld
/-- what an edge tells -/
def seqE (i : Nat) (e : Ed) : List Yd :=
  if e.fro = e.to then [(e.fro, (i, e.to, if e.dir = true then 5 else 2))] else [(e.fro, (i, e.to, if e.dir = true then 4 else 2)), (e.to, (i, e.fro, if e.dir = true then 1 else 2))]
def seqN (es : List Ed) (n : Nat) : List Yd := (List.range n).flatMap fun i => seqE i es[i]!
theorem seqN_succ (es : List Ed) (n : Nat) (h : n < es.length) : seqN es (n + 1) = seqN es n ++ seqE n es[n] := by
  unfold seqN
  rw [List.range_succ, List.flatMap_append, List.flatMap_cons, List.flatMap_nil, List.append_nil, getElem!_pos es n h]
theorem seqE_pos (i : Nat) (e : Ed) : 1 ≤ (seqE i e).length := by unfold seqE; split <;> simp
theorem seqE_le (i : Nat) (e : Ed) : (seqE i e).length ≤ 2 := by unfold seqE; split <;> simp
theorem seqN_len (es : List Ed) : ∀ n, (seqN es n).length ≤ 2 * n
  | 0 => by simp [seqN]
  | n + 1 => by
    have := seqN_len es n
    have h2 := seqE_le n es[n]!
    have : seqN es (n + 1) = seqN es n ++ seqE n es[n]! := by
      unfold seqN
      rw [List.range_succ, List.flatMap_append, List.flatMap_cons, List.flatMap_nil, List.append_nil]
    rw [this, List.length_append]
    omega
theorem seqN_pre (es : List Ed) {n m : Nat} (h : n ≤ m) : seqN es n <+: seqN es m := by
  induction m with
  | zero =>
    obtain rfl : n = 0 := by omega
    exact List.prefix_refl _
  | succ m ih =>
    by_cases hnm : n = m + 1
    · subst hnm; exact List.prefix_refl _
    · have e : seqN es (m + 1) = seqN es m ++ seqE m es[m]! := by
        unfold seqN
        rw [List.range_succ, List.flatMap_append, List.flatMap_cons, List.flatMap_nil, List.append_nil]
      rw [e]
      exact (ih (by omega)).trans (List.prefix_append _ _)
/-- what leads from a node -/
def rowOf (l : List Yd) (node : Int) : List Ld := (l.filter fun p => decide (p.1 = node)).map (·.2)
theorem rowOf_app (l m : List Yd) (node : Int) : rowOf (l ++ m) node = rowOf l node ++ rowOf m node := by simp [rowOf]
theorem rowOf_one (x : Yd) (node : Int) : rowOf [x] node = if x.1 = node then [x.2] else [] := by
  unfold rowOf
  rw [List.filter_cons]
  by_cases h : x.1 = node
  · simp [h]
  · simp [h]
theorem rowOf_len (l : List Yd) (node : Int) : (rowOf l node).length ≤ l.length := by
  unfold rowOf
  rw [List.length_map]
  exact List.length_filter_le ..
/-- .. by a set of directions -/
def outL (dir : Int) (l : List Ld) : List St := (l.filter fun x => bitB dir x.2.2).map fun x => (x.1, x.2.1)
theorem outL_app (dir : Int) (l m : List Ld) : outL dir (l ++ m) = outL dir l ++ outL dir m := by simp [outL]
theorem outE (node dir : Int) (i : Nat) (e : Ed) : outL dir (rowOf (seqE i e) node) = (stepE node dir i e.fro e.to e.dir).toList := by
  obtain ⟨nm, f, t, d, ls, ps⟩ := e
  unfold seqE stepE
  dsimp only
  by_cases hft : f = t
  · subst hft
    rw [if_pos rfl, rowOf_one]
    dsimp only
    by_cases hf : f = node
    · subst hf
      rw [if_pos rfl, if_pos (show f = f ∨ f = f from .inl rfl), Int.add_sub_cancel]
      cases d
      · by_cases hb : bitB dir 2 = true
        · simp [outL, leadsB, hb]
        · simp [outL, leadsB, hb]
      · rw [if_pos rfl]
        have e1 : leadsB f f true f f dir = (bitB dir 4 || bitB dir 1) := by simp [leadsB]
        rw [e1, ← bit_five]
        by_cases hb : bitB dir 5 = true
        · simp [outL, hb]
        · simp [outL, hb]
    · rw [if_neg hf, if_neg (by simp [hf])]
      rfl
  · rw [if_neg hft]
    have ec : ∀ x y : Yd, [x, y] = [x] ++ [y] := fun _ _ => rfl
    rw [ec, rowOf_app, rowOf_one, rowOf_one, outL_app]
    dsimp only
    by_cases hf : f = node
    · subst hf
      rw [if_pos rfl, if_pos (show f = f ∨ t = f from .inl rfl), if_neg (Ne.symm hft), show f + t - f = t by omega]
      have hft' : ¬ t = f := fun e => hft e.symm
      cases d
      · by_cases hb : bitB dir 2 = true
        · simp [outL, leadsB, hb]
        · simp [outL, leadsB, hb]
      · by_cases hb : bitB dir 4 = true
        · simp [outL, leadsB, hb]
        · simp [outL, leadsB, hb, hft, hft']
    · rw [if_neg hf]
      by_cases ht : t = node
      · subst ht
        rw [if_pos rfl, if_pos (show f = t ∨ t = t from .inr rfl), show f + t - t = f by omega]
        have hft' : ¬ t = f := fun e => hft e.symm
        cases d
        · by_cases hb : bitB dir 2 = true
          · simp [outL, leadsB, hb]
          · simp [outL, leadsB, hb]
        · by_cases hb : bitB dir 1 = true
          · simp [outL, leadsB, hb]
          · simp [outL, leadsB, hb, hft, hft']
      · rw [if_neg ht, if_neg (by simp [hf, ht])]
        rfl
theorem outL_outN (g : Gd) (node dir : Int) : ∀ n, n ≤ g.edges.length → outL dir (rowOf (seqN g.edges n) node) = outN g node dir n
  | 0, _ => rfl
  | n + 1, h => by
    rw [seqN_succ g.edges n (by omega), rowOf_app, outL_app, outL_outN g node dir n (by omega), outE, outN_succ g node dir n (by omega)]
theorem outL_outG (g : Gd) (node dir : Int) (h : 0 ≤ node ∧ node < g.nodes.length) : outL dir (rowOf (seqN g.edges g.edges.length) node) = outG g node dir := by
  unfold outG
  rw [if_pos h, outL_outN g node dir _ (Nat.le_refl _)]
end Go.Proofs.Ytdoefndppoglfaa
