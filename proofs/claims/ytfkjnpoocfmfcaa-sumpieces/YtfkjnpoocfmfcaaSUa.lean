import Derived.Test.YtfkjnpoocfmfcaaGR
import Derived.Laws.Tables
import Derived.Laws.IdiomStrings
import Derived.Laws.BitsAllLaws
import Derived.RangeFuncNested
import Derived.RangeFuncBound
import Derived.RangeFuncCalls
import Derived.RangeFuncLeaves
import Derived.Shelf.Abstract
import Derived.Shelf.RegionOpen
import Derived.OwnWalkIn
import Derived.TacticsInMore
import Derived.LoopNIn
import Derived.LoopIn
import Derived.Lib.Hide
import Derived.Lib.SlBytesConst
import Derived.Lib.SmallJoins
namespace Go.Proofs.Ytfkjnpoocfmfcaa
open Go Go.RowKit
open Go.Shelf
set_option linter.unusedVariables false
attribute [local go_sem] Oper.semAt_some
/-- a variable's block -/
def Vr (w : World) (b : Nat) (e : TypeId) (cs : Array Value) : Prop := w.heap[b]? = some (.cells cs e (0, 0))
theorem Vr.new (w : World) (e : TypeId) (cs : Array Value) : Vr (w.alloc (.cells cs e)) w.heap.size e cs := heap_alloc_new w _
theorem Vr.lt {w : World} {b : Nat} {e : TypeId} {cs : Array Value} (h : Vr w b e cs) : b < w.heap.size := (Array.getElem?_eq_some_iff.1 h).1
theorem Vr.keepB {w w' : World} {b B : Nat} {e : TypeId} {cs : Array Value} (h : Vr w b e cs) (hb : Below B w w') (hB : b < B) : Vr w' b e cs := (hb.block b hB).trans h
theorem Vr.keep {w w' : World} {b : Nat} {e : TypeId} {cs : Array Value} (h : Vr w b e cs) (hb : Below w.heap.size w w') : Vr w' b e cs := h.keepB hb h.lt
theorem Vr.cell {w : World} {b : Nat} {e : TypeId} {cs : Array Value} (h : Vr w b e cs) (j : Nat) : w.cell? ⟨b, j, none⟩ = cs[j]? := cell_of_row w b j cs e _ h
theorem Vr.thaw {w : World} {b : Nat} {e : TypeId} {cs : Array Value} (h : Vr w b e cs) (j : Nat) : w.frozen? ⟨b, j, none⟩ = false := by
  have h' : w.heap[b]? = some (.cells cs e (0, 0)) := h
  simp [World.frozen?, h']
theorem Vr.grown {w w' : World} {b : Nat} {e : TypeId} {cs : Array Value} {r : Option Nat} (h : Vr w b e cs) (hg : w.grownBy w' r) (hne : some b ≠ r) : Vr w' b e cs := (hg.block b h.lt hne).trans h
theorem Vr.setCell {w : World} {b : Nat} {e : TypeId} {cs : Array Value} (h : Vr w b e cs) (j : Nat) (u : Value) : Vr (w.setCell ⟨b, j, none⟩ u) b e (cs.setIfInBounds j u) := by
  have hb : w.heap[b]? = some (.cells cs e (0, 0)) := h
  show (w.setCell ⟨b, j, none⟩ u).heap[b]? = _
  simp only [World.setCell, Array.getElem?_modify, if_true, hb, Option.map_some]
  simp
/-- bytes, in cells -/
def encU : Enc UInt8 1 where
  enc c := [.int .u8 (c.toNat : Int)]
  len _ := rfl
  one _ u hu := by simp at hu; subst hu; rfl
abbrev RwU (w : World) (v : Value) (l : List UInt8) : Prop := Rw encU w v l
abbrev OwU (w : World) (base : Nat) (v : Value) (l : List UInt8) : Prop := Ow encU 5 w base v l
theorem rwu_at {w : World} {ao : Option Addr} {n cap : Nat} {l : List UInt8} (h : RwU w (.slice ao n cap) l) (i : Nat) (hi : i < l.length) :
    ∃ b o, ao = some ⟨b, o, none⟩ ∧ w.cell? ⟨b, o + i, none⟩ = some (.int .u8 (l[i].toNat : Int)) := by
  obtain ⟨ao', cap', he, -, -, -, h5⟩ := h
  cases he
  obtain ⟨b, o, ha, hc⟩ := h5 i hi
  refine ⟨b, o, ha, ?_⟩
  have := hc 0 (by omega)
  simpa [encU] using this
theorem rwu_lit (w : World) (l : List UInt8) (hl : l.length ≤ 1000000) (cs : Array Value) (hcs : cs.toList = encU.cells l) :
    RwU (w.alloc (.cells cs 5)) (.slice (some ⟨w.heap.size, 0, none⟩) l.length l.length) l := (Ow.lit (E := encU) (e := 5) w w.heap.size l (Nat.le_refl _) hl cs hcs).rw
theorem rwu_const (w : World) (l : List UInt8) (hl : l.length ≤ 1000000) (C : Array Value) (hcs : C.toList = encU.cells l) (n : Nat) (hn : n = l.length) (fr : Nat × Nat) :
    RwU (w.alloc (.cells C 5 fr)) (.slice (some ⟨w.heap.size, 0, none⟩) n n) l := by
  subst hn
  refine ⟨_, l.length, rfl, Nat.le_refl _, by simp only [maxLen]; omega, (fun h => (by cases h)), fun i hi => ⟨w.heap.size, 0, rfl, fun j hj => ?_⟩⟩
  rw [World.cell?_alloc_mark, ← Array.getElem?_toList, hcs]
  have := encU.cells_get l i j hi hj
  rw [← this, Nat.zero_add]
/-! ### sums -/
def stepS (s : Nat) (c : UInt8) : Nat := (s ^^^ c.toNat) * 1099511628211 % 18446744073709551616
def sumS (s : Nat) (l : List UInt8) : Nat := l.foldl stepS s
theorem stepS_lt (s : Nat) (c : UInt8) : stepS s c < 18446744073709551616 := Nat.mod_lt _ (by decide)
theorem sumS_app (s : Nat) (l m : List UInt8) : sumS s (l ++ m) = sumS (sumS s l) m := List.foldl_append
theorem foldl_snoc {α β : Type} (f : β → α → β) (s : β) (l : List α) (c : α) : (l ++ [c]).foldl f s = f (l.foldl f s) c := by rw [List.foldl_append]; rfl
theorem sumS_snoc (s : Nat) (l : List UInt8) (c : UInt8) : sumS s (l ++ [c]) = stepS (sumS s l) c := foldl_snoc stepS s l c
theorem sumS_lt (s : Nat) (hs : s < 18446744073709551616) (l : List UInt8) : sumS s l < 18446744073709551616 := by
  induction l generalizing s with
  | nil => exact hs
  | cons c l ih => exact ih _ (stepS_lt s c)
theorem xor_lt64 (a b : Nat) (ha : a < 18446744073709551616) (hb : b < 256) : a ^^^ b < 18446744073709551616 :=
  Nat.xor_lt_two_pow (n := 64) ha (by omega)
theorem step_mach (s : Nat) (c : UInt8) (hs : s < 18446744073709551616) : IntKind.u64.wrap (bits .xor .u64 (s : Int) (IntKind.u64.wrap (c.toNat : Int)) * 1099511628211) = ((stepS s c : Nat) : Int) := by
  have hc := c.toNat_lt
  have e2 : IntKind.u64.wrap (c.toNat : Int) = (c.toNat : Int) := by rw [IntKind.wrap_u64]; omega
  rw [e2, u64_xor_nat _ _ hs (by omega), IntKind.wrap_u64]
  unfold stepS
  generalize s ^^^ c.toNat = x
  omega
/-! ### as the document's answer reckons -/
theorem low_xor (s : Nat) (c : UInt8) : s - s % 256 + (s % 256 ^^^ c.toNat) = s ^^^ c.toNat := by
  have hc := c.toNat_lt
  have h1 : (s ^^^ c.toNat) % 256 = s % 256 ^^^ c.toNat := by
    have := Nat.xor_mod_two_pow (a := s) (b := c.toNat) (n := 8)
    rw [show (2 : Nat) ^ 8 = 256 from rfl] at this
    rw [this, Nat.mod_eq_of_lt (a := c.toNat) (by omega)]
  have h2 : (s ^^^ c.toNat) / 256 = s / 256 := by
    have := Nat.xor_div_two_pow (a := s) (b := c.toNat) (n := 8)
    rw [show (2 : Nat) ^ 8 = 256 from rfl] at this
    rw [this, Nat.div_eq_of_lt (a := c.toNat) (by omega), Nat.xor_zero]
  omega
/-! ### unlike sums stay unlike -/
theorem mul_inj {x y : Nat} (hx : x < 18446744073709551616) (hy : y < 18446744073709551616) (h : x * 1099511628211 % 18446744073709551616 = y * 1099511628211 % 18446744073709551616) : x = y := by
  have key : ∀ z, z < 18446744073709551616 → z * 1099511628211 % 18446744073709551616 * 14886173955864302971 % 18446744073709551616 = z := by
    intro z hz
    rw [Nat.mod_mul_mod, Nat.mul_assoc, show 1099511628211 * 14886173955864302971 = 1 + 887285111055 * 18446744073709551616 from by decide, Nat.mul_add, Nat.mul_one, ← Nat.mul_assoc, Nat.add_mul_mod_self_right, Nat.mod_eq_of_lt hz]
  rw [← key x hx, ← key y hy, h]
theorem xor_l {a b c : Nat} (h : a ^^^ c = b ^^^ c) : a = b := by
  have := congrArg (· ^^^ c) h
  simpa [Nat.xor_assoc] using this
theorem xor_r {a b c : Nat} (h : c ^^^ a = c ^^^ b) : a = b := xor_l (by rwa [Nat.xor_comm c a, Nat.xor_comm c b] at h)
theorem step_inj {s t : Nat} (hs : s < 18446744073709551616) (ht : t < 18446744073709551616) (c : UInt8) (h : stepS s c = stepS t c) : s = t := by
  have hc := c.toNat_lt
  have := mul_inj (xor_lt64 s _ hs (by omega)) (xor_lt64 t _ ht (by omega)) h
  exact xor_l this
theorem step_inj2 {s : Nat} (hs : s < 18446744073709551616) (c d : UInt8) (h : stepS s c = stepS s d) : c = d := by
  have hc := c.toNat_lt
  have hd := d.toNat_lt
  have := mul_inj (xor_lt64 s _ hs (by omega)) (xor_lt64 s _ hs (by omega)) h
  exact UInt8.toNat_inj.1 (xor_r this)
theorem stepS_eq (s : Nat) (c : UInt8) : stepS s c = (s ^^^ c.toNat) * 1099511628211 % 18446744073709551616 := rfl
theorem fnv0 : sumS 14695981039346656037 [] = 14695981039346656037 := by decide +kernel
theorem fnv1 : sumS 14695981039346656037 [97] = 12638187200555641996 := by decide +kernel
theorem fnv6 : sumS 14695981039346656037 [102, 111, 111, 98, 97, 114] = 9625390261332436968 := by decide +kernel
attribute [irreducible] stepS
theorem sum_inj {s t : Nat} (hs : s < 18446744073709551616) (ht : t < 18446744073709551616) (l : List UInt8) (h : sumS s l = sumS t l) : s = t := by
  induction l generalizing s t with
  | nil => exact h
  | cons c l ih => exact step_inj hs ht c (ih (stepS_lt _ _) (stepS_lt _ _) h)
end Go.Proofs.Ytfkjnpoocfmfcaa
