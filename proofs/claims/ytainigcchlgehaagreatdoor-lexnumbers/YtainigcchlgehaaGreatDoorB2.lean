import Derived.Test.YtainigcchlgehaaGreatDoorB1
import Derived.Test.YtainigcchlgehaaGreatDoorA3
import Derived.Test.YtainigcchlgehaaGreatDoorA4
import Derived.Deep.RegionHeld3
namespace Go.Proofs.YtainigcchlgehaaGreatDoor
open Go Go.RowKit
set_option linter.unusedVariables false
theorem findKey_now {t : TypeId} {k : Value} {es : List MapEntry} {r : Option (Nat × Value)} (ht : Tryz.prog.underlying t = some .string) (h : Instr.findNow .string k es 0 = some r) (w : World) : (Instr.findKey t k es).run Tryz.prog w = .ok r w := by
  simp [Instr.findKey, run_underlying ht, h]
theorem set_alloc (w : World) (o o' : Obj) : ({ w.alloc o with heap := (w.alloc o).heap.setIfInBounds w.heap.size o' } : World) = w.alloc o' := by
  have e : (w.heap.push o).setIfInBounds w.heap.size o' = w.heap.push o' := by
    apply Array.ext'
    simp
  show ({ w with heap := (w.heap.push o).setIfInBounds w.heap.size o' } : World) = { w with heap := w.heap.push o' }
  rw [e]
theorem check_str (em : Bool) (s : ByteArray) (W : World) : (Instr.checkKey em 10000 9 (.string s)).run Tryz.prog W = .ok () W := MapKept.run_checkKey Tryz.underlying9 (by simp [MapKept.IsKey]) em 9999
theorem ins_new (w : World) (t e : TypeId) (es : Array MapEntry) (c : Nat) (s : ByteArray) (v : Value) (ht : Tryz.prog.underlying t = some (.map 9 e)) (h : Instr.findNow .string (.string s) es.toList 0 = some none) :
    (Instr.mapUpdate t (.map (some w.heap.size)) (.string s) v).run Tryz.prog (w.alloc (.map es c)) = .ok () (w.alloc (.map (es.push { key := .string s, val := v, born := c }) (c + 1))) := by
  have hb : (w.alloc (.map es c)).heap[w.heap.size]? = some (.map es c) := heap_alloc_new w _
  have hk := findKey_now (t := 9) Tryz.underlying9 h
  have hck := check_str false s
  simp only [Instr.mapUpdate]
  generalize 10000 = N at hck
  simp [run_underlying ht, MapKept.run_getObj_map hb, hck, hk, MapKept.run_setObj_map _ hb, Result.andThen]
  exact set_alloc w _ _
theorem bne_of {a b : ByteArray} (h : a ≠ b) : (a == b) = false := Bool.eq_false_iff.2 fun e => h ((MapKept.bytes_beq _ _).1 e)
theorem look_hit (b : Nat) (w : World) (es : Array MapEntry) (c : Nat) (s : ByteArray) (e : TypeId) {t : TypeId} (ht : Tryz.prog.underlying t = some (.map 9 e)) (hb : w.heap[b]? = some (.map es c)) (i : Nat) (v : Value) (h : Instr.findNow .string (.string s) es.toList 0 = some (some (i, v))) :
    (Instr.lookup t (.map (some b)) (.string s) true).run Tryz.prog w = .ok (.tuple #[v, .bool true]) w := by
  have hk := findKey_now (t := 9) Tryz.underlying9 h
  have hck := fun em W => check_str em s W
  simp only [Instr.lookup]
  generalize 10000 = N at hck
  simp [run_underlying ht, MapKept.run_getObj_map hb, hck, hk, Result.andThen]
theorem look_miss (b : Nat) (w : World) (es : Array MapEntry) (c : Nat) (s : ByteArray) (e : TypeId) {t : TypeId} {z : Value} (ht : Tryz.prog.underlying t = some (.map 9 e)) (hz : ∀ w, (zeroValue e).run Tryz.prog w = .ok z w) (hb : w.heap[b]? = some (.map es c)) (h : Instr.findNow .string (.string s) es.toList 0 = some none) :
    (Instr.lookup t (.map (some b)) (.string s) true).run Tryz.prog w = .ok (.tuple #[z, .bool false]) w := by
  have hk := findKey_now (t := 9) Tryz.underlying9 h
  have hck := fun em W => check_str em s W
  simp only [Instr.lookup]
  generalize 10000 = N at hck
  simp [run_underlying ht, MapKept.run_getObj_map hb, hck, hk, hz, Result.andThen]
end Go.Proofs.YtainigcchlgehaaGreatDoor
namespace Go.Proofs.YtainigcchlgehaaGreatDoor
open Go Go.RowKit
set_option linter.unusedVariables false
/-- is it a number -/
def numB (k : Int) : Bool := k == 2 || k == 3
/-- how one float is to another one; 2: there is a nan -/
def fOrd (f f' : Nat) : Int := if Flt.isNan f = true ∨ Flt.isNan f' = true then 2 else Flt.cmp3 (Flt.key f) (Flt.key f')
/-- a whole number against a float; 2: there is a nan -/
def mOrd (n : Int) (f : Nat) : Int := if Flt.isNan f = true then 2 else Flt.cmp3 (n * ((2 ^ Flt.K : Nat) : Int)) (Flt.sv f)
theorem cmp3_bd (x y : Int) : -1 ≤ Flt.cmp3 x y ∧ Flt.cmp3 x y ≤ 1 := by unfold Flt.cmp3; (repeat' split) <;> omega
theorem mOrd_bd (n : Int) (f : Nat) : -1 ≤ mOrd n f ∧ mOrd n f ≤ 2 := by
  unfold mOrd
  have := cmp3_bd (n * ((2 ^ Flt.K : Nat) : Int)) (Flt.sv f)
  split <;> omega
/-- how one value is to another one -/
def ordI (k n : Int) (f : Nat) (s : ByteArray) (k' n' : Int) (f' : Nat) (s' : ByteArray) : Int :=
  if k = 4 then cmpS s s' else if k = 3 ∧ k' = 3 then fOrd f f' else if k' = 3 then mOrd n f' else if k = 3 then -mOrd n' f else Flt.cmp3 n n'
/-- what holds, of six ways -/
def holdB (i : Nat) (o : Int) : Bool := if i = 1 then o == 0 else if i = 2 then o != 0 else if i = 3 then o == -1 else if i = 4 then (o == -1 || o == 0) else if i = 5 then o == 1 else (o == 1 || o == 0)
end Go.Proofs.YtainigcchlgehaaGreatDoor
namespace Go.Proofs.YtainigcchlgehaaGreatDoor
open Go Go.RowKit
set_option linter.unusedVariables false
theorem Lies.set {w : World} {b : Nat} {u0 u1 u2 u3 : Value} (h : Lies w b u0 u1 u2 u3) (v0 v1 v2 v3 : Value) :
    Lies ((((w.setCell ⟨b, 0, none⟩ v0).setCell ⟨b, 1, none⟩ v1).setCell ⟨b, 2, none⟩ v2).setCell ⟨b, 3, none⟩ v3) b v0 v1 v2 v3 := by
  obtain ⟨h0, h1, h2, h3⟩ := h
  refine ⟨?_, ?_, ?_, ?_⟩ <;> go_simp
theorem below_set4 {n : Nat} {w w' : World} {b : Nat} (h : Below n w w') (hb : n ≤ b) (v0 v1 v2 v3 : Value) :
    Below n w ((((w'.setCell ⟨b, 0, none⟩ v0).setCell ⟨b, 1, none⟩ v1).setCell ⟨b, 2, none⟩ v2).setCell ⟨b, 3, none⟩ v3) := (((h.setCell hb _).setCell hb _).setCell hb _).setCell hb _
theorem below_a5 (w : World) (o1 o2 o3 o4 o5 : Obj) : Below w.heap.size w (((((w.alloc o1).alloc o2).alloc o3).alloc o4).alloc o5) := (((below_a2 w o1 o2).alloc (by simp; omega) o3).alloc (by simp; omega) o4).alloc (by simp; omega) o5
theorem null5 (w : World) (o1 o2 o4 o5 : Obj) (v0 v1 v2 v3 : Value) : Lies (((((w.alloc o1).alloc o2).alloc (.cells #[v0, v1, v2, v3] 41)).alloc o4).alloc o5) (w.heap.size + 1 + 1) v0 v1 v2 v3 := ((lies_at ((w.alloc o1).alloc o2) _ (by simp) v0 v1 v2 v3 _).alloc _).alloc _
theorem size5 (w : World) (o1 o2 o3 o4 o5 : Obj) : (((((w.alloc o1).alloc o2).alloc o3).alloc o4).alloc o5).heap.size = w.heap.size + 1 + 1 + 1 + 1 + 1 := by simp
theorem keptS {w0 w1 : World} {a b c r : Nat} {F a0 a1 a2 a3 b0 b1 b2 b3 r0 r1 r2 r3 : Value} (h : w0.cell? ⟨c, 0, none⟩ = some F ∧ w0.cell? ⟨a, 0, none⟩ = some a0 ∧ w0.cell? ⟨a, 1, none⟩ = some a1 ∧ w0.cell? ⟨a, 2, none⟩ = some a2 ∧ w0.cell? ⟨a, 3, none⟩ = some a3 ∧ w0.cell? ⟨b, 0, none⟩ = some b0 ∧ w0.cell? ⟨b, 1, none⟩ = some b1 ∧ w0.cell? ⟨b, 2, none⟩ = some b2 ∧ w0.cell? ⟨b, 3, none⟩ = some b3 ∧ w0.cell? ⟨r, 0, none⟩ = some r0 ∧ w0.cell? ⟨r, 1, none⟩ = some r1 ∧ w0.cell? ⟨r, 2, none⟩ = some r2 ∧ w0.cell? ⟨r, 3, none⟩ = some r3 ∧ w0.frozen? ⟨r, 0, none⟩ = false ∧ w0.frozen? ⟨r, 1, none⟩ = false ∧ w0.frozen? ⟨r, 2, none⟩ = false ∧ w0.frozen? ⟨r, 3, none⟩ = false) (hb : Below w0.heap.size w0 w1) : w1.cell? ⟨c, 0, none⟩ = some F ∧ w1.cell? ⟨a, 0, none⟩ = some a0 ∧ w1.cell? ⟨a, 1, none⟩ = some a1 ∧ w1.cell? ⟨a, 2, none⟩ = some a2 ∧ w1.cell? ⟨a, 3, none⟩ = some a3 ∧ w1.cell? ⟨b, 0, none⟩ = some b0 ∧ w1.cell? ⟨b, 1, none⟩ = some b1 ∧ w1.cell? ⟨b, 2, none⟩ = some b2 ∧ w1.cell? ⟨b, 3, none⟩ = some b3 ∧ w1.cell? ⟨r, 0, none⟩ = some r0 ∧ w1.cell? ⟨r, 1, none⟩ = some r1 ∧ w1.cell? ⟨r, 2, none⟩ = some r2 ∧ w1.cell? ⟨r, 3, none⟩ = some r3 ∧ w1.frozen? ⟨r, 0, none⟩ = false ∧ w1.frozen? ⟨r, 1, none⟩ = false ∧ w1.frozen? ⟨r, 2, none⟩ = false ∧ w1.frozen? ⟨r, 3, none⟩ = false := by
  obtain ⟨h1, h2, h3, h4, h5, h6, h7, h8, h9, h10, h11, h12, h13, f0, f1, f2, f3⟩ := h
  have hr := Lib.lt_of_cell h10
  exact ⟨later_cell h1 ⟨w1, hb⟩, later_cell h2 ⟨w1, hb⟩, later_cell h3 ⟨w1, hb⟩, later_cell h4 ⟨w1, hb⟩, later_cell h5 ⟨w1, hb⟩, later_cell h6 ⟨w1, hb⟩, later_cell h7 ⟨w1, hb⟩, later_cell h8 ⟨w1, hb⟩, later_cell h9 ⟨w1, hb⟩, later_cell h10 ⟨w1, hb⟩, later_cell h11 ⟨w1, hb⟩, later_cell h12 ⟨w1, hb⟩, later_cell h13 ⟨w1, hb⟩,
    (hb.frozen (p := ⟨r, 0, none⟩) hr).trans f0, (hb.frozen (p := ⟨r, 1, none⟩) hr).trans f1, (hb.frozen (p := ⟨r, 2, none⟩) hr).trans f2, (hb.frozen (p := ⟨r, 3, none⟩) hr).trans f3⟩
theorem kept9 {w0 w1 : World} {a b c : Nat} {F a0 a1 a2 a3 b0 b1 b2 b3 : Value} (h : w0.cell? ⟨c, 0, none⟩ = some F ∧ w0.cell? ⟨a, 0, none⟩ = some a0 ∧ w0.cell? ⟨a, 1, none⟩ = some a1 ∧ w0.cell? ⟨a, 2, none⟩ = some a2 ∧ w0.cell? ⟨a, 3, none⟩ = some a3 ∧ w0.cell? ⟨b, 0, none⟩ = some b0 ∧ w0.cell? ⟨b, 1, none⟩ = some b1 ∧ w0.cell? ⟨b, 2, none⟩ = some b2 ∧ w0.cell? ⟨b, 3, none⟩ = some b3) (hb : Below w0.heap.size w0 w1) : w1.cell? ⟨c, 0, none⟩ = some F ∧ w1.cell? ⟨a, 0, none⟩ = some a0 ∧ w1.cell? ⟨a, 1, none⟩ = some a1 ∧ w1.cell? ⟨a, 2, none⟩ = some a2 ∧ w1.cell? ⟨a, 3, none⟩ = some a3 ∧ w1.cell? ⟨b, 0, none⟩ = some b0 ∧ w1.cell? ⟨b, 1, none⟩ = some b1 ∧ w1.cell? ⟨b, 2, none⟩ = some b2 ∧ w1.cell? ⟨b, 3, none⟩ = some b3 := by
  obtain ⟨h1, h2, h3, h4, h5, h6, h7, h8, h9⟩ := h
  exact ⟨later_cell h1 ⟨w1, hb⟩, later_cell h2 ⟨w1, hb⟩, later_cell h3 ⟨w1, hb⟩, later_cell h4 ⟨w1, hb⟩, later_cell h5 ⟨w1, hb⟩, later_cell h6 ⟨w1, hb⟩, later_cell h7 ⟨w1, hb⟩, later_cell h8 ⟨w1, hb⟩, later_cell h9 ⟨w1, hb⟩⟩
theorem setfar {w : World} {r b i : Nat} {v v0 v1 v2 v3 : Value} (hn : r ≠ b) (h : w.cell? ⟨b, i, none⟩ = some v) : ((((w.setCell ⟨r, 0, none⟩ v0).setCell ⟨r, 1, none⟩ v1).setCell ⟨r, 2, none⟩ v2).setCell ⟨r, 3, none⟩ v3).cell? ⟨b, i, none⟩ = some v := by
  rw [World.cell?_setCell_far _ _ _ _ hn, World.cell?_setCell_far _ _ _ _ hn, World.cell?_setCell_far _ _ _ _ hn, World.cell?_setCell_far _ _ _ _ hn]; exact h
theorem kept9s {w0 : World} {a b c r : Nat} {F a0 a1 a2 a3 b0 b1 b2 b3 v0 v1 v2 v3 : Value} (h : w0.cell? ⟨c, 0, none⟩ = some F ∧ w0.cell? ⟨a, 0, none⟩ = some a0 ∧ w0.cell? ⟨a, 1, none⟩ = some a1 ∧ w0.cell? ⟨a, 2, none⟩ = some a2 ∧ w0.cell? ⟨a, 3, none⟩ = some a3 ∧ w0.cell? ⟨b, 0, none⟩ = some b0 ∧ w0.cell? ⟨b, 1, none⟩ = some b1 ∧ w0.cell? ⟨b, 2, none⟩ = some b2 ∧ w0.cell? ⟨b, 3, none⟩ = some b3) (ha : r ≠ a) (hb : r ≠ b) (hc : r ≠ c) : ((((w0.setCell ⟨r, 0, none⟩ v0).setCell ⟨r, 1, none⟩ v1).setCell ⟨r, 2, none⟩ v2).setCell ⟨r, 3, none⟩ v3).cell? ⟨c, 0, none⟩ = some F ∧ ((((w0.setCell ⟨r, 0, none⟩ v0).setCell ⟨r, 1, none⟩ v1).setCell ⟨r, 2, none⟩ v2).setCell ⟨r, 3, none⟩ v3).cell? ⟨a, 0, none⟩ = some a0 ∧ ((((w0.setCell ⟨r, 0, none⟩ v0).setCell ⟨r, 1, none⟩ v1).setCell ⟨r, 2, none⟩ v2).setCell ⟨r, 3, none⟩ v3).cell? ⟨a, 1, none⟩ = some a1 ∧ ((((w0.setCell ⟨r, 0, none⟩ v0).setCell ⟨r, 1, none⟩ v1).setCell ⟨r, 2, none⟩ v2).setCell ⟨r, 3, none⟩ v3).cell? ⟨a, 2, none⟩ = some a2 ∧ ((((w0.setCell ⟨r, 0, none⟩ v0).setCell ⟨r, 1, none⟩ v1).setCell ⟨r, 2, none⟩ v2).setCell ⟨r, 3, none⟩ v3).cell? ⟨a, 3, none⟩ = some a3 ∧ ((((w0.setCell ⟨r, 0, none⟩ v0).setCell ⟨r, 1, none⟩ v1).setCell ⟨r, 2, none⟩ v2).setCell ⟨r, 3, none⟩ v3).cell? ⟨b, 0, none⟩ = some b0 ∧ ((((w0.setCell ⟨r, 0, none⟩ v0).setCell ⟨r, 1, none⟩ v1).setCell ⟨r, 2, none⟩ v2).setCell ⟨r, 3, none⟩ v3).cell? ⟨b, 1, none⟩ = some b1 ∧ ((((w0.setCell ⟨r, 0, none⟩ v0).setCell ⟨r, 1, none⟩ v1).setCell ⟨r, 2, none⟩ v2).setCell ⟨r, 3, none⟩ v3).cell? ⟨b, 2, none⟩ = some b2 ∧ ((((w0.setCell ⟨r, 0, none⟩ v0).setCell ⟨r, 1, none⟩ v1).setCell ⟨r, 2, none⟩ v2).setCell ⟨r, 3, none⟩ v3).cell? ⟨b, 3, none⟩ = some b3 := by
  obtain ⟨h1, h2, h3, h4, h5, h6, h7, h8, h9⟩ := h
  exact ⟨setfar hc h1, setfar ha h2, setfar ha h3, setfar ha h4, setfar ha h5, setfar hb h6, setfar hb h7, setfar hb h8, setfar hb h9⟩
end Go.Proofs.YtainigcchlgehaaGreatDoor
namespace Go.Proofs.YtainigcchlgehaaGreatDoor
open Go Go.RowKit
set_option linter.unusedVariables false
/-- which of the six signs; 0: none -/
def opI (s : ByteArray) : Nat := if s.toList = [61] then 1 else if s.toList = [60, 62] then 2 else if s.toList = [60] then 3 else if s.toList = [60, 61] then 4 else if s.toList = [62] then 5 else if s.toList = [62, 61] then 6 else 0
theorem str_of {s : ByteArray} {l : List UInt8} (h : s.toList = l) : s = ⟨l.toArray⟩ := bytes_eq (by rw [← Lib.toList_data]; exact h)
theorem ne_of {s : ByteArray} {l : List UInt8} (h : s.toList ≠ l) : s ≠ ⟨l.toArray⟩ := fun e => h (by rw [e, Lib.toList_data])
/-- what Test tells -/
def testR (op : ByteArray) (k n : Int) (f : Nat) (s : ByteArray) (k' n' : Int) (f' : Nat) (s' : ByteArray) : Int × Int × Int :=
  if opI op = 0 ∨ rightB k n f s = false ∨ rightB k' n' f' s' = false then (0, 0, 1) else if k = 0 ∨ k' = 0 then (0, 0, 0) else if k ≠ k' ∧ (numB k && numB k') = false then (0, 0, 4) else (1, b01 (holdB (opI op) (ordI k n f s k' n' f' s')), 0)
theorem ret_ve' {k n k' n' e e' : Int} (h : (k, n, e) = (k', n', e')) {w w' : World} {x : Ending} (hx : x = .returned (.tuple #[.agg #[.int .i64 k, .int .i64 n, .float .f64 0, .string ⟨#[]⟩], .int .i64 e]) ∧ Below w.heap.size w w') :
    x = .returned (.tuple #[.agg #[.int .i64 k', .int .i64 n', .float .f64 0, .string ⟨#[]⟩], .int .i64 e']) ∧ Below w.heap.size w w' := by
  simp only [Prod.mk.injEq] at h
  obtain ⟨rfl, rfl, rfl⟩ := h
  exact hx
theorem bool_cases (b : Bool) : b = false ∨ b = true := by cases b <;> simp
end Go.Proofs.YtainigcchlgehaaGreatDoor


