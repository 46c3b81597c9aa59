import Derived.Test.YtfhnjilflffdfaaE2
import Derived.Test.YtfhnjilflffdfaaShelf
namespace Go.Proofs.Ytfhnjilflffdfaa
open Go Go.RowKit
theorem bytes_eq {s : ByteArray} {l : List UInt8} (h : s.data.toList = l) : s = ⟨l.toArray⟩ := by
  subst h; simp
end Go.Proofs.Ytfhnjilflffdfaa
namespace Go.Proofs.Ytfhnjilflffdfaa
open Go Go.RowKit
theorem bcell {W w1 : World} (hb : Below W.heap.size W w1) : (∀ b o, b < W.heap.size → w1.cell? ⟨b, o, none⟩ = W.cell? ⟨b, o, none⟩) ∧ (∀ b o, b < W.heap.size → w1.frozen? ⟨b, o, none⟩ = W.frozen? ⟨b, o, none⟩) :=
  ⟨fun b o h => hb.cell (p := ⟨b, o, none⟩) h, fun b o h => hb.frozen (p := ⟨b, o, none⟩) h⟩
theorem bl_drew {w w1 : World} (h : Below w.drew.heap.size w.drew w1) : Below w.heap.size w w1 := (Below.refl _ _).drew.trans h
theorem bl_alloc {w w1 : World} {o : Obj} (h : Below (w.alloc o).drew.heap.size (w.alloc o).drew w1) : Below w.heap.size w w1 :=
  ((Below.refl _ _).alloc (Nat.le_refl _) o).drew.trans (h.mono ((Below.refl w.heap.size w).alloc (Nat.le_refl _) o).drew.size)
theorem u8w (c : Nat) (h : c < 256) : IntKind.u8.wrap (c : Int) = (c : Int) := by simp [IntKind.wrap, IntKind.bits, IntKind.signed]; omega
end Go.Proofs.Ytfhnjilflffdfaa

namespace Go.Proofs.Ytfhnjilflffdfaa
open Go Go.RowKit
set_option linter.unusedVariables false
theorem findKey_now {t : TypeId} {k : Value} {es : List MapEntry} {r : Option (Nat × Value)} (ht : Try.prog.underlying t = some .string) (h : Instr.findNow .string k es 0 = some r) (w : World) : (Instr.findKey t k es).run Try.prog w = .ok r w := by
  simp [Instr.findKey, run_underlying ht, h]
theorem set_alloc (w : World) (o o' : Obj) : ({ w.alloc o with heap := (w.alloc o).heap.setIfInBounds w.heap.size o' } : World) = w.alloc o' := by
  have e : (w.heap.push o).setIfInBounds w.heap.size o' = w.heap.push o' := by
    apply Array.ext'
    simp
  show ({ w with heap := (w.heap.push o).setIfInBounds w.heap.size o' } : World) = { w with heap := w.heap.push o' }
  rw [e]
theorem check_str (em : Bool) (s : ByteArray) (W : World) : (Instr.checkKey em 10000 9 (.string s)).run Try.prog W = .ok () W := MapKept.run_checkKey Try.underlying9 (by simp [MapKept.IsKey]) em 9999
theorem ins_new (w : World) (t e : TypeId) (es : Array MapEntry) (c : Nat) (s : ByteArray) (v : Value) (ht : Try.prog.underlying t = some (.map 9 e)) (h : Instr.findNow .string (.string s) es.toList 0 = some none) :
    (Instr.mapUpdate t (.map (some w.heap.size)) (.string s) v).run Try.prog (w.alloc (.map es c)) = .ok () (w.alloc (.map (es.push { key := .string s, val := v, born := c }) (c + 1))) := by
  have hb : (w.alloc (.map es c)).heap[w.heap.size]? = some (.map es c) := heap_alloc_new w _
  have hk := findKey_now (t := 9) Try.underlying9 h
  have hck := check_str false s
  simp only [Instr.mapUpdate]
  generalize 10000 = N at hck
  simp [run_underlying ht, MapKept.run_getObj_map hb, hck, hk, MapKept.run_setObj_map _ hb, Result.andThen]
  exact set_alloc w _ _
theorem bne_of {a b : ByteArray} (h : a ≠ b) : (a == b) = false := Bool.eq_false_iff.2 fun e => h ((MapKept.bytes_beq _ _).1 e)
theorem look_hit (b : Nat) (w : World) (es : Array MapEntry) (c : Nat) (s : ByteArray) (e : TypeId) {t : TypeId} (ht : Try.prog.underlying t = some (.map 9 e)) (hb : w.heap[b]? = some (.map es c)) (i : Nat) (v : Value) (h : Instr.findNow .string (.string s) es.toList 0 = some (some (i, v))) :
    (Instr.lookup t (.map (some b)) (.string s) true).run Try.prog w = .ok (.tuple #[v, .bool true]) w := by
  have hk := findKey_now (t := 9) Try.underlying9 h
  have hck := fun em W => check_str em s W
  simp only [Instr.lookup]
  generalize 10000 = N at hck
  simp [run_underlying ht, MapKept.run_getObj_map hb, hck, hk, Result.andThen]
theorem look_miss (b : Nat) (w : World) (es : Array MapEntry) (c : Nat) (s : ByteArray) (e : TypeId) {t : TypeId} {z : Value} (ht : Try.prog.underlying t = some (.map 9 e)) (hz : ∀ w, (zeroValue e).run Try.prog w = .ok z w) (hb : w.heap[b]? = some (.map es c)) (h : Instr.findNow .string (.string s) es.toList 0 = some none) :
    (Instr.lookup t (.map (some b)) (.string s) true).run Try.prog w = .ok (.tuple #[z, .bool false]) w := by
  have hk := findKey_now (t := 9) Try.underlying9 h
  have hck := fun em W => check_str em s W
  simp only [Instr.lookup]
  generalize 10000 = N at hck
  simp [run_underlying ht, MapKept.run_getObj_map hb, hck, hk, hz, Result.andThen]
def ents_c : Array MapEntry := #[{ key := .string ⟨#[61]⟩, val := .agg #[.func (.func 70) #[] #[]], born := 0 }, { key := .string ⟨#[60, 62]⟩, val := .agg #[.func (.func 71) #[] #[]], born := 1 }, { key := .string ⟨#[60]⟩, val := .agg #[.func (.func 72) #[] #[]], born := 2 }, { key := .string ⟨#[60, 61]⟩, val := .agg #[.func (.func 73) #[] #[]], born := 3 }, { key := .string ⟨#[62]⟩, val := .agg #[.func (.func 74) #[] #[]], born := 4 }, { key := .string ⟨#[62, 61]⟩, val := .agg #[.func (.func 75) #[] #[]], born := 5 }]
def ents_o : Array MapEntry := #[{ key := .string ⟨#[43]⟩, val := .agg #[.func (.func 64) #[] #[], .func (.func 65) #[] #[]], born := 0 }, { key := .string ⟨#[45]⟩, val := .agg #[.func (.func 66) #[] #[], .func (.func 67) #[] #[]], born := 1 }, { key := .string ⟨#[42]⟩, val := .agg #[.func (.func 68) #[] #[], .func (.func 69) #[] #[]], born := 2 }]
set_option maxRecDepth 100000 in
theorem comps_any (w : World) : Calls Try.prog 59 #[] w fun e w' => e = .returned (.map (some w.heap.size)) ∧ w.alloc (.map ents_c 6) = w' := by
  have hmm := @run_makeMap Try.prog
  have i1 : (Instr.mapUpdate 98 (.map (some w.heap.size)) (.string ⟨#[61]⟩) (.agg #[.func (.func 70) #[] #[]])).run Try.prog (w.alloc (.map #[] 0)) = .ok () (w.alloc (.map #[{ key := .string ⟨#[61]⟩, val := .agg #[.func (.func 70) #[] #[]], born := 0 }] 1)) := ins_new w 98 96 #[] 0 _ _ Try.underlying98 rfl
  have i2 : (Instr.mapUpdate 98 (.map (some w.heap.size)) (.string ⟨#[60, 62]⟩) (.agg #[.func (.func 71) #[] #[]])).run Try.prog (w.alloc (.map #[{ key := .string ⟨#[61]⟩, val := .agg #[.func (.func 70) #[] #[]], born := 0 }] 1)) = .ok () (w.alloc (.map #[{ key := .string ⟨#[61]⟩, val := .agg #[.func (.func 70) #[] #[]], born := 0 }, { key := .string ⟨#[60, 62]⟩, val := .agg #[.func (.func 71) #[] #[]], born := 1 }] 2)) := ins_new w 98 96 #[{ key := .string ⟨#[61]⟩, val := .agg #[.func (.func 70) #[] #[]], born := 0 }] 1 _ _ Try.underlying98 rfl
  have i3 : (Instr.mapUpdate 98 (.map (some w.heap.size)) (.string ⟨#[60]⟩) (.agg #[.func (.func 72) #[] #[]])).run Try.prog (w.alloc (.map #[{ key := .string ⟨#[61]⟩, val := .agg #[.func (.func 70) #[] #[]], born := 0 }, { key := .string ⟨#[60, 62]⟩, val := .agg #[.func (.func 71) #[] #[]], born := 1 }] 2)) = .ok () (w.alloc (.map #[{ key := .string ⟨#[61]⟩, val := .agg #[.func (.func 70) #[] #[]], born := 0 }, { key := .string ⟨#[60, 62]⟩, val := .agg #[.func (.func 71) #[] #[]], born := 1 }, { key := .string ⟨#[60]⟩, val := .agg #[.func (.func 72) #[] #[]], born := 2 }] 3)) := ins_new w 98 96 #[{ key := .string ⟨#[61]⟩, val := .agg #[.func (.func 70) #[] #[]], born := 0 }, { key := .string ⟨#[60, 62]⟩, val := .agg #[.func (.func 71) #[] #[]], born := 1 }] 2 _ _ Try.underlying98 rfl
  have i4 : (Instr.mapUpdate 98 (.map (some w.heap.size)) (.string ⟨#[60, 61]⟩) (.agg #[.func (.func 73) #[] #[]])).run Try.prog (w.alloc (.map #[{ key := .string ⟨#[61]⟩, val := .agg #[.func (.func 70) #[] #[]], born := 0 }, { key := .string ⟨#[60, 62]⟩, val := .agg #[.func (.func 71) #[] #[]], born := 1 }, { key := .string ⟨#[60]⟩, val := .agg #[.func (.func 72) #[] #[]], born := 2 }] 3)) = .ok () (w.alloc (.map #[{ key := .string ⟨#[61]⟩, val := .agg #[.func (.func 70) #[] #[]], born := 0 }, { key := .string ⟨#[60, 62]⟩, val := .agg #[.func (.func 71) #[] #[]], born := 1 }, { key := .string ⟨#[60]⟩, val := .agg #[.func (.func 72) #[] #[]], born := 2 }, { key := .string ⟨#[60, 61]⟩, val := .agg #[.func (.func 73) #[] #[]], born := 3 }] 4)) := ins_new w 98 96 #[{ key := .string ⟨#[61]⟩, val := .agg #[.func (.func 70) #[] #[]], born := 0 }, { key := .string ⟨#[60, 62]⟩, val := .agg #[.func (.func 71) #[] #[]], born := 1 }, { key := .string ⟨#[60]⟩, val := .agg #[.func (.func 72) #[] #[]], born := 2 }] 3 _ _ Try.underlying98 rfl
  have i5 : (Instr.mapUpdate 98 (.map (some w.heap.size)) (.string ⟨#[62]⟩) (.agg #[.func (.func 74) #[] #[]])).run Try.prog (w.alloc (.map #[{ key := .string ⟨#[61]⟩, val := .agg #[.func (.func 70) #[] #[]], born := 0 }, { key := .string ⟨#[60, 62]⟩, val := .agg #[.func (.func 71) #[] #[]], born := 1 }, { key := .string ⟨#[60]⟩, val := .agg #[.func (.func 72) #[] #[]], born := 2 }, { key := .string ⟨#[60, 61]⟩, val := .agg #[.func (.func 73) #[] #[]], born := 3 }] 4)) = .ok () (w.alloc (.map #[{ key := .string ⟨#[61]⟩, val := .agg #[.func (.func 70) #[] #[]], born := 0 }, { key := .string ⟨#[60, 62]⟩, val := .agg #[.func (.func 71) #[] #[]], born := 1 }, { key := .string ⟨#[60]⟩, val := .agg #[.func (.func 72) #[] #[]], born := 2 }, { key := .string ⟨#[60, 61]⟩, val := .agg #[.func (.func 73) #[] #[]], born := 3 }, { key := .string ⟨#[62]⟩, val := .agg #[.func (.func 74) #[] #[]], born := 4 }] 5)) := ins_new w 98 96 #[{ key := .string ⟨#[61]⟩, val := .agg #[.func (.func 70) #[] #[]], born := 0 }, { key := .string ⟨#[60, 62]⟩, val := .agg #[.func (.func 71) #[] #[]], born := 1 }, { key := .string ⟨#[60]⟩, val := .agg #[.func (.func 72) #[] #[]], born := 2 }, { key := .string ⟨#[60, 61]⟩, val := .agg #[.func (.func 73) #[] #[]], born := 3 }] 4 _ _ Try.underlying98 rfl
  have i6 : (Instr.mapUpdate 98 (.map (some w.heap.size)) (.string ⟨#[62, 61]⟩) (.agg #[.func (.func 75) #[] #[]])).run Try.prog (w.alloc (.map #[{ key := .string ⟨#[61]⟩, val := .agg #[.func (.func 70) #[] #[]], born := 0 }, { key := .string ⟨#[60, 62]⟩, val := .agg #[.func (.func 71) #[] #[]], born := 1 }, { key := .string ⟨#[60]⟩, val := .agg #[.func (.func 72) #[] #[]], born := 2 }, { key := .string ⟨#[60, 61]⟩, val := .agg #[.func (.func 73) #[] #[]], born := 3 }, { key := .string ⟨#[62]⟩, val := .agg #[.func (.func 74) #[] #[]], born := 4 }] 5)) = .ok () (w.alloc (.map #[{ key := .string ⟨#[61]⟩, val := .agg #[.func (.func 70) #[] #[]], born := 0 }, { key := .string ⟨#[60, 62]⟩, val := .agg #[.func (.func 71) #[] #[]], born := 1 }, { key := .string ⟨#[60]⟩, val := .agg #[.func (.func 72) #[] #[]], born := 2 }, { key := .string ⟨#[60, 61]⟩, val := .agg #[.func (.func 73) #[] #[]], born := 3 }, { key := .string ⟨#[62]⟩, val := .agg #[.func (.func 74) #[] #[]], born := 4 }, { key := .string ⟨#[62, 61]⟩, val := .agg #[.func (.func 75) #[] #[]], born := 5 }] 6)) := ins_new w 98 96 #[{ key := .string ⟨#[61]⟩, val := .agg #[.func (.func 70) #[] #[]], born := 0 }, { key := .string ⟨#[60, 62]⟩, val := .agg #[.func (.func 71) #[] #[]], born := 1 }, { key := .string ⟨#[60]⟩, val := .agg #[.func (.func 72) #[] #[]], born := 2 }, { key := .string ⟨#[60, 61]⟩, val := .agg #[.func (.func 73) #[] #[]], born := 3 }, { key := .string ⟨#[62]⟩, val := .agg #[.func (.func 74) #[] #[]], born := 4 }] 5 _ _ Try.underlying98 rfl
  go_enter Try.func59, Try.ntmps59
  go_wp2_with fail
  go_ret
  exact ⟨rfl, rfl⟩
set_option maxRecDepth 100000 in
theorem opers_any (w : World) : Calls Try.prog 56 #[] w fun e w' => e = .returned (.map (some w.heap.size)) ∧ w.alloc (.map ents_o 3) = w' := by
  have hmm := @run_makeMap Try.prog
  have i1 : (Instr.mapUpdate 90 (.map (some w.heap.size)) (.string ⟨#[43]⟩) (.agg #[.func (.func 64) #[] #[], .func (.func 65) #[] #[]])).run Try.prog (w.alloc (.map #[] 0)) = .ok () (w.alloc (.map #[{ key := .string ⟨#[43]⟩, val := .agg #[.func (.func 64) #[] #[], .func (.func 65) #[] #[]], born := 0 }] 1)) := ins_new w 90 88 #[] 0 _ _ Try.underlying90 rfl
  have i2 : (Instr.mapUpdate 90 (.map (some w.heap.size)) (.string ⟨#[45]⟩) (.agg #[.func (.func 66) #[] #[], .func (.func 67) #[] #[]])).run Try.prog (w.alloc (.map #[{ key := .string ⟨#[43]⟩, val := .agg #[.func (.func 64) #[] #[], .func (.func 65) #[] #[]], born := 0 }] 1)) = .ok () (w.alloc (.map #[{ key := .string ⟨#[43]⟩, val := .agg #[.func (.func 64) #[] #[], .func (.func 65) #[] #[]], born := 0 }, { key := .string ⟨#[45]⟩, val := .agg #[.func (.func 66) #[] #[], .func (.func 67) #[] #[]], born := 1 }] 2)) := ins_new w 90 88 #[{ key := .string ⟨#[43]⟩, val := .agg #[.func (.func 64) #[] #[], .func (.func 65) #[] #[]], born := 0 }] 1 _ _ Try.underlying90 rfl
  have i3 : (Instr.mapUpdate 90 (.map (some w.heap.size)) (.string ⟨#[42]⟩) (.agg #[.func (.func 68) #[] #[], .func (.func 69) #[] #[]])).run Try.prog (w.alloc (.map #[{ key := .string ⟨#[43]⟩, val := .agg #[.func (.func 64) #[] #[], .func (.func 65) #[] #[]], born := 0 }, { key := .string ⟨#[45]⟩, val := .agg #[.func (.func 66) #[] #[], .func (.func 67) #[] #[]], born := 1 }] 2)) = .ok () (w.alloc (.map #[{ key := .string ⟨#[43]⟩, val := .agg #[.func (.func 64) #[] #[], .func (.func 65) #[] #[]], born := 0 }, { key := .string ⟨#[45]⟩, val := .agg #[.func (.func 66) #[] #[], .func (.func 67) #[] #[]], born := 1 }, { key := .string ⟨#[42]⟩, val := .agg #[.func (.func 68) #[] #[], .func (.func 69) #[] #[]], born := 2 }] 3)) := ins_new w 90 88 #[{ key := .string ⟨#[43]⟩, val := .agg #[.func (.func 64) #[] #[], .func (.func 65) #[] #[]], born := 0 }, { key := .string ⟨#[45]⟩, val := .agg #[.func (.func 66) #[] #[], .func (.func 67) #[] #[]], born := 1 }] 2 _ _ Try.underlying90 rfl
  go_enter Try.func56, Try.ntmps56
  go_wp2_with fail
  go_ret
  exact ⟨rfl, rfl⟩
theorem look_c1 (b : Nat) (w : World) (h : w.heap[b]? = some (.map ents_c 6)) : (Instr.lookup 98 (.map (some b)) (.string ⟨#[61]⟩) true).run Try.prog w = .ok (.tuple #[.agg #[.func (.func 70) #[] #[]], .bool true]) w :=
  look_hit b w _ _ _ _ Try.underlying98 h 0 _ rfl

theorem look_c2 (b : Nat) (w : World) (h : w.heap[b]? = some (.map ents_c 6)) : (Instr.lookup 98 (.map (some b)) (.string ⟨#[60, 62]⟩) true).run Try.prog w = .ok (.tuple #[.agg #[.func (.func 71) #[] #[]], .bool true]) w :=
  look_hit b w _ _ _ _ Try.underlying98 h 1 _ rfl

theorem look_c3 (b : Nat) (w : World) (h : w.heap[b]? = some (.map ents_c 6)) : (Instr.lookup 98 (.map (some b)) (.string ⟨#[60]⟩) true).run Try.prog w = .ok (.tuple #[.agg #[.func (.func 72) #[] #[]], .bool true]) w :=
  look_hit b w _ _ _ _ Try.underlying98 h 2 _ rfl

theorem look_c4 (b : Nat) (w : World) (h : w.heap[b]? = some (.map ents_c 6)) : (Instr.lookup 98 (.map (some b)) (.string ⟨#[60, 61]⟩) true).run Try.prog w = .ok (.tuple #[.agg #[.func (.func 73) #[] #[]], .bool true]) w :=
  look_hit b w _ _ _ _ Try.underlying98 h 3 _ rfl

theorem look_c5 (b : Nat) (w : World) (h : w.heap[b]? = some (.map ents_c 6)) : (Instr.lookup 98 (.map (some b)) (.string ⟨#[62]⟩) true).run Try.prog w = .ok (.tuple #[.agg #[.func (.func 74) #[] #[]], .bool true]) w :=
  look_hit b w _ _ _ _ Try.underlying98 h 4 _ rfl

theorem look_c6 (b : Nat) (w : World) (h : w.heap[b]? = some (.map ents_c 6)) : (Instr.lookup 98 (.map (some b)) (.string ⟨#[62, 61]⟩) true).run Try.prog w = .ok (.tuple #[.agg #[.func (.func 75) #[] #[]], .bool true]) w :=
  look_hit b w _ _ _ _ Try.underlying98 h 5 _ rfl

theorem look_c0 (b : Nat) (w : World) (h : w.heap[b]? = some (.map ents_c 6)) (s : ByteArray) (h1 : s ≠ ⟨#[61]⟩) (h2 : s ≠ ⟨#[60, 62]⟩) (h3 : s ≠ ⟨#[60]⟩) (h4 : s ≠ ⟨#[60, 61]⟩) (h5 : s ≠ ⟨#[62]⟩) (h6 : s ≠ ⟨#[62, 61]⟩) : (Instr.lookup 98 (.map (some b)) (.string s) true).run Try.prog w = .ok (.tuple #[.agg #[.nilFunc], .bool false]) w :=
  look_miss b w _ _ s _ Try.underlying98 Try.zeroValue96 h (by simp [ents_c, Instr.findNow, Instr.sameNow, bne_of h1, bne_of h2, bne_of h3, bne_of h4, bne_of h5, bne_of h6])
theorem look_o1 (b : Nat) (w : World) (h : w.heap[b]? = some (.map ents_o 3)) : (Instr.lookup 90 (.map (some b)) (.string ⟨#[43]⟩) true).run Try.prog w = .ok (.tuple #[.agg #[.func (.func 64) #[] #[], .func (.func 65) #[] #[]], .bool true]) w :=
  look_hit b w _ _ _ _ Try.underlying90 h 0 _ rfl

theorem look_o2 (b : Nat) (w : World) (h : w.heap[b]? = some (.map ents_o 3)) : (Instr.lookup 90 (.map (some b)) (.string ⟨#[45]⟩) true).run Try.prog w = .ok (.tuple #[.agg #[.func (.func 66) #[] #[], .func (.func 67) #[] #[]], .bool true]) w :=
  look_hit b w _ _ _ _ Try.underlying90 h 1 _ rfl

theorem look_o3 (b : Nat) (w : World) (h : w.heap[b]? = some (.map ents_o 3)) : (Instr.lookup 90 (.map (some b)) (.string ⟨#[42]⟩) true).run Try.prog w = .ok (.tuple #[.agg #[.func (.func 68) #[] #[], .func (.func 69) #[] #[]], .bool true]) w :=
  look_hit b w _ _ _ _ Try.underlying90 h 2 _ rfl

theorem look_o0 (b : Nat) (w : World) (h : w.heap[b]? = some (.map ents_o 3)) (s : ByteArray) (h1 : s ≠ ⟨#[43]⟩) (h2 : s ≠ ⟨#[45]⟩) (h3 : s ≠ ⟨#[42]⟩) : (Instr.lookup 90 (.map (some b)) (.string s) true).run Try.prog w = .ok (.tuple #[.agg #[.nilFunc, .nilFunc], .bool false]) w :=
  look_miss b w _ _ s _ Try.underlying90 Try.zeroValue88 h (by simp [ents_o, Instr.findNow, Instr.sameNow, bne_of h1, bne_of h2, bne_of h3])
end Go.Proofs.Ytfhnjilflffdfaa

namespace Go.Proofs.Ytfhnjilflffdfaa
open Go Go.RowKit
set_option linter.unusedVariables false
theorem isnum_core (k n : Int) (f : Nat) (s : ByteArray) (a b : Bool) (ha : (k == 2) = a) (hb : (k == 3) = b) (w : World) :
    Calls Try.prog 57 #[.agg #[.int .i64 k, .int .i64 n, .float .f64 f, .string s]] w fun e w' => e = .returned (.bool (a || b)) ∧ Below w.heap.size w w' := by
  cases a
  · go_enter Try.func57, Try.ntmps57
    go_wp2_with fail
    go_ret
    exact ⟨rfl, below_a1 _ _⟩
  · go_enter Try.func57, Try.ntmps57
    go_wp2_with fail
    go_ret
    exact ⟨rfl, below_a1 _ _⟩
/-- is it a number -/
def numB (k : Int) : Bool := k == 2 || k == 3
theorem isnum_any (k n : Int) (f : Nat) (s : ByteArray) (w : World) :
    Calls Try.prog 57 #[.agg #[.int .i64 k, .int .i64 n, .float .f64 f, .string s]] w fun e w' => e = .returned (.bool (numB k)) ∧ Below w.heap.size w w' := isnum_core k n f s _ _ rfl rfl w
/-- how one float is to another one; 2: there is a nan -/
def fOrd (f f' : Nat) : Int := if Flt.isNan f = true ∨ Flt.isNan f' = true then 2 else Flt.cmp3 (Flt.key f) (Flt.key f')
theorem ford_core (f f' : Nat) (a b c : Bool) (ha : (FloatKind.f64.format.order f f' == some Ordering.lt) = a) (hb : (FloatKind.f64.format.order f f' == some Ordering.eq) = b) (hc : (FloatKind.f64.format.order f f' == some Ordering.gt) = c) (w : World) :
    Calls Try.prog 77 #[.float .f64 f, .float .f64 f'] w fun e w' => e = .returned (.int .i64 (if a = true then -1 else if b = true then 0 else if c = true then 1 else 2)) ∧ w = w' := by
  cases a <;> cases b <;> cases c
  all_goals
    go_enter Try.func77, Try.ntmps77
    go_wp2_with fail
    go_ret
    exact ⟨rfl, rfl⟩
theorem ford_any (f f' : Nat) (hf : f < 18446744073709551616) (hf' : f' < 18446744073709551616) (w : World) :
    Calls Try.prog 77 #[.float .f64 f, .float .f64 f'] w fun e w' => e = .returned (.int .i64 (fOrd f f')) ∧ w = w' := by
  have h := ford_core f f' _ _ _ (Flt.ord_lt hf hf') (Flt.ord_eq hf hf') (Flt.ord_gt hf hf') w
  refine h.mono fun e w' ⟨he, hw⟩ => ⟨?_, hw⟩
  rw [he]
  congr 2
  unfold fOrd Flt.cmp3
  cases Flt.isNan f <;> cases Flt.isNan f' <;> simp
  (repeat' split) <;> omega
/-- a whole number against a float; 2: there is a nan -/
def mOrd (n : Int) (f : Nat) : Int := if Flt.isNan f = true then 2 else Flt.cmp3 (n * ((2 ^ Flt.K : Nat) : Int)) (Flt.sv f)
theorem cmp3_bd (x y : Int) : -1 ≤ Flt.cmp3 x y ∧ Flt.cmp3 x y ≤ 1 := by unfold Flt.cmp3; (repeat' split) <;> omega
theorem mOrd_bd (n : Int) (f : Nat) : -1 ≤ mOrd n f ∧ mOrd n f ≤ 2 := by
  unfold mOrd
  have := cmp3_bd (n * ((2 ^ Flt.K : Nat) : Int)) (Flt.sv f)
  split <;> omega
theorem mord_core (n : Int) (f : Nat) (c : Int) (b : Bool) (C1 : ∀ w, Calls Try.prog 83 #[.int .i64 n, .float .f64 f] w fun e w' => e = .returned (.tuple #[.int .i64 c, .bool b]) ∧ w = w') (w : World) :
    Calls Try.prog 78 #[.int .i64 n, .float .f64 f] w fun e w' => e = .returned (.int .i64 (if b = true then c else 2)) ∧ w = w' := by
  cases b
  all_goals
    go_enter Try.func78, Try.ntmps78
    go_wp2_with (refine (C1 _).mono ?_; rintro e w' ⟨rfl, rfl⟩)
    go_ret
    exact ⟨rfl, rfl⟩
theorem mord_any (n : Int) (f : Nat) (n1 : -9223372036854775808 ≤ n) (n2 : n ≤ 9223372036854775807) (hf : f < 18446744073709551616) (w : World) :
    Calls Try.prog 78 #[.int .i64 n, .float .f64 f] w fun e w' => e = .returned (.int .i64 (mOrd n f)) ∧ w = w' := by
  unfold mOrd
  cases hn : Flt.isNan f
  · exact mord_core n f _ true (against_all n f n1 n2 hf hn) w
  · exact mord_core n f _ false (against_nan n f hf hn) w
/-- how one value is to another one -/
def ordI (k n : Int) (f : Nat) (s : ByteArray) (k' n' : Int) (f' : Nat) (s' : ByteArray) : Int :=
  if k = 4 then cmpS s s' else if k = 3 ∧ k' = 3 then fOrd f f' else if k' = 3 then mOrd n f' else if k = 3 then -mOrd n' f else Flt.cmp3 n n'
theorem ordr_core (k n k' n' : Int) (f f' : Nat) (s s' : ByteArray) (a b c : Bool) (ha : (k == 4) = a) (hb : (k == 3) = b) (hc : (k' == 3) = c) (S F M M' N : Int) (m1 : -2 ≤ M') (m2 : M' ≤ 2)
    (C1 : ∀ w, Calls Try.prog 76 #[.string s, .string s'] w fun e w' => e = .returned (.int .i64 S) ∧ w = w') (C2 : ∀ w, Calls Try.prog 77 #[.float .f64 f, .float .f64 f'] w fun e w' => e = .returned (.int .i64 F) ∧ w = w')
    (C3 : ∀ w, Calls Try.prog 78 #[.int .i64 n, .float .f64 f'] w fun e w' => e = .returned (.int .i64 M) ∧ w = w') (C4 : ∀ w, Calls Try.prog 78 #[.int .i64 n', .float .f64 f] w fun e w' => e = .returned (.int .i64 M') ∧ w = w')
    (C5 : ∀ w, Calls Try.prog 79 #[.int .i64 n, .int .i64 n'] w fun e w' => e = .returned (.int .i64 N) ∧ w = w') (w : World) :
    Calls Try.prog 60 #[.agg #[.int .i64 k, .int .i64 n, .float .f64 f, .string s], .agg #[.int .i64 k', .int .i64 n', .float .f64 f', .string s']] w fun e w' => e = .returned (.int .i64 (if a = true then S else if b = true then (if c = true then F else -M') else (if c = true then M else N))) ∧ Below w.heap.size w w' := by
  cases a
  case true =>
    go_enter Try.func60, Try.ntmps60
    go_wp2_with (with_reducible refine (C1 _).mono ?_; rintro e w' ⟨rfl, rfl⟩)
    go_ret
    exact ⟨rfl, below_a2 _ _ _⟩
  cases b <;> cases c
  all_goals
    go_enter Try.func60, Try.ntmps60
    go_wp2_with (first | ((with_reducible refine (C2 _).mono ?_); rintro e w' ⟨rfl, rfl⟩) | ((with_reducible refine (C3 _).mono ?_); rintro e w' ⟨rfl, rfl⟩) | ((with_reducible refine (C4 _).mono ?_); rintro e w' ⟨rfl, rfl⟩) | ((with_reducible refine (C5 _).mono ?_); rintro e w' ⟨rfl, rfl⟩))
    go_ret
    exact ⟨rfl, below_a2 _ _ _⟩
theorem ordr_any (k n k' n' : Int) (f f' : Nat) (s s' : ByteArray) (n1 : -9223372036854775808 ≤ n) (n2 : n ≤ 9223372036854775807) (n1' : -9223372036854775808 ≤ n') (n2' : n' ≤ 9223372036854775807) (hf : f < 18446744073709551616) (hf' : f' < 18446744073709551616) (w : World) :
    Calls Try.prog 60 #[.agg #[.int .i64 k, .int .i64 n, .float .f64 f, .string s], .agg #[.int .i64 k', .int .i64 n', .float .f64 f', .string s']] w fun e w' => e = .returned (.int .i64 (ordI k n f s k' n' f' s')) ∧ Below w.heap.size w w' := by
  have b := mOrd_bd n' f
  refine (ordr_core k n k' n' f f' s s' _ _ _ rfl rfl rfl _ _ _ _ _ (by omega) (by omega) (cmps_any s s') (ford_any f f' hf hf') (mord_any n f' n1 n2 hf') (mord_any n' f n1' n2' hf) (cmpi_any n n') w).mono fun e w' ⟨he, hw⟩ => ⟨?_, hw⟩
  rw [he]
  congr 2
  unfold ordI
  by_cases h1 : k = 4 <;> by_cases h2 : k = 3 <;> by_cases h3 : k' = 3 <;> simp [h1, h2, h3]
/-- what holds, of six ways -/
def holdB (i : Nat) (o : Int) : Bool := if i = 1 then o == 0 else if i = 2 then o != 0 else if i = 3 then o == -1 else if i = 4 then (o == -1 || o == 0) else if i = 5 then o == 1 else (o == 1 || o == 0)
theorem hold1 (o : Int) (w : World) : Calls Try.prog 70 #[.int .i64 o] w fun e w' => e = .returned (.bool (holdB 1 o)) ∧ w = w' := by
  go_enter Try.func70, Try.ntmps70
  go_wp2_with fail
  go_ret
  exact ⟨rfl, rfl⟩
theorem hold2 (o : Int) (w : World) : Calls Try.prog 71 #[.int .i64 o] w fun e w' => e = .returned (.bool (holdB 2 o)) ∧ w = w' := by
  go_enter Try.func71, Try.ntmps71
  go_wp2_with fail
  go_ret
  exact ⟨rfl, rfl⟩
theorem hold3 (o : Int) (w : World) : Calls Try.prog 72 #[.int .i64 o] w fun e w' => e = .returned (.bool (holdB 3 o)) ∧ w = w' := by
  go_enter Try.func72, Try.ntmps72
  go_wp2_with fail
  go_ret
  exact ⟨rfl, rfl⟩
theorem hold4c (o : Int) (a : Bool) (ha : (o == -1) = a) (w : World) : Calls Try.prog 73 #[.int .i64 o] w fun e w' => e = .returned (.bool (a || o == 0)) ∧ w = w' := by
  cases a
  all_goals
    go_enter Try.func73, Try.ntmps73
    go_wp2_with fail
    go_ret
    exact ⟨rfl, rfl⟩
theorem hold4 (o : Int) (w : World) : Calls Try.prog 73 #[.int .i64 o] w fun e w' => e = .returned (.bool (holdB 4 o)) ∧ w = w' := hold4c o _ rfl w
theorem hold5 (o : Int) (w : World) : Calls Try.prog 74 #[.int .i64 o] w fun e w' => e = .returned (.bool (holdB 5 o)) ∧ w = w' := by
  go_enter Try.func74, Try.ntmps74
  go_wp2_with fail
  go_ret
  exact ⟨rfl, rfl⟩
theorem hold6c (o : Int) (a : Bool) (ha : (o == 1) = a) (w : World) : Calls Try.prog 75 #[.int .i64 o] w fun e w' => e = .returned (.bool (a || o == 0)) ∧ w = w' := by
  cases a
  all_goals
    go_enter Try.func75, Try.ntmps75
    go_wp2_with fail
    go_ret
    exact ⟨rfl, rfl⟩
theorem hold6 (o : Int) (w : World) : Calls Try.prog 75 #[.int .i64 o] w fun e w' => e = .returned (.bool (holdB 6 o)) ∧ w = w' := hold6c o _ rfl w
end Go.Proofs.Ytfhnjilflffdfaa

namespace Go.Proofs.Ytfhnjilflffdfaa
open Go Go.RowKit
set_option linter.unusedVariables false
/-- what the looking up of an operator hands back -/
def Looks (op : ByteArray) (F : Value) (known : Bool) : Prop := F.oneCell' = true ∧ ∀ (b : Nat) (w : World), w.heap[b]? = some (.map ents_c 6) → (Instr.lookup 98 (.map (some b)) (.string op) true).run Try.prog w = .ok (.tuple #[.agg #[F], .bool known]) w
theorem Looks.at {op : ByteArray} {F : Value} {known : Bool} (h : Looks op F known) (w : World) (o1 o2 o3 : Obj) :
    (Instr.lookup 98 (.map (some (w.heap.size + 1 + 1 + 1))) (.string op) true).run Try.prog ((((w.alloc o1).alloc o2).alloc o3).alloc (.map ents_c 6)) = .ok (.tuple #[.agg #[F], .bool known]) ((((w.alloc o1).alloc o2).alloc o3).alloc (.map ents_c 6)) :=
  h.2 _ _ (by have := heap_alloc_new (((w.alloc o1).alloc o2).alloc o3) (.map ents_c 6); simpa using this)
theorem Looks.store {op : ByteArray} {F : Value} {known : Bool} (h : Looks op F known) (a : Addr) (m : Mode) (w : World) : (Go.store a F m).run Try.prog w = stored Try.prog w a F m := run_store Try.prog w a F m h.1
theorem Lies.set {w : World} {b : Nat} {u0 u1 u2 u3 : Value} (h : Lies w b u0 u1 u2 u3) (v0 v1 v2 v3 : Value) :
    Lies ((((w.setCell ⟨b, 0, none⟩ v0).setCell ⟨b, 1, none⟩ v1).setCell ⟨b, 2, none⟩ v2).setCell ⟨b, 3, none⟩ v3) b v0 v1 v2 v3 := by
  obtain ⟨h0, h1, h2, h3⟩ := h
  refine ⟨?_, ?_, ?_, ?_⟩ <;> go_simp
theorem below_set4 {n : Nat} {w w' : World} {b : Nat} (h : Below n w w') (hb : n ≤ b) (v0 v1 v2 v3 : Value) :
    Below n w ((((w'.setCell ⟨b, 0, none⟩ v0).setCell ⟨b, 1, none⟩ v1).setCell ⟨b, 2, none⟩ v2).setCell ⟨b, 3, none⟩ v3) := (((h.setCell hb _).setCell hb _).setCell hb _).setCell hb _
theorem below_a5 (w : World) (o1 o2 o3 o4 o5 : Obj) : Below w.heap.size w (((((w.alloc o1).alloc o2).alloc o3).alloc o4).alloc o5) := (((below_a2 w o1 o2).alloc (by simp; omega) o3).alloc (by simp; omega) o4).alloc (by simp; omega) o5
theorem null5 (w : World) (o1 o2 o4 o5 : Obj) (v0 v1 v2 v3 : Value) : Lies (((((w.alloc o1).alloc o2).alloc (.cells #[v0, v1, v2, v3] 24)).alloc o4).alloc o5) (w.heap.size + 1 + 1) v0 v1 v2 v3 := ((lies_at ((w.alloc o1).alloc o2) _ (by simp) v0 v1 v2 v3 _).alloc _).alloc _
theorem size5 (w : World) (o1 o2 o3 o4 o5 : Obj) : (((((w.alloc o1).alloc o2).alloc o3).alloc o4).alloc o5).heap.size = w.heap.size + 1 + 1 + 1 + 1 + 1 := by simp
theorem keptS {w0 w1 : World} {a b c r : Nat} {F a0 a1 a2 a3 b0 b1 b2 b3 r0 r1 r2 r3 : Value} (h : w0.cell? ⟨c, 0, none⟩ = some F ∧ w0.cell? ⟨a, 0, none⟩ = some a0 ∧ w0.cell? ⟨a, 1, none⟩ = some a1 ∧ w0.cell? ⟨a, 2, none⟩ = some a2 ∧ w0.cell? ⟨a, 3, none⟩ = some a3 ∧ w0.cell? ⟨b, 0, none⟩ = some b0 ∧ w0.cell? ⟨b, 1, none⟩ = some b1 ∧ w0.cell? ⟨b, 2, none⟩ = some b2 ∧ w0.cell? ⟨b, 3, none⟩ = some b3 ∧ w0.cell? ⟨r, 0, none⟩ = some r0 ∧ w0.cell? ⟨r, 1, none⟩ = some r1 ∧ w0.cell? ⟨r, 2, none⟩ = some r2 ∧ w0.cell? ⟨r, 3, none⟩ = some r3 ∧ w0.frozen? ⟨r, 0, none⟩ = false ∧ w0.frozen? ⟨r, 1, none⟩ = false ∧ w0.frozen? ⟨r, 2, none⟩ = false ∧ w0.frozen? ⟨r, 3, none⟩ = false) (hb : Below w0.heap.size w0 w1) : w1.cell? ⟨c, 0, none⟩ = some F ∧ w1.cell? ⟨a, 0, none⟩ = some a0 ∧ w1.cell? ⟨a, 1, none⟩ = some a1 ∧ w1.cell? ⟨a, 2, none⟩ = some a2 ∧ w1.cell? ⟨a, 3, none⟩ = some a3 ∧ w1.cell? ⟨b, 0, none⟩ = some b0 ∧ w1.cell? ⟨b, 1, none⟩ = some b1 ∧ w1.cell? ⟨b, 2, none⟩ = some b2 ∧ w1.cell? ⟨b, 3, none⟩ = some b3 ∧ w1.cell? ⟨r, 0, none⟩ = some r0 ∧ w1.cell? ⟨r, 1, none⟩ = some r1 ∧ w1.cell? ⟨r, 2, none⟩ = some r2 ∧ w1.cell? ⟨r, 3, none⟩ = some r3 ∧ w1.frozen? ⟨r, 0, none⟩ = false ∧ w1.frozen? ⟨r, 1, none⟩ = false ∧ w1.frozen? ⟨r, 2, none⟩ = false ∧ w1.frozen? ⟨r, 3, none⟩ = false := by
  obtain ⟨h1, h2, h3, h4, h5, h6, h7, h8, h9, h10, h11, h12, h13, f0, f1, f2, f3⟩ := h
  have hr := block_lt_of_cell h10
  exact ⟨later_cell h1 ⟨w1, hb⟩, later_cell h2 ⟨w1, hb⟩, later_cell h3 ⟨w1, hb⟩, later_cell h4 ⟨w1, hb⟩, later_cell h5 ⟨w1, hb⟩, later_cell h6 ⟨w1, hb⟩, later_cell h7 ⟨w1, hb⟩, later_cell h8 ⟨w1, hb⟩, later_cell h9 ⟨w1, hb⟩, later_cell h10 ⟨w1, hb⟩, later_cell h11 ⟨w1, hb⟩, later_cell h12 ⟨w1, hb⟩, later_cell h13 ⟨w1, hb⟩,
    (hb.frozen (p := ⟨r, 0, none⟩) hr).trans f0, (hb.frozen (p := ⟨r, 1, none⟩) hr).trans f1, (hb.frozen (p := ⟨r, 2, none⟩) hr).trans f2, (hb.frozen (p := ⟨r, 3, none⟩) hr).trans f3⟩
theorem kept9 {w0 w1 : World} {a b c : Nat} {F a0 a1 a2 a3 b0 b1 b2 b3 : Value} (h : w0.cell? ⟨c, 0, none⟩ = some F ∧ w0.cell? ⟨a, 0, none⟩ = some a0 ∧ w0.cell? ⟨a, 1, none⟩ = some a1 ∧ w0.cell? ⟨a, 2, none⟩ = some a2 ∧ w0.cell? ⟨a, 3, none⟩ = some a3 ∧ w0.cell? ⟨b, 0, none⟩ = some b0 ∧ w0.cell? ⟨b, 1, none⟩ = some b1 ∧ w0.cell? ⟨b, 2, none⟩ = some b2 ∧ w0.cell? ⟨b, 3, none⟩ = some b3) (hb : Below w0.heap.size w0 w1) : w1.cell? ⟨c, 0, none⟩ = some F ∧ w1.cell? ⟨a, 0, none⟩ = some a0 ∧ w1.cell? ⟨a, 1, none⟩ = some a1 ∧ w1.cell? ⟨a, 2, none⟩ = some a2 ∧ w1.cell? ⟨a, 3, none⟩ = some a3 ∧ w1.cell? ⟨b, 0, none⟩ = some b0 ∧ w1.cell? ⟨b, 1, none⟩ = some b1 ∧ w1.cell? ⟨b, 2, none⟩ = some b2 ∧ w1.cell? ⟨b, 3, none⟩ = some b3 := by
  obtain ⟨h1, h2, h3, h4, h5, h6, h7, h8, h9⟩ := h
  exact ⟨later_cell h1 ⟨w1, hb⟩, later_cell h2 ⟨w1, hb⟩, later_cell h3 ⟨w1, hb⟩, later_cell h4 ⟨w1, hb⟩, later_cell h5 ⟨w1, hb⟩, later_cell h6 ⟨w1, hb⟩, later_cell h7 ⟨w1, hb⟩, later_cell h8 ⟨w1, hb⟩, later_cell h9 ⟨w1, hb⟩⟩
theorem setfar {w : World} {r b i : Nat} {v v0 v1 v2 v3 : Value} (hn : r ≠ b) (h : w.cell? ⟨b, i, none⟩ = some v) : ((((w.setCell ⟨r, 0, none⟩ v0).setCell ⟨r, 1, none⟩ v1).setCell ⟨r, 2, none⟩ v2).setCell ⟨r, 3, none⟩ v3).cell? ⟨b, i, none⟩ = some v := by
  rw [World.cell?_setCell_far _ _ _ _ hn, World.cell?_setCell_far _ _ _ _ hn, World.cell?_setCell_far _ _ _ _ hn, World.cell?_setCell_far _ _ _ _ hn]; exact h
theorem kept9s {w0 : World} {a b c r : Nat} {F a0 a1 a2 a3 b0 b1 b2 b3 v0 v1 v2 v3 : Value} (h : w0.cell? ⟨c, 0, none⟩ = some F ∧ w0.cell? ⟨a, 0, none⟩ = some a0 ∧ w0.cell? ⟨a, 1, none⟩ = some a1 ∧ w0.cell? ⟨a, 2, none⟩ = some a2 ∧ w0.cell? ⟨a, 3, none⟩ = some a3 ∧ w0.cell? ⟨b, 0, none⟩ = some b0 ∧ w0.cell? ⟨b, 1, none⟩ = some b1 ∧ w0.cell? ⟨b, 2, none⟩ = some b2 ∧ w0.cell? ⟨b, 3, none⟩ = some b3) (ha : r ≠ a) (hb : r ≠ b) (hc : r ≠ c) : ((((w0.setCell ⟨r, 0, none⟩ v0).setCell ⟨r, 1, none⟩ v1).setCell ⟨r, 2, none⟩ v2).setCell ⟨r, 3, none⟩ v3).cell? ⟨c, 0, none⟩ = some F ∧ ((((w0.setCell ⟨r, 0, none⟩ v0).setCell ⟨r, 1, none⟩ v1).setCell ⟨r, 2, none⟩ v2).setCell ⟨r, 3, none⟩ v3).cell? ⟨a, 0, none⟩ = some a0 ∧ ((((w0.setCell ⟨r, 0, none⟩ v0).setCell ⟨r, 1, none⟩ v1).setCell ⟨r, 2, none⟩ v2).setCell ⟨r, 3, none⟩ v3).cell? ⟨a, 1, none⟩ = some a1 ∧ ((((w0.setCell ⟨r, 0, none⟩ v0).setCell ⟨r, 1, none⟩ v1).setCell ⟨r, 2, none⟩ v2).setCell ⟨r, 3, none⟩ v3).cell? ⟨a, 2, none⟩ = some a2 ∧ ((((w0.setCell ⟨r, 0, none⟩ v0).setCell ⟨r, 1, none⟩ v1).setCell ⟨r, 2, none⟩ v2).setCell ⟨r, 3, none⟩ v3).cell? ⟨a, 3, none⟩ = some a3 ∧ ((((w0.setCell ⟨r, 0, none⟩ v0).setCell ⟨r, 1, none⟩ v1).setCell ⟨r, 2, none⟩ v2).setCell ⟨r, 3, none⟩ v3).cell? ⟨b, 0, none⟩ = some b0 ∧ ((((w0.setCell ⟨r, 0, none⟩ v0).setCell ⟨r, 1, none⟩ v1).setCell ⟨r, 2, none⟩ v2).setCell ⟨r, 3, none⟩ v3).cell? ⟨b, 1, none⟩ = some b1 ∧ ((((w0.setCell ⟨r, 0, none⟩ v0).setCell ⟨r, 1, none⟩ v1).setCell ⟨r, 2, none⟩ v2).setCell ⟨r, 3, none⟩ v3).cell? ⟨b, 2, none⟩ = some b2 ∧ ((((w0.setCell ⟨r, 0, none⟩ v0).setCell ⟨r, 1, none⟩ v1).setCell ⟨r, 2, none⟩ v2).setCell ⟨r, 3, none⟩ v3).cell? ⟨b, 3, none⟩ = some b3 := by
  obtain ⟨h1, h2, h3, h4, h5, h6, h7, h8, h9⟩ := h
  exact ⟨setfar hc h1, setfar ha h2, setfar ha h3, setfar ha h4, setfar ha h5, setfar hb h6, setfar hb h7, setfar hb h8, setfar hb h9⟩
set_option maxRecDepth 100000 in
theorem test_unk (op : ByteArray) (F : Value) (H : Looks op F false) (k n k' n' : Int) (f f' : Nat) (s s' : ByteArray) (w : World) :
    Calls Try.prog 52 #[.string op, .agg #[.int .i64 k, .int .i64 n, .float .f64 f, .string s], .agg #[.int .i64 k', .int .i64 n', .float .f64 f', .string s']] w fun e w' => e = .returned (.tuple #[.agg #[.int .i64 0, .int .i64 0, .float .f64 0, .string ⟨#[]⟩], .int .i64 1]) ∧ Below w.heap.size w w' := by
  have hsf := run_store_float
  have HL := H.at w
  have HS := H.store
  clear H
  go_enter Try.func52, Try.ntmps52
  go_wp2_with fail
  refine (comps_any _).mono ?_; rintro e w' ⟨rfl, rfl⟩
  go_wp2_with fail
  exact ret_ve rfl rfl rfl rfl (null5 _ _ _ _ _ _ _ _ _) ⟨rfl, below_a5 _ _ _ _ _ _⟩
set_option maxRecDepth 100000 in
theorem test_ra (op : ByteArray) (F : Value) (H : Looks op F true) (k n k' n' : Int) (f f' : Nat) (s s' : ByteArray) (C1 : ∀ w, Calls Try.prog 29 #[.agg #[.int .i64 k, .int .i64 n, .float .f64 f, .string s]] w fun e w' => e = .returned (.bool false) ∧ Below w.heap.size w w') (w : World) :
    Calls Try.prog 52 #[.string op, .agg #[.int .i64 k, .int .i64 n, .float .f64 f, .string s], .agg #[.int .i64 k', .int .i64 n', .float .f64 f', .string s']] w fun e w' => e = .returned (.tuple #[.agg #[.int .i64 0, .int .i64 0, .float .f64 0, .string ⟨#[]⟩], .int .i64 1]) ∧ Below w.heap.size w w' := by
  have hsf := run_store_float
  have HL := H.at w
  have HS := H.store
  clear H
  go_enter Try.func52, Try.ntmps52
  go_wp2_with fail
  refine (comps_any _).mono ?_; rintro e w' ⟨rfl, rfl⟩
  go_wp2_with fail
  refine (C1 _).mono ?_; rintro e w1 ⟨rfl, hb1⟩
  have ch1 := hb1
  obtain ⟨hc1, hf1⟩ := bcell ch1
  have hz1 : w.heap.size + 1 + 1 + 1 + 1 < w1.heap.size := by have := ch1.size; simp only [size5] at this; omega
  go_wp2_with fail
  exact ret_ve rfl rfl rfl rfl (((null5 _ _ _ _ _ _ _ _ _).below ch1).set _ _ _ _) ⟨rfl, below_set4 (Below.chain (below_a5 _ _ _ _ _ _) ch1) (by omega) _ _ _ _⟩
set_option maxRecDepth 100000 in
theorem test_rb (op : ByteArray) (F : Value) (H : Looks op F true) (k n k' n' : Int) (f f' : Nat) (s s' : ByteArray) (C1 : ∀ w, Calls Try.prog 29 #[.agg #[.int .i64 k, .int .i64 n, .float .f64 f, .string s]] w fun e w' => e = .returned (.bool true) ∧ Below w.heap.size w w') (C2 : ∀ w, Calls Try.prog 29 #[.agg #[.int .i64 k', .int .i64 n', .float .f64 f', .string s']] w fun e w' => e = .returned (.bool false) ∧ Below w.heap.size w w') (w : World) :
    Calls Try.prog 52 #[.string op, .agg #[.int .i64 k, .int .i64 n, .float .f64 f, .string s], .agg #[.int .i64 k', .int .i64 n', .float .f64 f', .string s']] w fun e w' => e = .returned (.tuple #[.agg #[.int .i64 0, .int .i64 0, .float .f64 0, .string ⟨#[]⟩], .int .i64 1]) ∧ Below w.heap.size w w' := by
  have hsf := run_store_float
  have HL := H.at w
  have HS := H.store
  clear H
  go_enter Try.func52, Try.ntmps52
  go_wp2_with fail
  refine (comps_any _).mono ?_; rintro e w' ⟨rfl, rfl⟩
  go_wp2_with fail
  refine (C1 _).mono ?_; rintro e w1 ⟨rfl, hb1⟩
  have ch1 := hb1
  obtain ⟨hc1, hf1⟩ := bcell ch1
  have hz1 : w.heap.size + 1 + 1 + 1 + 1 < w1.heap.size := by have := ch1.size; simp only [size5] at this; omega
  go_wp2_with fail
  refine (C2 _).mono ?_; rintro e w2 ⟨rfl, hb2⟩
  have ch2 := Below.chain ch1 hb2
  obtain ⟨hc2, hf2⟩ := bcell ch2
  have hz2 : w.heap.size + 1 + 1 + 1 + 1 < w2.heap.size := by have := ch2.size; simp only [size5] at this; omega
  go_wp2_with fail
  exact ret_ve rfl rfl rfl rfl (((null5 _ _ _ _ _ _ _ _ _).below ch2).set _ _ _ _) ⟨rfl, below_set4 (Below.chain (below_a5 _ _ _ _ _ _) ch2) (by omega) _ _ _ _⟩
set_option maxRecDepth 100000 in
theorem test_na (op : ByteArray) (F : Value) (H : Looks op F true) (k n k' n' : Int) (f f' : Nat) (s s' : ByteArray) (C1 : ∀ w, Calls Try.prog 29 #[.agg #[.int .i64 k, .int .i64 n, .float .f64 f, .string s]] w fun e w' => e = .returned (.bool true) ∧ Below w.heap.size w w') (C2 : ∀ w, Calls Try.prog 29 #[.agg #[.int .i64 k', .int .i64 n', .float .f64 f', .string s']] w fun e w' => e = .returned (.bool true) ∧ Below w.heap.size w w') (h0 : (k == 0) = true) (w : World) :
    Calls Try.prog 52 #[.string op, .agg #[.int .i64 k, .int .i64 n, .float .f64 f, .string s], .agg #[.int .i64 k', .int .i64 n', .float .f64 f', .string s']] w fun e w' => e = .returned (.tuple #[.agg #[.int .i64 0, .int .i64 0, .float .f64 0, .string ⟨#[]⟩], .int .i64 0]) ∧ Below w.heap.size w w' := by
  have hsf := run_store_float
  have HL := H.at w
  have HS := H.store
  clear H
  go_enter Try.func52, Try.ntmps52
  go_wp2_with fail
  refine (comps_any _).mono ?_; rintro e w' ⟨rfl, rfl⟩
  go_wp2_with fail
  refine (C1 _).mono ?_; rintro e w1 ⟨rfl, hb1⟩
  have ch1 := hb1
  obtain ⟨hc1, hf1⟩ := bcell ch1
  have hz1 : w.heap.size + 1 + 1 + 1 + 1 < w1.heap.size := by have := ch1.size; simp only [size5] at this; omega
  go_wp2_with fail
  refine (C2 _).mono ?_; rintro e w2 ⟨rfl, hb2⟩
  have ch2 := Below.chain ch1 hb2
  obtain ⟨hc2, hf2⟩ := bcell ch2
  have hz2 : w.heap.size + 1 + 1 + 1 + 1 < w2.heap.size := by have := ch2.size; simp only [size5] at this; omega
  go_wp2_with fail
  exact ret_ve rfl rfl rfl rfl (((null5 _ _ _ _ _ _ _ _ _).below ch2).set _ _ _ _) ⟨rfl, below_set4 (Below.chain (below_a5 _ _ _ _ _ _) ch2) (by omega) _ _ _ _⟩
set_option maxRecDepth 100000 in
theorem test_nb (op : ByteArray) (F : Value) (H : Looks op F true) (k n k' n' : Int) (f f' : Nat) (s s' : ByteArray) (C1 : ∀ w, Calls Try.prog 29 #[.agg #[.int .i64 k, .int .i64 n, .float .f64 f, .string s]] w fun e w' => e = .returned (.bool true) ∧ Below w.heap.size w w') (C2 : ∀ w, Calls Try.prog 29 #[.agg #[.int .i64 k', .int .i64 n', .float .f64 f', .string s']] w fun e w' => e = .returned (.bool true) ∧ Below w.heap.size w w') (h0 : (k == 0) = false) (h1 : (k' == 0) = true) (w : World) :
    Calls Try.prog 52 #[.string op, .agg #[.int .i64 k, .int .i64 n, .float .f64 f, .string s], .agg #[.int .i64 k', .int .i64 n', .float .f64 f', .string s']] w fun e w' => e = .returned (.tuple #[.agg #[.int .i64 0, .int .i64 0, .float .f64 0, .string ⟨#[]⟩], .int .i64 0]) ∧ Below w.heap.size w w' := by
  have hsf := run_store_float
  have HL := H.at w
  have HS := H.store
  clear H
  go_enter Try.func52, Try.ntmps52
  go_wp2_with fail
  refine (comps_any _).mono ?_; rintro e w' ⟨rfl, rfl⟩
  go_wp2_with fail
  refine (C1 _).mono ?_; rintro e w1 ⟨rfl, hb1⟩
  have ch1 := hb1
  obtain ⟨hc1, hf1⟩ := bcell ch1
  have hz1 : w.heap.size + 1 + 1 + 1 + 1 < w1.heap.size := by have := ch1.size; simp only [size5] at this; omega
  go_wp2_with fail
  refine (C2 _).mono ?_; rintro e w2 ⟨rfl, hb2⟩
  have ch2 := Below.chain ch1 hb2
  obtain ⟨hc2, hf2⟩ := bcell ch2
  have hz2 : w.heap.size + 1 + 1 + 1 + 1 < w2.heap.size := by have := ch2.size; simp only [size5] at this; omega
  go_wp2_with fail
  exact ret_ve rfl rfl rfl rfl (((null5 _ _ _ _ _ _ _ _ _).below ch2).set _ _ _ _) ⟨rfl, below_set4 (Below.chain (below_a5 _ _ _ _ _ _) ch2) (by omega) _ _ _ _⟩
set_option maxRecDepth 100000 in
theorem test_ta (op : ByteArray) (F : Value) (H : Looks op F true) (k n k' n' : Int) (f f' : Nat) (s s' : ByteArray) (C1 : ∀ w, Calls Try.prog 29 #[.agg #[.int .i64 k, .int .i64 n, .float .f64 f, .string s]] w fun e w' => e = .returned (.bool true) ∧ Below w.heap.size w w') (C2 : ∀ w, Calls Try.prog 29 #[.agg #[.int .i64 k', .int .i64 n', .float .f64 f', .string s']] w fun e w' => e = .returned (.bool true) ∧ Below w.heap.size w w') (h0 : (k == 0) = false) (h1 : (k' == 0) = false) (h2 : (k != k') = true) (C3 : ∀ w, Calls Try.prog 57 #[.agg #[.int .i64 k, .int .i64 n, .float .f64 f, .string s]] w fun e w' => e = .returned (.bool false) ∧ Below w.heap.size w w') (w : World) :
    Calls Try.prog 52 #[.string op, .agg #[.int .i64 k, .int .i64 n, .float .f64 f, .string s], .agg #[.int .i64 k', .int .i64 n', .float .f64 f', .string s']] w fun e w' => e = .returned (.tuple #[.agg #[.int .i64 0, .int .i64 0, .float .f64 0, .string ⟨#[]⟩], .int .i64 4]) ∧ Below w.heap.size w w' := by
  have hsf := run_store_float
  have HL := H.at w
  have HS := H.store
  clear H
  go_enter Try.func52, Try.ntmps52
  go_wp2_with fail
  refine (comps_any _).mono ?_; rintro e w' ⟨rfl, rfl⟩
  go_wp2_with fail
  refine (C1 _).mono ?_; rintro e w1 ⟨rfl, hb1⟩
  have ch1 := hb1
  obtain ⟨hc1, hf1⟩ := bcell ch1
  have hz1 : w.heap.size + 1 + 1 + 1 + 1 < w1.heap.size := by have := ch1.size; simp only [size5] at this; omega
  go_wp2_with fail
  refine (C2 _).mono ?_; rintro e w2 ⟨rfl, hb2⟩
  have ch2 := Below.chain ch1 hb2
  obtain ⟨hc2, hf2⟩ := bcell ch2
  have hz2 : w.heap.size + 1 + 1 + 1 + 1 < w2.heap.size := by have := ch2.size; simp only [size5] at this; omega
  go_wp2_with fail
  refine (C3 _).mono ?_; rintro e w3 ⟨rfl, hb3⟩
  have ch3 := Below.chain ch2 hb3
  obtain ⟨hc3, hf3⟩ := bcell ch3
  have hz3 : w.heap.size + 1 + 1 + 1 + 1 < w3.heap.size := by have := ch3.size; simp only [size5] at this; omega
  go_wp2_with fail
  exact ret_ve rfl rfl rfl rfl (((null5 _ _ _ _ _ _ _ _ _).below ch3).set _ _ _ _) ⟨rfl, below_set4 (Below.chain (below_a5 _ _ _ _ _ _) ch3) (by omega) _ _ _ _⟩
set_option maxRecDepth 100000 in
theorem test_tb (op : ByteArray) (F : Value) (H : Looks op F true) (k n k' n' : Int) (f f' : Nat) (s s' : ByteArray) (C1 : ∀ w, Calls Try.prog 29 #[.agg #[.int .i64 k, .int .i64 n, .float .f64 f, .string s]] w fun e w' => e = .returned (.bool true) ∧ Below w.heap.size w w') (C2 : ∀ w, Calls Try.prog 29 #[.agg #[.int .i64 k', .int .i64 n', .float .f64 f', .string s']] w fun e w' => e = .returned (.bool true) ∧ Below w.heap.size w w') (h0 : (k == 0) = false) (h1 : (k' == 0) = false) (h2 : (k != k') = true) (C3 : ∀ w, Calls Try.prog 57 #[.agg #[.int .i64 k, .int .i64 n, .float .f64 f, .string s]] w fun e w' => e = .returned (.bool true) ∧ Below w.heap.size w w') (C4 : ∀ w, Calls Try.prog 57 #[.agg #[.int .i64 k', .int .i64 n', .float .f64 f', .string s']] w fun e w' => e = .returned (.bool false) ∧ Below w.heap.size w w') (w : World) :
    Calls Try.prog 52 #[.string op, .agg #[.int .i64 k, .int .i64 n, .float .f64 f, .string s], .agg #[.int .i64 k', .int .i64 n', .float .f64 f', .string s']] w fun e w' => e = .returned (.tuple #[.agg #[.int .i64 0, .int .i64 0, .float .f64 0, .string ⟨#[]⟩], .int .i64 4]) ∧ Below w.heap.size w w' := by
  have hsf := run_store_float
  have HL := H.at w
  have HS := H.store
  clear H
  go_enter Try.func52, Try.ntmps52
  go_wp2_with fail
  refine (comps_any _).mono ?_; rintro e w' ⟨rfl, rfl⟩
  go_wp2_with fail
  refine (C1 _).mono ?_; rintro e w1 ⟨rfl, hb1⟩
  have ch1 := hb1
  obtain ⟨hc1, hf1⟩ := bcell ch1
  have hz1 : w.heap.size + 1 + 1 + 1 + 1 < w1.heap.size := by have := ch1.size; simp only [size5] at this; omega
  go_wp2_with fail
  refine (C2 _).mono ?_; rintro e w2 ⟨rfl, hb2⟩
  have ch2 := Below.chain ch1 hb2
  obtain ⟨hc2, hf2⟩ := bcell ch2
  have hz2 : w.heap.size + 1 + 1 + 1 + 1 < w2.heap.size := by have := ch2.size; simp only [size5] at this; omega
  go_wp2_with fail
  refine (C3 _).mono ?_; rintro e w3 ⟨rfl, hb3⟩
  have ch3 := Below.chain ch2 hb3
  obtain ⟨hc3, hf3⟩ := bcell ch3
  have hz3 : w.heap.size + 1 + 1 + 1 + 1 < w3.heap.size := by have := ch3.size; simp only [size5] at this; omega
  go_wp2_with fail
  refine (C4 _).mono ?_; rintro e w4 ⟨rfl, hb4⟩
  have ch4 := Below.chain ch3 hb4
  obtain ⟨hc4, hf4⟩ := bcell ch4
  have hz4 : w.heap.size + 1 + 1 + 1 + 1 < w4.heap.size := by have := ch4.size; simp only [size5] at this; omega
  go_wp2_with fail
  exact ret_ve rfl rfl rfl rfl (((null5 _ _ _ _ _ _ _ _ _).below ch4).set _ _ _ _) ⟨rfl, below_set4 (Below.chain (below_a5 _ _ _ _ _ _) ch4) (by omega) _ _ _ _⟩
set_option maxRecDepth 100000 in
theorem test_fe (op : ByteArray) (g : Nat) (H : Looks op (.func (.func g) #[] #[]) true) (k n k' n' : Int) (f f' : Nat) (s s' : ByteArray) (C1 : ∀ w, Calls Try.prog 29 #[.agg #[.int .i64 k, .int .i64 n, .float .f64 f, .string s]] w fun e w' => e = .returned (.bool true) ∧ Below w.heap.size w w') (C2 : ∀ w, Calls Try.prog 29 #[.agg #[.int .i64 k', .int .i64 n', .float .f64 f', .string s']] w fun e w' => e = .returned (.bool true) ∧ Below w.heap.size w w') (h0 : (k == 0) = false) (h1 : (k' == 0) = false) (h2 : (k != k') = false) (HG : ∀ (x : Int) (w : World), (callFunc g #[.int .i64 x]).run Try.prog w = .ok (.enter g #[.int .i64 x]) w) (o : Int) (B : Bool) (C5 : ∀ w, Calls Try.prog 60 #[.agg #[.int .i64 k, .int .i64 n, .float .f64 f, .string s], .agg #[.int .i64 k', .int .i64 n', .float .f64 f', .string s']] w fun e w' => e = .returned (.int .i64 o) ∧ Below w.heap.size w w') (C6 : ∀ w, Calls Try.prog g #[.int .i64 o] w fun e w' => e = .returned (.bool B) ∧ w = w') (w : World) :
    Calls Try.prog 52 #[.string op, .agg #[.int .i64 k, .int .i64 n, .float .f64 f, .string s], .agg #[.int .i64 k', .int .i64 n', .float .f64 f', .string s']] w fun e w' => e = .returned (.tuple #[.agg #[.int .i64 1, .int .i64 (b01 B), .float .f64 0, .string ⟨#[]⟩], .int .i64 0]) ∧ Below w.heap.size w w' := by
  have hsf := run_store_float
  have HL := H.at w
  have HS := H.store
  clear H
  go_enter Try.func52, Try.ntmps52
  go_wp2_with fail
  refine (comps_any _).mono ?_; rintro e w' ⟨rfl, rfl⟩
  go_wp2_with fail
  refine (C1 _).mono ?_; rintro e w1 ⟨rfl, hb1⟩
  have ch1 := hb1
  obtain ⟨hc1, hf1⟩ := bcell ch1
  have hz1 : w.heap.size + 1 + 1 + 1 + 1 < w1.heap.size := by have := ch1.size; simp only [size5] at this; omega
  go_wp2_with fail
  refine (C2 _).mono ?_; rintro e w2 ⟨rfl, hb2⟩
  have ch2 := Below.chain ch1 hb2
  obtain ⟨hc2, hf2⟩ := bcell ch2
  have hz2 : w.heap.size + 1 + 1 + 1 + 1 < w2.heap.size := by have := ch2.size; simp only [size5] at this; omega
  go_wp2_with fail
  have hS : w2.cell? ⟨w.heap.size + 1 + 1 + 1 + 1, 0, none⟩ = some (.func (.func g) #[] #[]) ∧ w2.cell? ⟨w.heap.size, 0, none⟩ = some (.int .i64 k) ∧ w2.cell? ⟨w.heap.size, 1, none⟩ = some (.int .i64 n) ∧ w2.cell? ⟨w.heap.size, 2, none⟩ = some (.float .f64 f) ∧ w2.cell? ⟨w.heap.size, 3, none⟩ = some (.string s) ∧ w2.cell? ⟨w.heap.size + 1, 0, none⟩ = some (.int .i64 k') ∧ w2.cell? ⟨w.heap.size + 1, 1, none⟩ = some (.int .i64 n') ∧ w2.cell? ⟨w.heap.size + 1, 2, none⟩ = some (.float .f64 f') ∧ w2.cell? ⟨w.heap.size + 1, 3, none⟩ = some (.string s') ∧ w2.cell? ⟨w.heap.size + 1 + 1, 0, none⟩ = some (.int .i64 0) ∧ w2.cell? ⟨w.heap.size + 1 + 1, 1, none⟩ = some (.int .i64 0) ∧ w2.cell? ⟨w.heap.size + 1 + 1, 2, none⟩ = some (.float .f64 0) ∧ w2.cell? ⟨w.heap.size + 1 + 1, 3, none⟩ = some (.string ⟨#[]⟩) ∧ w2.frozen? ⟨w.heap.size + 1 + 1, 0, none⟩ = false ∧ w2.frozen? ⟨w.heap.size + 1 + 1, 1, none⟩ = false ∧ w2.frozen? ⟨w.heap.size + 1 + 1, 2, none⟩ = false ∧ w2.frozen? ⟨w.heap.size + 1 + 1, 3, none⟩ = false := by
    refine ⟨?_, ?_, ?_, ?_, ?_, ?_, ?_, ?_, ?_, ?_, ?_, ?_, ?_, ?_, ?_, ?_, ?_⟩ <;> go_simp
  have hN : w2.cell? ⟨w.heap.size + 1 + 1 + 1 + 1, 0, none⟩ = some (.func (.func g) #[] #[]) ∧ w2.cell? ⟨w.heap.size, 0, none⟩ = some (.int .i64 k) ∧ w2.cell? ⟨w.heap.size, 1, none⟩ = some (.int .i64 n) ∧ w2.cell? ⟨w.heap.size, 2, none⟩ = some (.float .f64 f) ∧ w2.cell? ⟨w.heap.size, 3, none⟩ = some (.string s) ∧ w2.cell? ⟨w.heap.size + 1, 0, none⟩ = some (.int .i64 k') ∧ w2.cell? ⟨w.heap.size + 1, 1, none⟩ = some (.int .i64 n') ∧ w2.cell? ⟨w.heap.size + 1, 2, none⟩ = some (.float .f64 f') ∧ w2.cell? ⟨w.heap.size + 1, 3, none⟩ = some (.string s') := ⟨hS.1, hS.2.1, hS.2.2.1, hS.2.2.2.1, hS.2.2.2.2.1, hS.2.2.2.2.2.1, hS.2.2.2.2.2.2.1, hS.2.2.2.2.2.2.2.1, hS.2.2.2.2.2.2.2.2.1⟩
  have HS' := Lib.hid hS
  have HN := Lib.hid hN
  have C7 := truth_any B
  clear hc1 hf1 hc2 hf2 hS hN 
  go_region_held3 (fun W => W.cell? ⟨w.heap.size + 1 + 1 + 1 + 1, 0, none⟩ = some (.func (.func g) #[] #[]) ∧ W.cell? ⟨w.heap.size, 0, none⟩ = some (.int .i64 k) ∧ W.cell? ⟨w.heap.size, 1, none⟩ = some (.int .i64 n) ∧ W.cell? ⟨w.heap.size, 2, none⟩ = some (.float .f64 f) ∧ W.cell? ⟨w.heap.size, 3, none⟩ = some (.string s) ∧ W.cell? ⟨w.heap.size + 1, 0, none⟩ = some (.int .i64 k') ∧ W.cell? ⟨w.heap.size + 1, 1, none⟩ = some (.int .i64 n') ∧ W.cell? ⟨w.heap.size + 1, 2, none⟩ = some (.float .f64 f') ∧ W.cell? ⟨w.heap.size + 1, 3, none⟩ = some (.string s')) (first | exact kept9 HN.out (Below.refl _ _).drew | exact kept9 HN.out (Below.chain (Below.refl _ _).drew hba) | exact kept9 HN.out hch | exact kept9s (kept9 HN.out hch) (by omega) (by omega) (by omega))
    (first | ((with_reducible refine (C5 _).mono ?_); rintro e wa ⟨rfl, hba⟩) | ((with_reducible refine (C6 _).mono ?_); rintro e wb ⟨rfl, rfl⟩) | ((with_reducible refine (C7 _).mono ?_); rintro e wt ⟨rfl, hbt⟩; have hch := Below.chain (Below.chain (Below.refl _ _).drew hba) hbt; have hR := (keptS HS'.out hch).2.2.2.2.2.2.2.2.2; obtain ⟨r0, r1, r2, r3, f0, f1, f2, f3⟩ := hR))
  all_goals
    go_wp2_with fail
    exact ret_ve rfl rfl rfl rfl (Lies.set ⟨r0, r1, r2, r3⟩ _ _ _ _) ⟨rfl, below_set4 (Below.chain (Below.chain (below_a5 _ _ _ _ _ _) ch2) hch) (by omega) _ _ _ _⟩
set_option maxRecDepth 100000 in
theorem test_fn (op : ByteArray) (g : Nat) (H : Looks op (.func (.func g) #[] #[]) true) (k n k' n' : Int) (f f' : Nat) (s s' : ByteArray) (C1 : ∀ w, Calls Try.prog 29 #[.agg #[.int .i64 k, .int .i64 n, .float .f64 f, .string s]] w fun e w' => e = .returned (.bool true) ∧ Below w.heap.size w w') (C2 : ∀ w, Calls Try.prog 29 #[.agg #[.int .i64 k', .int .i64 n', .float .f64 f', .string s']] w fun e w' => e = .returned (.bool true) ∧ Below w.heap.size w w') (h0 : (k == 0) = false) (h1 : (k' == 0) = false) (h2 : (k != k') = true) (C3 : ∀ w, Calls Try.prog 57 #[.agg #[.int .i64 k, .int .i64 n, .float .f64 f, .string s]] w fun e w' => e = .returned (.bool true) ∧ Below w.heap.size w w') (C4 : ∀ w, Calls Try.prog 57 #[.agg #[.int .i64 k', .int .i64 n', .float .f64 f', .string s']] w fun e w' => e = .returned (.bool true) ∧ Below w.heap.size w w') (HG : ∀ (x : Int) (w : World), (callFunc g #[.int .i64 x]).run Try.prog w = .ok (.enter g #[.int .i64 x]) w) (o : Int) (B : Bool) (C5 : ∀ w, Calls Try.prog 60 #[.agg #[.int .i64 k, .int .i64 n, .float .f64 f, .string s], .agg #[.int .i64 k', .int .i64 n', .float .f64 f', .string s']] w fun e w' => e = .returned (.int .i64 o) ∧ Below w.heap.size w w') (C6 : ∀ w, Calls Try.prog g #[.int .i64 o] w fun e w' => e = .returned (.bool B) ∧ w = w') (w : World) :
    Calls Try.prog 52 #[.string op, .agg #[.int .i64 k, .int .i64 n, .float .f64 f, .string s], .agg #[.int .i64 k', .int .i64 n', .float .f64 f', .string s']] w fun e w' => e = .returned (.tuple #[.agg #[.int .i64 1, .int .i64 (b01 B), .float .f64 0, .string ⟨#[]⟩], .int .i64 0]) ∧ Below w.heap.size w w' := by
  have hsf := run_store_float
  have HL := H.at w
  have HS := H.store
  clear H
  go_enter Try.func52, Try.ntmps52
  go_wp2_with fail
  refine (comps_any _).mono ?_; rintro e w' ⟨rfl, rfl⟩
  go_wp2_with fail
  refine (C1 _).mono ?_; rintro e w1 ⟨rfl, hb1⟩
  have ch1 := hb1
  obtain ⟨hc1, hf1⟩ := bcell ch1
  have hz1 : w.heap.size + 1 + 1 + 1 + 1 < w1.heap.size := by have := ch1.size; simp only [size5] at this; omega
  go_wp2_with fail
  refine (C2 _).mono ?_; rintro e w2 ⟨rfl, hb2⟩
  have ch2 := Below.chain ch1 hb2
  obtain ⟨hc2, hf2⟩ := bcell ch2
  have hz2 : w.heap.size + 1 + 1 + 1 + 1 < w2.heap.size := by have := ch2.size; simp only [size5] at this; omega
  go_wp2_with fail
  refine (C3 _).mono ?_; rintro e w3 ⟨rfl, hb3⟩
  have ch3 := Below.chain ch2 hb3
  obtain ⟨hc3, hf3⟩ := bcell ch3
  have hz3 : w.heap.size + 1 + 1 + 1 + 1 < w3.heap.size := by have := ch3.size; simp only [size5] at this; omega
  go_wp2_with fail
  refine (C4 _).mono ?_; rintro e w4 ⟨rfl, hb4⟩
  have ch4 := Below.chain ch3 hb4
  obtain ⟨hc4, hf4⟩ := bcell ch4
  have hz4 : w.heap.size + 1 + 1 + 1 + 1 < w4.heap.size := by have := ch4.size; simp only [size5] at this; omega
  go_wp2_with fail
  have hS : w4.cell? ⟨w.heap.size + 1 + 1 + 1 + 1, 0, none⟩ = some (.func (.func g) #[] #[]) ∧ w4.cell? ⟨w.heap.size, 0, none⟩ = some (.int .i64 k) ∧ w4.cell? ⟨w.heap.size, 1, none⟩ = some (.int .i64 n) ∧ w4.cell? ⟨w.heap.size, 2, none⟩ = some (.float .f64 f) ∧ w4.cell? ⟨w.heap.size, 3, none⟩ = some (.string s) ∧ w4.cell? ⟨w.heap.size + 1, 0, none⟩ = some (.int .i64 k') ∧ w4.cell? ⟨w.heap.size + 1, 1, none⟩ = some (.int .i64 n') ∧ w4.cell? ⟨w.heap.size + 1, 2, none⟩ = some (.float .f64 f') ∧ w4.cell? ⟨w.heap.size + 1, 3, none⟩ = some (.string s') ∧ w4.cell? ⟨w.heap.size + 1 + 1, 0, none⟩ = some (.int .i64 0) ∧ w4.cell? ⟨w.heap.size + 1 + 1, 1, none⟩ = some (.int .i64 0) ∧ w4.cell? ⟨w.heap.size + 1 + 1, 2, none⟩ = some (.float .f64 0) ∧ w4.cell? ⟨w.heap.size + 1 + 1, 3, none⟩ = some (.string ⟨#[]⟩) ∧ w4.frozen? ⟨w.heap.size + 1 + 1, 0, none⟩ = false ∧ w4.frozen? ⟨w.heap.size + 1 + 1, 1, none⟩ = false ∧ w4.frozen? ⟨w.heap.size + 1 + 1, 2, none⟩ = false ∧ w4.frozen? ⟨w.heap.size + 1 + 1, 3, none⟩ = false := by
    refine ⟨?_, ?_, ?_, ?_, ?_, ?_, ?_, ?_, ?_, ?_, ?_, ?_, ?_, ?_, ?_, ?_, ?_⟩ <;> go_simp
  have hN : w4.cell? ⟨w.heap.size + 1 + 1 + 1 + 1, 0, none⟩ = some (.func (.func g) #[] #[]) ∧ w4.cell? ⟨w.heap.size, 0, none⟩ = some (.int .i64 k) ∧ w4.cell? ⟨w.heap.size, 1, none⟩ = some (.int .i64 n) ∧ w4.cell? ⟨w.heap.size, 2, none⟩ = some (.float .f64 f) ∧ w4.cell? ⟨w.heap.size, 3, none⟩ = some (.string s) ∧ w4.cell? ⟨w.heap.size + 1, 0, none⟩ = some (.int .i64 k') ∧ w4.cell? ⟨w.heap.size + 1, 1, none⟩ = some (.int .i64 n') ∧ w4.cell? ⟨w.heap.size + 1, 2, none⟩ = some (.float .f64 f') ∧ w4.cell? ⟨w.heap.size + 1, 3, none⟩ = some (.string s') := ⟨hS.1, hS.2.1, hS.2.2.1, hS.2.2.2.1, hS.2.2.2.2.1, hS.2.2.2.2.2.1, hS.2.2.2.2.2.2.1, hS.2.2.2.2.2.2.2.1, hS.2.2.2.2.2.2.2.2.1⟩
  have HS' := Lib.hid hS
  have HN := Lib.hid hN
  have C7 := truth_any B
  clear hc1 hf1 hc2 hf2 hS hN hc3 hf3 hc4 hf4
  go_region_held3 (fun W => W.cell? ⟨w.heap.size + 1 + 1 + 1 + 1, 0, none⟩ = some (.func (.func g) #[] #[]) ∧ W.cell? ⟨w.heap.size, 0, none⟩ = some (.int .i64 k) ∧ W.cell? ⟨w.heap.size, 1, none⟩ = some (.int .i64 n) ∧ W.cell? ⟨w.heap.size, 2, none⟩ = some (.float .f64 f) ∧ W.cell? ⟨w.heap.size, 3, none⟩ = some (.string s) ∧ W.cell? ⟨w.heap.size + 1, 0, none⟩ = some (.int .i64 k') ∧ W.cell? ⟨w.heap.size + 1, 1, none⟩ = some (.int .i64 n') ∧ W.cell? ⟨w.heap.size + 1, 2, none⟩ = some (.float .f64 f') ∧ W.cell? ⟨w.heap.size + 1, 3, none⟩ = some (.string s')) (first | exact kept9 HN.out (Below.refl _ _).drew | exact kept9 HN.out (Below.chain (Below.refl _ _).drew hba) | exact kept9 HN.out hch | exact kept9s (kept9 HN.out hch) (by omega) (by omega) (by omega))
    (first | ((with_reducible refine (C5 _).mono ?_); rintro e wa ⟨rfl, hba⟩) | ((with_reducible refine (C6 _).mono ?_); rintro e wb ⟨rfl, rfl⟩) | ((with_reducible refine (C7 _).mono ?_); rintro e wt ⟨rfl, hbt⟩; have hch := Below.chain (Below.chain (Below.refl _ _).drew hba) hbt; have hR := (keptS HS'.out hch).2.2.2.2.2.2.2.2.2; obtain ⟨r0, r1, r2, r3, f0, f1, f2, f3⟩ := hR))
  all_goals
    go_wp2_with fail
    exact ret_ve rfl rfl rfl rfl (Lies.set ⟨r0, r1, r2, r3⟩ _ _ _ _) ⟨rfl, below_set4 (Below.chain (Below.chain (below_a5 _ _ _ _ _ _) ch4) hch) (by omega) _ _ _ _⟩
theorem cf1 (x : Int) (w : World) : (callFunc 70 #[.int .i64 x]).run Try.prog w = .ok (.enter 70 #[.int .i64 x]) w := by
  go_simp
theorem cf2 (x : Int) (w : World) : (callFunc 71 #[.int .i64 x]).run Try.prog w = .ok (.enter 71 #[.int .i64 x]) w := by
  go_simp
theorem cf3 (x : Int) (w : World) : (callFunc 72 #[.int .i64 x]).run Try.prog w = .ok (.enter 72 #[.int .i64 x]) w := by
  go_simp
theorem cf4 (x : Int) (w : World) : (callFunc 73 #[.int .i64 x]).run Try.prog w = .ok (.enter 73 #[.int .i64 x]) w := by
  go_simp
theorem cf5 (x : Int) (w : World) : (callFunc 74 #[.int .i64 x]).run Try.prog w = .ok (.enter 74 #[.int .i64 x]) w := by
  go_simp
theorem cf6 (x : Int) (w : World) : (callFunc 75 #[.int .i64 x]).run Try.prog w = .ok (.enter 75 #[.int .i64 x]) w := by
  go_simp
end Go.Proofs.Ytfhnjilflffdfaa

namespace Go.Proofs.Ytfhnjilflffdfaa
open Go Go.RowKit
set_option linter.unusedVariables false
/-- which of the six signs; 0: none -/
def opI (s : ByteArray) : Nat := if s.toList = [61] then 1 else if s.toList = [60, 62] then 2 else if s.toList = [60] then 3 else if s.toList = [60, 61] then 4 else if s.toList = [62] then 5 else if s.toList = [62, 61] then 6 else 0
theorem str_of {s : ByteArray} {l : List UInt8} (h : s.toList = l) : s = ⟨l.toArray⟩ := bytes_eq (by rw [← Lib.toList_data]; exact h)
theorem ne_of {s : ByteArray} {l : List UInt8} (h : s.toList ≠ l) : s ≠ ⟨l.toArray⟩ := fun e => h (by rw [e, Lib.toList_data])
theorem looks1 : Looks ⟨#[61]⟩ (.func (.func 70) #[] #[]) true := ⟨rfl, fun b w h => look_c1 b w h⟩
theorem looks2 : Looks ⟨#[60, 62]⟩ (.func (.func 71) #[] #[]) true := ⟨rfl, fun b w h => look_c2 b w h⟩
theorem looks3 : Looks ⟨#[60]⟩ (.func (.func 72) #[] #[]) true := ⟨rfl, fun b w h => look_c3 b w h⟩
theorem looks4 : Looks ⟨#[60, 61]⟩ (.func (.func 73) #[] #[]) true := ⟨rfl, fun b w h => look_c4 b w h⟩
theorem looks5 : Looks ⟨#[62]⟩ (.func (.func 74) #[] #[]) true := ⟨rfl, fun b w h => look_c5 b w h⟩
theorem looks6 : Looks ⟨#[62, 61]⟩ (.func (.func 75) #[] #[]) true := ⟨rfl, fun b w h => look_c6 b w h⟩
theorem looks0 {op : ByteArray} (h : opI op = 0) : Looks op .nilFunc false := by
  have h1 : op.toList ≠ [61] := fun e => by simp [opI, e] at h
  have h2 : op.toList ≠ [60, 62] := fun e => by simp [opI, e] at h
  have h3 : op.toList ≠ [60] := fun e => by simp [opI, e] at h
  have h4 : op.toList ≠ [60, 61] := fun e => by simp [opI, e] at h
  have h5 : op.toList ≠ [62] := fun e => by simp [opI, e] at h
  have h6 : op.toList ≠ [62, 61] := fun e => by simp [opI, e] at h
  exact ⟨rfl, fun b w h => look_c0 b w h op (ne_of h1) (ne_of h2) (ne_of h3) (ne_of h4) (ne_of h5) (ne_of h6)⟩
/-- what Test tells -/
def testR (op : ByteArray) (k n : Int) (f : Nat) (s : ByteArray) (k' n' : Int) (f' : Nat) (s' : ByteArray) : Int × Int × Int :=
  if opI op = 0 ∨ rightB k n f s = false ∨ rightB k' n' f' s' = false then (0, 0, 1) else if k = 0 ∨ k' = 0 then (0, 0, 0) else if k ≠ k' ∧ (numB k && numB k') = false then (0, 0, 4) else (1, b01 (holdB (opI op) (ordI k n f s k' n' f' s')), 0)
/-- the known signs: their function, and that it holds what it should -/
structure Sign (op : ByteArray) (i g : Nat) : Prop where
  ix : opI op = i
  nz : i ≠ 0
  look : Looks op (.func (.func g) #[] #[]) true
  call : ∀ (x : Int) (w : World), (callFunc g #[.int .i64 x]).run Try.prog w = .ok (.enter g #[.int .i64 x]) w
  holds : ∀ (o : Int) (w : World), Calls Try.prog g #[.int .i64 o] w fun e w' => e = .returned (.bool (holdB i o)) ∧ w = w'
theorem sign1 : Sign ⟨#[61]⟩ 1 70 := ⟨by unfold opI; rw [Lib.toList_data]; rfl, by decide, looks1, cf1, hold1⟩
theorem sign2 : Sign ⟨#[60, 62]⟩ 2 71 := ⟨by unfold opI; rw [Lib.toList_data]; rfl, by decide, looks2, cf2, hold2⟩
theorem sign3 : Sign ⟨#[60]⟩ 3 72 := ⟨by unfold opI; rw [Lib.toList_data]; rfl, by decide, looks3, cf3, hold3⟩
theorem sign4 : Sign ⟨#[60, 61]⟩ 4 73 := ⟨by unfold opI; rw [Lib.toList_data]; rfl, by decide, looks4, cf4, hold4⟩
theorem sign5 : Sign ⟨#[62]⟩ 5 74 := ⟨by unfold opI; rw [Lib.toList_data]; rfl, by decide, looks5, cf5, hold5⟩
theorem sign6 : Sign ⟨#[62, 61]⟩ 6 75 := ⟨by unfold opI; rw [Lib.toList_data]; rfl, by decide, looks6, cf6, hold6⟩
theorem sign_of (op : ByteArray) (h : opI op ≠ 0) : ∃ i g, Sign op i g := by
  have h0 := h
  unfold opI at h
  by_cases h1 : op.toList = [61]
  · rw [str_of h1]; exact ⟨_, _, sign1⟩
  by_cases h2 : op.toList = [60, 62]
  · rw [str_of h2]; exact ⟨_, _, sign2⟩
  by_cases h3 : op.toList = [60]
  · rw [str_of h3]; exact ⟨_, _, sign3⟩
  by_cases h4 : op.toList = [60, 61]
  · rw [str_of h4]; exact ⟨_, _, sign4⟩
  by_cases h5 : op.toList = [62]
  · rw [str_of h5]; exact ⟨_, _, sign5⟩
  by_cases h6 : op.toList = [62, 61]
  · rw [str_of h6]; exact ⟨_, _, sign6⟩
  · rw [if_neg h1, if_neg h2, if_neg h3, if_neg h4, if_neg h5, if_neg h6] at h
    exact absurd rfl h
theorem ret_ve' {k n k' n' e e' : Int} (h : (k, n, e) = (k', n', e')) {w w' : World} {x : Ending} (hx : x = .returned (.tuple #[.agg #[.int .i64 k, .int .i64 n, .float .f64 0, .string ⟨#[]⟩], .int .i64 e]) ∧ Below w.heap.size w w') :
    x = .returned (.tuple #[.agg #[.int .i64 k', .int .i64 n', .float .f64 0, .string ⟨#[]⟩], .int .i64 e']) ∧ Below w.heap.size w w' := by
  simp only [Prod.mk.injEq] at h
  obtain ⟨rfl, rfl, rfl⟩ := h
  exact hx
theorem bool_cases (b : Bool) : b = false ∨ b = true := by cases b <;> simp
theorem test_any (op : ByteArray) (k n k' n' : Int) (f f' : Nat) (s s' : ByteArray) (n1 : -9223372036854775808 ≤ n) (n2 : n ≤ 9223372036854775807) (n1' : -9223372036854775808 ≤ n') (n2' : n' ≤ 9223372036854775807) (hf : f < 18446744073709551616) (hf' : f' < 18446744073709551616) (w : World) :
    Calls Try.prog 52 #[.string op, .agg #[.int .i64 k, .int .i64 n, .float .f64 f, .string s], .agg #[.int .i64 k', .int .i64 n', .float .f64 f', .string s']] w fun e w' => e = .returned (.tuple #[.agg #[.int .i64 (testR op k n f s k' n' f' s').1, .int .i64 (testR op k n f s k' n' f' s').2.1, .float .f64 0, .string ⟨#[]⟩], .int .i64 (testR op k n f s k' n' f' s').2.2]) ∧ Below w.heap.size w w' := by
  by_cases h0 : opI op = 0
  · refine (test_unk op _ (looks0 h0) k n k' n' f f' s s' w).mono fun e w' h => ret_ve' ?_ h
    simp [testR, h0]
  obtain ⟨i, g, hs⟩ := sign_of op h0
  have R1 := right_any k n f hf s
  have R2 := right_any k' n' f' hf' s'
  rcases bool_cases (rightB k n f s) with ha | ha
  · rw [ha] at R1
    refine (test_ra op _ hs.look k n k' n' f f' s s' R1 w).mono fun e w' h => ret_ve' ?_ h
    simp [testR, ha]
  rcases bool_cases (rightB k' n' f' s') with hb | hb
  · rw [ha] at R1
    rw [hb] at R2
    refine (test_rb op _ hs.look k n k' n' f f' s s' R1 R2 w).mono fun e w' h => ret_ve' ?_ h
    simp [testR, hb]
  rw [ha] at R1
  rw [hb] at R2
  by_cases k0 : k = 0
  · refine (test_na op _ hs.look k n k' n' f f' s s' R1 R2 (by simpa using k0) w).mono fun e w' h => ret_ve' ?_ h
    unfold testR
    rw [if_neg (by simp [h0, ha, hb]), if_pos (Or.inl k0)]
  have k0' : (k == 0) = false := by simpa using k0
  by_cases l0 : k' = 0
  · refine (test_nb op _ hs.look k n k' n' f f' s s' R1 R2 k0' (by simpa using l0) w).mono fun e w' h => ret_ve' ?_ h
    unfold testR
    rw [if_neg (by simp [h0, ha, hb]), if_pos (Or.inr l0)]
  have l0' : (k' == 0) = false := by simpa using l0
  have O := ordr_any k n k' n' f f' s s' n1 n2 n1' n2' hf hf'
  by_cases e0 : k = k'
  · refine (test_fe op g hs.look k n k' n' f f' s s' R1 R2 k0' l0' (by simpa using e0) hs.call _ _ O (hs.holds _) w).mono fun e w' h => ret_ve' ?_ h
    rw [← hs.ix]
    unfold testR
    rw [if_neg (by simp [h0, ha, hb]), if_neg (by simp [k0, l0]), if_neg (by simp [e0])]
  have e0' : (k != k') = true := by simpa using e0
  have N1 := isnum_any k n f s
  have N2 := isnum_any k' n' f' s'
  rcases bool_cases (numB k) with m1 | m1
  · rw [m1] at N1
    refine (test_ta op _ hs.look k n k' n' f f' s s' R1 R2 k0' l0' e0' N1 w).mono fun e w' h => ret_ve' ?_ h
    simp [testR, h0, ha, hb, k0, l0, e0, m1]
  rcases bool_cases (numB k') with m2 | m2
  · rw [m1] at N1
    rw [m2] at N2
    refine (test_tb op _ hs.look k n k' n' f f' s s' R1 R2 k0' l0' e0' N1 N2 w).mono fun e w' h => ret_ve' ?_ h
    simp [testR, h0, ha, hb, k0, l0, e0, m2]
  · rw [m1] at N1
    rw [m2] at N2
    refine (test_fn op g hs.look k n k' n' f f' s s' R1 R2 k0' l0' e0' N1 N2 hs.call _ _ O (hs.holds _) w).mono fun e w' h => ret_ve' ?_ h
    rw [← hs.ix]
    unfold testR
    rw [if_neg (by simp [h0, ha, hb]), if_neg (by simp [k0, l0]), if_neg (by simp [m1, m2])]
end Go.Proofs.Ytfhnjilflffdfaa

