import Derived.Test.YtnjlcdemfdokoaaGreatDoorVe
import Derived.Test.YtnjlcdemfdokoaaGreatDoorWt
namespace Go.Proofs.YtnjlcdemfdokoaaGreatDoor
open Go Go.RowKit
theorem findKey_now {t : TypeId} {k : Value} {es : List MapEntry} {r : Option (Nat × Value)} (ht : Tryz.prog.underlying t = some .string) (h : Instr.findNow .string k es 0 = some r) (w : World) : (Instr.findKey t k es).run Tryz.prog w = .ok r w := by
  simp [Instr.findKey, run_underlying ht, h]
theorem set_alloc (w : World) (o o' : Obj) : ({ w.alloc o with heap := (w.alloc o).heap.setIfInBounds w.heap.size o' } : World) = w.alloc o' := by
  have e : (w.heap.push o).setIfInBounds w.heap.size o' = w.heap.push o' := by
    apply Array.ext'
    simp
  show ({ w with heap := (w.heap.push o).setIfInBounds w.heap.size o' } : World) = { w with heap := w.heap.push o' }
  rw [e]
theorem check_str (em : Bool) (s : ByteArray) (W : World) : (Instr.checkKey em 10000 9 (.string s)).run Tryz.prog W = .ok () W := MapKept.run_checkKey Tryz.underlying9 (by simp [MapKept.IsKey]) em 9999
theorem ins_new (w : World) (t e : TypeId) (es : Array MapEntry) (c : Nat) (s : ByteArray) (v : Value) (ht : Tryz.prog.underlying t = some (.map 9 e)) (h : Instr.findNow .string (.string s) es.toList 0 = some none) :
    (Instr.mapUpdate t (.map (some w.heap.size)) (.string s) v).run Tryz.prog (w.alloc (.map es c)) = .ok () (w.alloc (.map (es.push { key := .string s, val := v, born := c }) (c + 1))) := by
  have hb : (w.alloc (.map es c)).heap[w.heap.size]? = some (.map es c) := heap_alloc_new w _
  have hk := findKey_now (t := 9) Tryz.underlying9 h
  have hck := check_str false s
  simp only [Instr.mapUpdate]
  generalize 10000 = N at hck
  simp [run_underlying ht, MapKept.run_getObj_map hb, hck, hk, MapKept.run_setObj_map _ hb, Result.andThen]
  exact set_alloc w _ _
theorem bne_of {a b : ByteArray} (h : a ≠ b) : (a == b) = false := Bool.eq_false_iff.2 fun e => h ((MapKept.bytes_beq _ _).1 e)
theorem look_hit (b : Nat) (w : World) (es : Array MapEntry) (c : Nat) (s : ByteArray) (e : TypeId) {t : TypeId} (ht : Tryz.prog.underlying t = some (.map 9 e)) (hb : w.heap[b]? = some (.map es c)) (i : Nat) (v : Value) (h : Instr.findNow .string (.string s) es.toList 0 = some (some (i, v))) :
    (Instr.lookup t (.map (some b)) (.string s) true).run Tryz.prog w = .ok (.tuple #[v, .bool true]) w := by
  have hk := findKey_now (t := 9) Tryz.underlying9 h
  have hck := fun em W => check_str em s W
  simp only [Instr.lookup]
  generalize 10000 = N at hck
  simp [run_underlying ht, MapKept.run_getObj_map hb, hck, hk, Result.andThen]
theorem look_miss (b : Nat) (w : World) (es : Array MapEntry) (c : Nat) (s : ByteArray) (e : TypeId) {t : TypeId} {z : Value} (ht : Tryz.prog.underlying t = some (.map 9 e)) (hz : ∀ w, (zeroValue e).run Tryz.prog w = .ok z w) (hb : w.heap[b]? = some (.map es c)) (h : Instr.findNow .string (.string s) es.toList 0 = some none) :
    (Instr.lookup t (.map (some b)) (.string s) true).run Tryz.prog w = .ok (.tuple #[z, .bool false]) w := by
  have hk := findKey_now (t := 9) Tryz.underlying9 h
  have hck := fun em W => check_str em s W
  simp only [Instr.lookup]
  generalize 10000 = N at hck
  simp [run_underlying ht, MapKept.run_getObj_map hb, hck, hk, hz, Result.andThen]
def ents_c : Array MapEntry := #[{ key := .string ⟨#[61]⟩, val := .agg #[.func (.func 80) #[] #[]], born := 0 }, { key := .string ⟨#[60, 62]⟩, val := .agg #[.func (.func 81) #[] #[]], born := 1 }, { key := .string ⟨#[60]⟩, val := .agg #[.func (.func 82) #[] #[]], born := 2 }, { key := .string ⟨#[60, 61]⟩, val := .agg #[.func (.func 83) #[] #[]], born := 3 }, { key := .string ⟨#[62]⟩, val := .agg #[.func (.func 84) #[] #[]], born := 4 }, { key := .string ⟨#[62, 61]⟩, val := .agg #[.func (.func 85) #[] #[]], born := 5 }]
def ents_o : Array MapEntry := #[{ key := .string ⟨#[43]⟩, val := .agg #[.func (.func 89) #[] #[], .func (.func 90) #[] #[]], born := 0 }, { key := .string ⟨#[45]⟩, val := .agg #[.func (.func 91) #[] #[], .func (.func 92) #[] #[]], born := 1 }, { key := .string ⟨#[42]⟩, val := .agg #[.func (.func 93) #[] #[], .func (.func 94) #[] #[]], born := 2 }]
set_option maxRecDepth 100000 in
theorem comps_any (w : World) : Calls Tryz.prog 49 #[] w fun e w' => e = .returned (.map (some w.heap.size)) ∧ w.alloc (.map ents_c 6) = w' := by
  have hmm := @run_makeMap Tryz.prog
  have i1 : (Instr.mapUpdate 65 (.map (some w.heap.size)) (.string ⟨#[61]⟩) (.agg #[.func (.func 80) #[] #[]])).run Tryz.prog (w.alloc (.map #[] 0)) = .ok () (w.alloc (.map #[{ key := .string ⟨#[61]⟩, val := .agg #[.func (.func 80) #[] #[]], born := 0 }] 1)) := ins_new w 65 63 #[] 0 _ _ Tryz.underlying65 rfl
  have i2 : (Instr.mapUpdate 65 (.map (some w.heap.size)) (.string ⟨#[60, 62]⟩) (.agg #[.func (.func 81) #[] #[]])).run Tryz.prog (w.alloc (.map #[{ key := .string ⟨#[61]⟩, val := .agg #[.func (.func 80) #[] #[]], born := 0 }] 1)) = .ok () (w.alloc (.map #[{ key := .string ⟨#[61]⟩, val := .agg #[.func (.func 80) #[] #[]], born := 0 }, { key := .string ⟨#[60, 62]⟩, val := .agg #[.func (.func 81) #[] #[]], born := 1 }] 2)) := ins_new w 65 63 #[{ key := .string ⟨#[61]⟩, val := .agg #[.func (.func 80) #[] #[]], born := 0 }] 1 _ _ Tryz.underlying65 rfl
  have i3 : (Instr.mapUpdate 65 (.map (some w.heap.size)) (.string ⟨#[60]⟩) (.agg #[.func (.func 82) #[] #[]])).run Tryz.prog (w.alloc (.map #[{ key := .string ⟨#[61]⟩, val := .agg #[.func (.func 80) #[] #[]], born := 0 }, { key := .string ⟨#[60, 62]⟩, val := .agg #[.func (.func 81) #[] #[]], born := 1 }] 2)) = .ok () (w.alloc (.map #[{ key := .string ⟨#[61]⟩, val := .agg #[.func (.func 80) #[] #[]], born := 0 }, { key := .string ⟨#[60, 62]⟩, val := .agg #[.func (.func 81) #[] #[]], born := 1 }, { key := .string ⟨#[60]⟩, val := .agg #[.func (.func 82) #[] #[]], born := 2 }] 3)) := ins_new w 65 63 #[{ key := .string ⟨#[61]⟩, val := .agg #[.func (.func 80) #[] #[]], born := 0 }, { key := .string ⟨#[60, 62]⟩, val := .agg #[.func (.func 81) #[] #[]], born := 1 }] 2 _ _ Tryz.underlying65 rfl
  have i4 : (Instr.mapUpdate 65 (.map (some w.heap.size)) (.string ⟨#[60, 61]⟩) (.agg #[.func (.func 83) #[] #[]])).run Tryz.prog (w.alloc (.map #[{ key := .string ⟨#[61]⟩, val := .agg #[.func (.func 80) #[] #[]], born := 0 }, { key := .string ⟨#[60, 62]⟩, val := .agg #[.func (.func 81) #[] #[]], born := 1 }, { key := .string ⟨#[60]⟩, val := .agg #[.func (.func 82) #[] #[]], born := 2 }] 3)) = .ok () (w.alloc (.map #[{ key := .string ⟨#[61]⟩, val := .agg #[.func (.func 80) #[] #[]], born := 0 }, { key := .string ⟨#[60, 62]⟩, val := .agg #[.func (.func 81) #[] #[]], born := 1 }, { key := .string ⟨#[60]⟩, val := .agg #[.func (.func 82) #[] #[]], born := 2 }, { key := .string ⟨#[60, 61]⟩, val := .agg #[.func (.func 83) #[] #[]], born := 3 }] 4)) := ins_new w 65 63 #[{ key := .string ⟨#[61]⟩, val := .agg #[.func (.func 80) #[] #[]], born := 0 }, { key := .string ⟨#[60, 62]⟩, val := .agg #[.func (.func 81) #[] #[]], born := 1 }, { key := .string ⟨#[60]⟩, val := .agg #[.func (.func 82) #[] #[]], born := 2 }] 3 _ _ Tryz.underlying65 rfl
  have i5 : (Instr.mapUpdate 65 (.map (some w.heap.size)) (.string ⟨#[62]⟩) (.agg #[.func (.func 84) #[] #[]])).run Tryz.prog (w.alloc (.map #[{ key := .string ⟨#[61]⟩, val := .agg #[.func (.func 80) #[] #[]], born := 0 }, { key := .string ⟨#[60, 62]⟩, val := .agg #[.func (.func 81) #[] #[]], born := 1 }, { key := .string ⟨#[60]⟩, val := .agg #[.func (.func 82) #[] #[]], born := 2 }, { key := .string ⟨#[60, 61]⟩, val := .agg #[.func (.func 83) #[] #[]], born := 3 }] 4)) = .ok () (w.alloc (.map #[{ key := .string ⟨#[61]⟩, val := .agg #[.func (.func 80) #[] #[]], born := 0 }, { key := .string ⟨#[60, 62]⟩, val := .agg #[.func (.func 81) #[] #[]], born := 1 }, { key := .string ⟨#[60]⟩, val := .agg #[.func (.func 82) #[] #[]], born := 2 }, { key := .string ⟨#[60, 61]⟩, val := .agg #[.func (.func 83) #[] #[]], born := 3 }, { key := .string ⟨#[62]⟩, val := .agg #[.func (.func 84) #[] #[]], born := 4 }] 5)) := ins_new w 65 63 #[{ key := .string ⟨#[61]⟩, val := .agg #[.func (.func 80) #[] #[]], born := 0 }, { key := .string ⟨#[60, 62]⟩, val := .agg #[.func (.func 81) #[] #[]], born := 1 }, { key := .string ⟨#[60]⟩, val := .agg #[.func (.func 82) #[] #[]], born := 2 }, { key := .string ⟨#[60, 61]⟩, val := .agg #[.func (.func 83) #[] #[]], born := 3 }] 4 _ _ Tryz.underlying65 rfl
  have i6 : (Instr.mapUpdate 65 (.map (some w.heap.size)) (.string ⟨#[62, 61]⟩) (.agg #[.func (.func 85) #[] #[]])).run Tryz.prog (w.alloc (.map #[{ key := .string ⟨#[61]⟩, val := .agg #[.func (.func 80) #[] #[]], born := 0 }, { key := .string ⟨#[60, 62]⟩, val := .agg #[.func (.func 81) #[] #[]], born := 1 }, { key := .string ⟨#[60]⟩, val := .agg #[.func (.func 82) #[] #[]], born := 2 }, { key := .string ⟨#[60, 61]⟩, val := .agg #[.func (.func 83) #[] #[]], born := 3 }, { key := .string ⟨#[62]⟩, val := .agg #[.func (.func 84) #[] #[]], born := 4 }] 5)) = .ok () (w.alloc (.map #[{ key := .string ⟨#[61]⟩, val := .agg #[.func (.func 80) #[] #[]], born := 0 }, { key := .string ⟨#[60, 62]⟩, val := .agg #[.func (.func 81) #[] #[]], born := 1 }, { key := .string ⟨#[60]⟩, val := .agg #[.func (.func 82) #[] #[]], born := 2 }, { key := .string ⟨#[60, 61]⟩, val := .agg #[.func (.func 83) #[] #[]], born := 3 }, { key := .string ⟨#[62]⟩, val := .agg #[.func (.func 84) #[] #[]], born := 4 }, { key := .string ⟨#[62, 61]⟩, val := .agg #[.func (.func 85) #[] #[]], born := 5 }] 6)) := ins_new w 65 63 #[{ key := .string ⟨#[61]⟩, val := .agg #[.func (.func 80) #[] #[]], born := 0 }, { key := .string ⟨#[60, 62]⟩, val := .agg #[.func (.func 81) #[] #[]], born := 1 }, { key := .string ⟨#[60]⟩, val := .agg #[.func (.func 82) #[] #[]], born := 2 }, { key := .string ⟨#[60, 61]⟩, val := .agg #[.func (.func 83) #[] #[]], born := 3 }, { key := .string ⟨#[62]⟩, val := .agg #[.func (.func 84) #[] #[]], born := 4 }] 5 _ _ Tryz.underlying65 rfl
  go_enter Tryz.func49, Tryz.ntmps49
  go_wp2_with fail
  go_ret
  exact ⟨rfl, rfl⟩
set_option maxRecDepth 100000 in
theorem opers_any (w : World) : Calls Tryz.prog 56 #[] w fun e w' => e = .returned (.map (some w.heap.size)) ∧ w.alloc (.map ents_o 3) = w' := by
  have hmm := @run_makeMap Tryz.prog
  have i1 : (Instr.mapUpdate 76 (.map (some w.heap.size)) (.string ⟨#[43]⟩) (.agg #[.func (.func 89) #[] #[], .func (.func 90) #[] #[]])).run Tryz.prog (w.alloc (.map #[] 0)) = .ok () (w.alloc (.map #[{ key := .string ⟨#[43]⟩, val := .agg #[.func (.func 89) #[] #[], .func (.func 90) #[] #[]], born := 0 }] 1)) := ins_new w 76 74 #[] 0 _ _ Tryz.underlying76 rfl
  have i2 : (Instr.mapUpdate 76 (.map (some w.heap.size)) (.string ⟨#[45]⟩) (.agg #[.func (.func 91) #[] #[], .func (.func 92) #[] #[]])).run Tryz.prog (w.alloc (.map #[{ key := .string ⟨#[43]⟩, val := .agg #[.func (.func 89) #[] #[], .func (.func 90) #[] #[]], born := 0 }] 1)) = .ok () (w.alloc (.map #[{ key := .string ⟨#[43]⟩, val := .agg #[.func (.func 89) #[] #[], .func (.func 90) #[] #[]], born := 0 }, { key := .string ⟨#[45]⟩, val := .agg #[.func (.func 91) #[] #[], .func (.func 92) #[] #[]], born := 1 }] 2)) := ins_new w 76 74 #[{ key := .string ⟨#[43]⟩, val := .agg #[.func (.func 89) #[] #[], .func (.func 90) #[] #[]], born := 0 }] 1 _ _ Tryz.underlying76 rfl
  have i3 : (Instr.mapUpdate 76 (.map (some w.heap.size)) (.string ⟨#[42]⟩) (.agg #[.func (.func 93) #[] #[], .func (.func 94) #[] #[]])).run Tryz.prog (w.alloc (.map #[{ key := .string ⟨#[43]⟩, val := .agg #[.func (.func 89) #[] #[], .func (.func 90) #[] #[]], born := 0 }, { key := .string ⟨#[45]⟩, val := .agg #[.func (.func 91) #[] #[], .func (.func 92) #[] #[]], born := 1 }] 2)) = .ok () (w.alloc (.map #[{ key := .string ⟨#[43]⟩, val := .agg #[.func (.func 89) #[] #[], .func (.func 90) #[] #[]], born := 0 }, { key := .string ⟨#[45]⟩, val := .agg #[.func (.func 91) #[] #[], .func (.func 92) #[] #[]], born := 1 }, { key := .string ⟨#[42]⟩, val := .agg #[.func (.func 93) #[] #[], .func (.func 94) #[] #[]], born := 2 }] 3)) := ins_new w 76 74 #[{ key := .string ⟨#[43]⟩, val := .agg #[.func (.func 89) #[] #[], .func (.func 90) #[] #[]], born := 0 }, { key := .string ⟨#[45]⟩, val := .agg #[.func (.func 91) #[] #[], .func (.func 92) #[] #[]], born := 1 }] 2 _ _ Tryz.underlying76 rfl
  go_enter Tryz.func56, Tryz.ntmps56
  go_wp2_with fail
  go_ret
  exact ⟨rfl, rfl⟩
theorem look_c1 (b : Nat) (w : World) (h : w.heap[b]? = some (.map ents_c 6)) : (Instr.lookup 65 (.map (some b)) (.string ⟨#[61]⟩) true).run Tryz.prog w = .ok (.tuple #[.agg #[.func (.func 80) #[] #[]], .bool true]) w :=
  look_hit b w _ _ _ _ Tryz.underlying65 h 0 _ rfl

theorem look_c2 (b : Nat) (w : World) (h : w.heap[b]? = some (.map ents_c 6)) : (Instr.lookup 65 (.map (some b)) (.string ⟨#[60, 62]⟩) true).run Tryz.prog w = .ok (.tuple #[.agg #[.func (.func 81) #[] #[]], .bool true]) w :=
  look_hit b w _ _ _ _ Tryz.underlying65 h 1 _ rfl

theorem look_c3 (b : Nat) (w : World) (h : w.heap[b]? = some (.map ents_c 6)) : (Instr.lookup 65 (.map (some b)) (.string ⟨#[60]⟩) true).run Tryz.prog w = .ok (.tuple #[.agg #[.func (.func 82) #[] #[]], .bool true]) w :=
  look_hit b w _ _ _ _ Tryz.underlying65 h 2 _ rfl

theorem look_c4 (b : Nat) (w : World) (h : w.heap[b]? = some (.map ents_c 6)) : (Instr.lookup 65 (.map (some b)) (.string ⟨#[60, 61]⟩) true).run Tryz.prog w = .ok (.tuple #[.agg #[.func (.func 83) #[] #[]], .bool true]) w :=
  look_hit b w _ _ _ _ Tryz.underlying65 h 3 _ rfl

theorem look_c5 (b : Nat) (w : World) (h : w.heap[b]? = some (.map ents_c 6)) : (Instr.lookup 65 (.map (some b)) (.string ⟨#[62]⟩) true).run Tryz.prog w = .ok (.tuple #[.agg #[.func (.func 84) #[] #[]], .bool true]) w :=
  look_hit b w _ _ _ _ Tryz.underlying65 h 4 _ rfl

theorem look_c6 (b : Nat) (w : World) (h : w.heap[b]? = some (.map ents_c 6)) : (Instr.lookup 65 (.map (some b)) (.string ⟨#[62, 61]⟩) true).run Tryz.prog w = .ok (.tuple #[.agg #[.func (.func 85) #[] #[]], .bool true]) w :=
  look_hit b w _ _ _ _ Tryz.underlying65 h 5 _ rfl

theorem look_c0 (b : Nat) (w : World) (h : w.heap[b]? = some (.map ents_c 6)) (s : ByteArray) (h1 : s ≠ ⟨#[61]⟩) (h2 : s ≠ ⟨#[60, 62]⟩) (h3 : s ≠ ⟨#[60]⟩) (h4 : s ≠ ⟨#[60, 61]⟩) (h5 : s ≠ ⟨#[62]⟩) (h6 : s ≠ ⟨#[62, 61]⟩) : (Instr.lookup 65 (.map (some b)) (.string s) true).run Tryz.prog w = .ok (.tuple #[.agg #[.nilFunc], .bool false]) w :=
  look_miss b w _ _ s _ Tryz.underlying65 Tryz.zeroValue63 h (by simp [ents_c, Instr.findNow, Instr.sameNow, bne_of h1, bne_of h2, bne_of h3, bne_of h4, bne_of h5, bne_of h6])
theorem look_o1 (b : Nat) (w : World) (h : w.heap[b]? = some (.map ents_o 3)) : (Instr.lookup 76 (.map (some b)) (.string ⟨#[43]⟩) true).run Tryz.prog w = .ok (.tuple #[.agg #[.func (.func 89) #[] #[], .func (.func 90) #[] #[]], .bool true]) w :=
  look_hit b w _ _ _ _ Tryz.underlying76 h 0 _ rfl

theorem look_o2 (b : Nat) (w : World) (h : w.heap[b]? = some (.map ents_o 3)) : (Instr.lookup 76 (.map (some b)) (.string ⟨#[45]⟩) true).run Tryz.prog w = .ok (.tuple #[.agg #[.func (.func 91) #[] #[], .func (.func 92) #[] #[]], .bool true]) w :=
  look_hit b w _ _ _ _ Tryz.underlying76 h 1 _ rfl

theorem look_o3 (b : Nat) (w : World) (h : w.heap[b]? = some (.map ents_o 3)) : (Instr.lookup 76 (.map (some b)) (.string ⟨#[42]⟩) true).run Tryz.prog w = .ok (.tuple #[.agg #[.func (.func 93) #[] #[], .func (.func 94) #[] #[]], .bool true]) w :=
  look_hit b w _ _ _ _ Tryz.underlying76 h 2 _ rfl

theorem look_o0 (b : Nat) (w : World) (h : w.heap[b]? = some (.map ents_o 3)) (s : ByteArray) (h1 : s ≠ ⟨#[43]⟩) (h2 : s ≠ ⟨#[45]⟩) (h3 : s ≠ ⟨#[42]⟩) : (Instr.lookup 76 (.map (some b)) (.string s) true).run Tryz.prog w = .ok (.tuple #[.agg #[.nilFunc, .nilFunc], .bool false]) w :=
  look_miss b w _ _ s _ Tryz.underlying76 Tryz.zeroValue74 h (by simp [ents_o, Instr.findNow, Instr.sameNow, bne_of h1, bne_of h2, bne_of h3])
end Go.Proofs.YtnjlcdemfdokoaaGreatDoor
