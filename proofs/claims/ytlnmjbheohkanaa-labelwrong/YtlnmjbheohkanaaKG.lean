import Derived.Test.YtlnmjbheohkanaaKF
namespace Go.Proofs.Ytlnmjbheohkanaa
open Go Go.RowKit
set_option linter.unusedVariables false
theorem findKey_now {t : TypeId} {d : TypeDesc} {k : Value} {es : List MapEntry} {r : Option (Nat × Value)} (ht : Try.prog.underlying t = some d) (h : Instr.findNow d k es 0 = some r) (w : World) : (Instr.findKey t k es).run Try.prog w = .ok r w := by
  simp [Instr.findKey, run_underlying ht, h]
theorem set_alloc (w : World) (o o' : Obj) : ({ w.alloc o with heap := (w.alloc o).heap.setIfInBounds w.heap.size o' } : World) = w.alloc o' := by
  have e : (w.heap.push o).setIfInBounds w.heap.size o' = w.heap.push o' := by
    apply Array.ext'
    simp
  show ({ w with heap := (w.heap.push o).setIfInBounds w.heap.size o' } : World) = { w with heap := w.heap.push o' }
  rw [e]
theorem check_int (em : Bool) (n : Int) (W : World) : (Instr.checkKey em 10000 3 (.int .i64 n)).run Try.prog W = .ok () W := MapKept.run_checkKey Try.underlying3 (by simp [MapKept.IsKey]) em 9999
theorem ins_new (w : World) (t e : TypeId) (es : Array MapEntry) (c : Nat) (n : Int) (v : Value) (ht : Try.prog.underlying t = some (.map 3 e)) (h : Instr.findNow (.int .i64) (.int .i64 n) es.toList 0 = some none) :
    (Instr.mapUpdate t (.map (some w.heap.size)) (.int .i64 n) v).run Try.prog (w.alloc (.map es c)) = .ok () (w.alloc (.map (es.push { key := .int .i64 n, val := v, born := c }) (c + 1))) := by
  have hb : (w.alloc (.map es c)).heap[w.heap.size]? = some (.map es c) := heap_alloc_new w _
  have hk := findKey_now (t := 3) Try.underlying3 h
  have hck := check_int false n
  simp only [Instr.mapUpdate]
  generalize 10000 = N at hck
  simp [run_underlying ht, MapKept.run_getObj_map hb, hck, hk, MapKept.run_setObj_map _ hb, Result.andThen]
  exact set_alloc w _ _
theorem look_hit (b : Nat) (w : World) (es : Array MapEntry) (c : Nat) (n : Int) (e : TypeId) {t : TypeId} (ht : Try.prog.underlying t = some (.map 3 e)) (hb : w.heap[b]? = some (.map es c)) (i : Nat) (v : Value) (h : Instr.findNow (.int .i64) (.int .i64 n) es.toList 0 = some (some (i, v))) (ok : Bool) :
    (Instr.lookup t (.map (some b)) (.int .i64 n) ok).run Try.prog w = .ok (if ok then .tuple #[v, .bool true] else v) w := by
  have hk := findKey_now (t := 3) Try.underlying3 h
  have hck := fun em W => check_int em n W
  simp only [Instr.lookup]
  generalize 10000 = N at hck
  cases ok <;> simp [run_underlying ht, MapKept.run_getObj_map hb, hck, hk, Result.andThen]
theorem look_miss (b : Nat) (w : World) (es : Array MapEntry) (c : Nat) (n : Int) (e : TypeId) {t : TypeId} {z : Value} (ht : Try.prog.underlying t = some (.map 3 e)) (hz : ∀ w, (zeroValue e).run Try.prog w = .ok z w) (hb : w.heap[b]? = some (.map es c)) (h : Instr.findNow (.int .i64) (.int .i64 n) es.toList 0 = some none) :
    (Instr.lookup t (.map (some b)) (.int .i64 n) true).run Try.prog w = .ok (.tuple #[z, .bool false]) w := by
  have hk := findKey_now (t := 3) Try.underlying3 h
  have hck := fun em W => check_int em n W
  simp only [Instr.lookup]
  generalize 10000 = N at hck
  simp [run_underlying ht, MapKept.run_getObj_map hb, hck, hk, hz, Result.andThen]
def ents_k : Array MapEntry := #[{ key := .int .i64 4, val := .agg #[.func (.func 17) #[] #[], .int .i64 0, .func (.func 42) #[] #[]], born := 0 }, { key := .int .i64 5, val := .agg #[.func (.func 41) #[] #[], .int .i64 0, .func (.func 44) #[] #[]], born := 1 }, { key := .int .i64 6, val := .agg #[.func (.func 41) #[] #[], .int .i64 1, .func (.func 45) #[] #[]], born := 2 }, { key := .int .i64 7, val := .agg #[.func (.func 41) #[] #[], .int .i64 2, .func (.func 46) #[] #[]], born := 3 }, { key := .int .i64 8, val := .agg #[.func (.func 41) #[] #[], .int .i64 2, .func (.func 47) #[] #[]], born := 4 }]
set_option maxRecDepth 100000 in
theorem terms_any (w : World) : Calls Try.prog 29 #[] w fun e w' => e = .returned (.map (some w.heap.size)) ∧ w.alloc (.map ents_k 5) = w' := by
  have hmm := @run_makeMap Try.prog
  have i1 : (Instr.mapUpdate 48 (.map (some w.heap.size)) (.int .i64 4) (.agg #[.func (.func 17) #[] #[], .int .i64 0, .func (.func 42) #[] #[]])).run Try.prog (w.alloc (.map #[] 0)) = .ok () (w.alloc (.map #[{ key := .int .i64 4, val := .agg #[.func (.func 17) #[] #[], .int .i64 0, .func (.func 42) #[] #[]], born := 0 }] 1)) := ins_new w 48 59 #[] 0 _ _ Try.underlying48 rfl
  have i2 : (Instr.mapUpdate 48 (.map (some w.heap.size)) (.int .i64 5) (.agg #[.func (.func 41) #[] #[], .int .i64 0, .func (.func 44) #[] #[]])).run Try.prog (w.alloc (.map #[{ key := .int .i64 4, val := .agg #[.func (.func 17) #[] #[], .int .i64 0, .func (.func 42) #[] #[]], born := 0 }] 1)) = .ok () (w.alloc (.map #[{ key := .int .i64 4, val := .agg #[.func (.func 17) #[] #[], .int .i64 0, .func (.func 42) #[] #[]], born := 0 }, { key := .int .i64 5, val := .agg #[.func (.func 41) #[] #[], .int .i64 0, .func (.func 44) #[] #[]], born := 1 }] 2)) := ins_new w 48 59 #[{ key := .int .i64 4, val := .agg #[.func (.func 17) #[] #[], .int .i64 0, .func (.func 42) #[] #[]], born := 0 }] 1 _ _ Try.underlying48 rfl
  have i3 : (Instr.mapUpdate 48 (.map (some w.heap.size)) (.int .i64 6) (.agg #[.func (.func 41) #[] #[], .int .i64 1, .func (.func 45) #[] #[]])).run Try.prog (w.alloc (.map #[{ key := .int .i64 4, val := .agg #[.func (.func 17) #[] #[], .int .i64 0, .func (.func 42) #[] #[]], born := 0 }, { key := .int .i64 5, val := .agg #[.func (.func 41) #[] #[], .int .i64 0, .func (.func 44) #[] #[]], born := 1 }] 2)) = .ok () (w.alloc (.map #[{ key := .int .i64 4, val := .agg #[.func (.func 17) #[] #[], .int .i64 0, .func (.func 42) #[] #[]], born := 0 }, { key := .int .i64 5, val := .agg #[.func (.func 41) #[] #[], .int .i64 0, .func (.func 44) #[] #[]], born := 1 }, { key := .int .i64 6, val := .agg #[.func (.func 41) #[] #[], .int .i64 1, .func (.func 45) #[] #[]], born := 2 }] 3)) := ins_new w 48 59 #[{ key := .int .i64 4, val := .agg #[.func (.func 17) #[] #[], .int .i64 0, .func (.func 42) #[] #[]], born := 0 }, { key := .int .i64 5, val := .agg #[.func (.func 41) #[] #[], .int .i64 0, .func (.func 44) #[] #[]], born := 1 }] 2 _ _ Try.underlying48 rfl
  have i4 : (Instr.mapUpdate 48 (.map (some w.heap.size)) (.int .i64 7) (.agg #[.func (.func 41) #[] #[], .int .i64 2, .func (.func 46) #[] #[]])).run Try.prog (w.alloc (.map #[{ key := .int .i64 4, val := .agg #[.func (.func 17) #[] #[], .int .i64 0, .func (.func 42) #[] #[]], born := 0 }, { key := .int .i64 5, val := .agg #[.func (.func 41) #[] #[], .int .i64 0, .func (.func 44) #[] #[]], born := 1 }, { key := .int .i64 6, val := .agg #[.func (.func 41) #[] #[], .int .i64 1, .func (.func 45) #[] #[]], born := 2 }] 3)) = .ok () (w.alloc (.map #[{ key := .int .i64 4, val := .agg #[.func (.func 17) #[] #[], .int .i64 0, .func (.func 42) #[] #[]], born := 0 }, { key := .int .i64 5, val := .agg #[.func (.func 41) #[] #[], .int .i64 0, .func (.func 44) #[] #[]], born := 1 }, { key := .int .i64 6, val := .agg #[.func (.func 41) #[] #[], .int .i64 1, .func (.func 45) #[] #[]], born := 2 }, { key := .int .i64 7, val := .agg #[.func (.func 41) #[] #[], .int .i64 2, .func (.func 46) #[] #[]], born := 3 }] 4)) := ins_new w 48 59 #[{ key := .int .i64 4, val := .agg #[.func (.func 17) #[] #[], .int .i64 0, .func (.func 42) #[] #[]], born := 0 }, { key := .int .i64 5, val := .agg #[.func (.func 41) #[] #[], .int .i64 0, .func (.func 44) #[] #[]], born := 1 }, { key := .int .i64 6, val := .agg #[.func (.func 41) #[] #[], .int .i64 1, .func (.func 45) #[] #[]], born := 2 }] 3 _ _ Try.underlying48 rfl
  have i5 : (Instr.mapUpdate 48 (.map (some w.heap.size)) (.int .i64 8) (.agg #[.func (.func 41) #[] #[], .int .i64 2, .func (.func 47) #[] #[]])).run Try.prog (w.alloc (.map #[{ key := .int .i64 4, val := .agg #[.func (.func 17) #[] #[], .int .i64 0, .func (.func 42) #[] #[]], born := 0 }, { key := .int .i64 5, val := .agg #[.func (.func 41) #[] #[], .int .i64 0, .func (.func 44) #[] #[]], born := 1 }, { key := .int .i64 6, val := .agg #[.func (.func 41) #[] #[], .int .i64 1, .func (.func 45) #[] #[]], born := 2 }, { key := .int .i64 7, val := .agg #[.func (.func 41) #[] #[], .int .i64 2, .func (.func 46) #[] #[]], born := 3 }] 4)) = .ok () (w.alloc (.map #[{ key := .int .i64 4, val := .agg #[.func (.func 17) #[] #[], .int .i64 0, .func (.func 42) #[] #[]], born := 0 }, { key := .int .i64 5, val := .agg #[.func (.func 41) #[] #[], .int .i64 0, .func (.func 44) #[] #[]], born := 1 }, { key := .int .i64 6, val := .agg #[.func (.func 41) #[] #[], .int .i64 1, .func (.func 45) #[] #[]], born := 2 }, { key := .int .i64 7, val := .agg #[.func (.func 41) #[] #[], .int .i64 2, .func (.func 46) #[] #[]], born := 3 }, { key := .int .i64 8, val := .agg #[.func (.func 41) #[] #[], .int .i64 2, .func (.func 47) #[] #[]], born := 4 }] 5)) := ins_new w 48 59 #[{ key := .int .i64 4, val := .agg #[.func (.func 17) #[] #[], .int .i64 0, .func (.func 42) #[] #[]], born := 0 }, { key := .int .i64 5, val := .agg #[.func (.func 41) #[] #[], .int .i64 0, .func (.func 44) #[] #[]], born := 1 }, { key := .int .i64 6, val := .agg #[.func (.func 41) #[] #[], .int .i64 1, .func (.func 45) #[] #[]], born := 2 }, { key := .int .i64 7, val := .agg #[.func (.func 41) #[] #[], .int .i64 2, .func (.func 46) #[] #[]], born := 3 }] 4 _ _ Try.underlying48 rfl
  go_enter Try.func29, Try.ntmps29
  go_wp2_with fail
  go_ret
  exact ⟨rfl, rfl⟩
/-- the table in block g -/
def Tb (w : World) (g : Nat) : Prop := w.heap[g]? = some (.map ents_k 5)
theorem Tb.lt {w : World} {g : Nat} (h : Tb w g) : g < w.heap.size := (Array.getElem?_eq_some_iff.1 h).1
theorem Tb.keepB {w w' : World} {g B : Nat} (h : Tb w g) (hb : Below B w w') (hB : g < B) : Tb w' g := (hb.block g hB).trans h
theorem Tb.keep {w w' : World} {g : Nat} (h : Tb w g) (hb : Below w.heap.size w w') : Tb w' g := h.keepB hb h.lt
theorem Tb.new (w : World) : Tb (w.alloc (.map ents_k 5)) w.heap.size := heap_alloc_new w _
theorem look_t4 (g : Nat) (w : World) (h : Tb w g) : (Instr.lookup 48 (.map (some g)) (.int .i64 4) true).run Try.prog w = .ok (.tuple #[.agg #[.func (.func 17) #[] #[], .int .i64 0, .func (.func 42) #[] #[]], .bool true]) w := look_hit g w _ _ _ _ Try.underlying48 h 0 _ rfl true
theorem look_f4 (g : Nat) (w : World) (h : Tb w g) : (Instr.lookup 48 (.map (some g)) (.int .i64 4) false).run Try.prog w = .ok (.agg #[.func (.func 17) #[] #[], .int .i64 0, .func (.func 42) #[] #[]]) w := look_hit g w _ _ _ _ Try.underlying48 h 0 _ rfl false
theorem look_t5 (g : Nat) (w : World) (h : Tb w g) : (Instr.lookup 48 (.map (some g)) (.int .i64 5) true).run Try.prog w = .ok (.tuple #[.agg #[.func (.func 41) #[] #[], .int .i64 0, .func (.func 44) #[] #[]], .bool true]) w := look_hit g w _ _ _ _ Try.underlying48 h 1 _ rfl true
theorem look_f5 (g : Nat) (w : World) (h : Tb w g) : (Instr.lookup 48 (.map (some g)) (.int .i64 5) false).run Try.prog w = .ok (.agg #[.func (.func 41) #[] #[], .int .i64 0, .func (.func 44) #[] #[]]) w := look_hit g w _ _ _ _ Try.underlying48 h 1 _ rfl false
theorem look_t6 (g : Nat) (w : World) (h : Tb w g) : (Instr.lookup 48 (.map (some g)) (.int .i64 6) true).run Try.prog w = .ok (.tuple #[.agg #[.func (.func 41) #[] #[], .int .i64 1, .func (.func 45) #[] #[]], .bool true]) w := look_hit g w _ _ _ _ Try.underlying48 h 2 _ rfl true
theorem look_f6 (g : Nat) (w : World) (h : Tb w g) : (Instr.lookup 48 (.map (some g)) (.int .i64 6) false).run Try.prog w = .ok (.agg #[.func (.func 41) #[] #[], .int .i64 1, .func (.func 45) #[] #[]]) w := look_hit g w _ _ _ _ Try.underlying48 h 2 _ rfl false
theorem look_t7 (g : Nat) (w : World) (h : Tb w g) : (Instr.lookup 48 (.map (some g)) (.int .i64 7) true).run Try.prog w = .ok (.tuple #[.agg #[.func (.func 41) #[] #[], .int .i64 2, .func (.func 46) #[] #[]], .bool true]) w := look_hit g w _ _ _ _ Try.underlying48 h 3 _ rfl true
theorem look_f7 (g : Nat) (w : World) (h : Tb w g) : (Instr.lookup 48 (.map (some g)) (.int .i64 7) false).run Try.prog w = .ok (.agg #[.func (.func 41) #[] #[], .int .i64 2, .func (.func 46) #[] #[]]) w := look_hit g w _ _ _ _ Try.underlying48 h 3 _ rfl false
theorem look_t8 (g : Nat) (w : World) (h : Tb w g) : (Instr.lookup 48 (.map (some g)) (.int .i64 8) true).run Try.prog w = .ok (.tuple #[.agg #[.func (.func 41) #[] #[], .int .i64 2, .func (.func 47) #[] #[]], .bool true]) w := look_hit g w _ _ _ _ Try.underlying48 h 4 _ rfl true
theorem look_f8 (g : Nat) (w : World) (h : Tb w g) : (Instr.lookup 48 (.map (some g)) (.int .i64 8) false).run Try.prog w = .ok (.agg #[.func (.func 41) #[] #[], .int .i64 2, .func (.func 47) #[] #[]]) w := look_hit g w _ _ _ _ Try.underlying48 h 4 _ rfl false
theorem look_t0 (g : Nat) (w : World) (h : Tb w g) (n : Int) (h4 : (n == 4) = false) (h5 : (n == 5) = false) (h6 : (n == 6) = false) (h7 : (n == 7) = false) (h8 : (n == 8) = false) : (Instr.lookup 48 (.map (some g)) (.int .i64 n) true).run Try.prog w = .ok (.tuple #[.agg #[.nilFunc, .int .i64 0, .nilFunc], .bool false]) w :=
  look_miss g w _ _ n _ Try.underlying48 Try.zeroValue59 h (by simp [ents_k, Instr.findNow, Instr.sameNow, h4, h5, h6, h7, h8])
theorem nameless_any (s : ByteArray) (w : World) : Calls Try.prog 41 #[.string s] w fun e w' => e = .returned (.bool (s.toList == [])) ∧ w = w' := by
  generalize hs : (s.toList == []) = bs
  go_enter Try.func41, Try.ntmps41
  go_wp2_with fail
  go_ret
  exact ⟨by simp_all, rfl⟩
theorem lnothing_any (v : Vl) (hv : v.Ok) (w : World) : Calls Try.prog 37 #[.agg #[.int .i64 v.k, .int .i64 v.n, .float .f64 v.f, .string v.s]] w fun e w' => e = .returned (.bool v.nought) ∧ Below w.heap.size w w' := by
  have hq := feq0 v.f hv.f2
  have hz : v.nought = (v.k == 0 && (v.n == 0 && (decide (v.f = 0 ∨ v.f = 9223372036854775808) && (v.s.toList == [])))) := by
    unfold Vl.nought
    rw [Bool.eq_iff_iff]
    simp
  rw [hz]
  clear hz hv
  obtain ⟨k, n, f, s⟩ := v
  simp only at hq ⊢
  generalize decide (f = 0 ∨ f = 9223372036854775808) = bf at *
  generalize hk : (k == 0) = bk at *
  generalize hn : (n == 0) = bn at *
  generalize hs : (s.toList == []) = bs at *
  have c0 := below_a1 w (.cells #[.int .i64 k, .int .i64 n, .float .f64 f, .string s] 25)
  go_enter Try.func37, Try.ntmps37
  go_wp2_with fail
  all_goals
    go_ret
    exact ⟨by simp_all, c0⟩
end Go.Proofs.Ytlnmjbheohkanaa
