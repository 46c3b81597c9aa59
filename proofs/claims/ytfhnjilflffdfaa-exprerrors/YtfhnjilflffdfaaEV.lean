import Derived.Test.YtfhnjilflffdfaaED
namespace Go.Proofs.Ytfhnjilflffdfaa
open Go Go.RowKit
set_option linter.unusedVariables false
abbrev sLt : ByteArray := ⟨#[60]⟩
abbrev sEq : ByteArray := ⟨#[61]⟩
abbrev sX : ByteArray := ⟨#[120]⟩
abbrev sY : ByteArray := ⟨#[121]⟩
abbrev propE (s : ByteArray) : Ex := .node 2 s Vl.zero []
abbrev lX : List Pr := [(sX, ⟨2, 2, 0, ⟨#[]⟩⟩)]
theorem lX_ok : PsOk lX := by
  intro q hq
  have : q = (sX, ⟨2, 2, 0, ⟨#[]⟩⟩) := by simpa using hq
  rw [this]
  exact ⟨whole_right 2, by decide, by decide, by decide⟩
theorem nil_ok : PsOk [] := fun q hq => by cases hq
theorem formed_prop {s : ByteArray} (h : s.toList ≠ []) : formed (propE s) = true := by
  rw [formed, if_neg (by decide), if_pos rfl, zero_nought]
  simp [h]
theorem deep_prop (s : ByteArray) : deep (propE s) = 1 := by rw [deep]; simp [deepL]
theorem ev_prop (l : List Pr) (s : ByteArray) : ev l (propE s) = some (findP s l, false) := by rw [ev, if_neg (by decide), if_pos rfl]
theorem opN_lt : opN sLt = 2 := by unfold opN; rw [Lib.toList_data]; decide
theorem opN_eq : opN sEq = 2 := by unfold opN; rw [Lib.toList_data]; decide
theorem sX_ne : sX.toList ≠ [] := by rw [Lib.toList_data]; decide
theorem sY_ne : sY.toList ≠ [] := by rw [Lib.toList_data]; decide
theorem find_x : findP sX lX = ⟨2, 2, 0, ⟨#[]⟩⟩ := by
  unfold findP lX
  have : ((sX : ByteArray).toList == sX.toList) = true := by simp
  simp only [List.find?_cons, this]
theorem find_y : findP sY lX = Vl.zero := by
  unfold findP lX
  have : ((sX : ByteArray).toList == sY.toList) = false := by rw [Lib.toList_data, Lib.toList_data]; decide
  simp only [List.find?_cons, this, List.find?_nil]
theorem comb_test {s : ByteArray} (h1 : ¬ (s.toList = [97, 110, 100] ∨ s.toList = [111, 114])) (h2 : opO s = 0) (a b : Vl × Bool) : comb2 s a b = if (testR s a.1.k a.1.n a.1.f a.1.s b.1.k b.1.n b.1.f b.1.s).2.2 = 0 then some (⟨(testR s a.1.k a.1.n a.1.f a.1.s b.1.k b.1.n b.1.f b.1.s).1, (testR s a.1.k a.1.n a.1.f a.1.s b.1.k b.1.n b.1.f b.1.s).2.1, 0, ⟨#[]⟩⟩, a.2 || b.2) else none := by
  unfold comb2; rw [if_neg h1, if_neg (by simp [h2])]
theorem lt_not_logic : ¬ (sLt.toList = [97, 110, 100] ∨ sLt.toList = [111, 114]) := by rw [Lib.toList_data]; decide
theorem eq_not_logic : ¬ (sEq.toList = [97, 110, 100] ∨ sEq.toList = [111, 114]) := by rw [Lib.toList_data]; decide
theorem opO_lt : opO sLt = 0 := by unfold opO; rw [Lib.toList_data]; rfl
theorem opO_eq : opO sEq = 0 := by unfold opO; rw [Lib.toList_data]; rfl
theorem right_lt (s : ByteArray) (hs : s.toList ≠ []) : rightE (opE sLt [propE s, wholeE 3]) = true := (rightE_iff _).2 ⟨by rw [deep2, deep_prop, deep_lit]; decide, formed2 opN_lt (formed_prop hs) (formed_lit (whole_right 3))⟩
theorem shown1 : holdsR lX (opE sLt [propE sX, wholeE 3]) = (true, 0) := by
  have e : evalR lX (opE sLt [propE sX, wholeE 3]) = (⟨1, 1, 0, ⟨#[]⟩⟩, 0) := by
    rw [evalR_of (right_lt sX sX_ne), ev2, ev_prop, ev_lit, find_x]
    show outR (comb2 sLt _ _) = _
    rw [comb_test lt_not_logic opO_lt]
    have : testR sLt 2 2 0 ⟨#[]⟩ 2 3 0 ⟨#[]⟩ = (1, 1, 0) := by
      have r1 : rightB 2 2 0 ⟨#[]⟩ = true := whole_right _
      have r2 : rightB 2 3 0 ⟨#[]⟩ = true := whole_right _
      unfold testR
      rw [r1, r2, sign3.ix]
      decide
    dsimp only
    rw [this]; rfl
  rw [holdsR_op, e]; decide
theorem shown2 : holdsR lX (opE sLt [propE sY, wholeE 3]) = (false, 0) := by
  have e : evalR lX (opE sLt [propE sY, wholeE 3]) = (Vl.zero, 0) := by
    rw [evalR_of (right_lt sY sY_ne), ev2, ev_prop, ev_lit, find_y]
    show outR (comb2 sLt _ _) = _
    rw [comb_test lt_not_logic opO_lt]
    have : testR sLt 0 0 0 ⟨#[]⟩ 2 3 0 ⟨#[]⟩ = (0, 0, 0) := by
      have r1 : rightB 0 0 0 ⟨#[]⟩ = true := zero_right
      have r2 : rightB 2 3 0 ⟨#[]⟩ = true := whole_right _
      unfold testR
      rw [r1, r2, sign3.ix]
      decide
    dsimp only
    rw [this]; rfl
  rw [holdsR_op, e]; decide
theorem shown3 (l : List Pr) : (evalR l overE).2 = 7 := by
  rw [evalR_of ((rightE_iff _).2 ⟨by rw [deep_over]; decide, formed_over⟩), ev_over]; rfl
abbrev mixE : Ex := opE sAnd [wholeE 1, opE sEq [overE, wholeE 0]]
theorem shown4 (l : List Pr) : (evalR l mixE).2 = 4 := by
  have hf : formed (opE sEq [overE, wholeE 0]) = true := formed2 opN_eq formed_over (formed_lit (whole_right 0))
  have hr : rightE mixE = true := (rightE_iff _).2 ⟨by rw [deep2, deep2, deep_over, deep_lit, deep_lit]; decide, formed2 opN_and (formed_lit (whole_right 1)) hf⟩
  rw [evalR_of hr, ev2, ev2, ev_over, ev_lit, ev_lit]
  cases h : combL sEq [some (Vl.zero, true), some (⟨2, 0, 0, ⟨#[]⟩⟩, false)] with
  | none => rfl
  | some r =>
    show (outR (comb2 sAnd (⟨2, 1, 0, ⟨#[]⟩⟩, false) r)).2 = 4
    rw [comb_logic_bad sAnd (.inl rfl) _ _ (fun h => by have := h.1; revert this; decide)]
    rfl
theorem shown5 : deep (opE sNot [propE sX]) = 2 := by rw [deep1, deep_prop]
abbrev xcs2 (x y : Xc) : Array Value := #[.int .i64 x.kind, .string x.name, .int .i64 x.v.k, .int .i64 x.v.n, .float .f64 x.v.f, .string x.v.s, .slice x.ao x.len x.cap, .int .i64 y.kind, .string y.name, .int .i64 y.v.k, .int .i64 y.v.n, .float .f64 y.v.f, .string y.v.s, .slice y.ao y.len y.cap]
theorem ten (w : World) (x y : Xc) (t u : Ex) (hx : Tx w t x) (hy : Tx w u y) : RwX (w.alloc (.cells (xcs2 x y) 27)) (.slice (some ⟨w.heap.size, 0, none⟩) 2 2) [x, y] ∧ Txs (w.alloc (.cells (xcs2 x y) 27)) [t, u] [x, y] := by
  refine ⟨(Ow.lit (E := encX) (e := 27) w w.heap.size [x, y] (Nat.le_refl _) (by simp) _ rfl).rw, ?_⟩
  exact (Txs.app (Txs.one hx) (Txs.one hy)).keep (below_a1 _ _)
theorem ten1 (w : World) (x : Xc) (t : Ex) (hx : Tx w t x) : RwX (w.alloc (.cells (xcs x) 27)) (.slice (some ⟨w.heap.size, 0, none⟩) 1 1) [x] ∧ Txs (w.alloc (.cells (xcs x) 27)) [t] [x] := by
  refine ⟨(Ow.lit (E := encX) (e := 27) w w.heap.size [x] (Nat.le_refl _) (by simp) _ rfl).rw, ?_⟩
  exact (Txs.one hx).keep (below_a1 _ _)
theorem propsX (w : World) : RwP (w.alloc (.cells #[.string sX, .int .i64 2, .int .i64 2, .float .f64 0, .string ⟨#[]⟩] 47)) (.slice (some ⟨w.heap.size, 0, none⟩) 1 1) lX := (Ow.lit (E := encP) (e := 47) w w.heap.size lX (Nat.le_refl _) (by simp) _ rfl).rw
end Go.Proofs.Ytfhnjilflffdfaa
