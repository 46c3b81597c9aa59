import Derived.Test.YtcbogapnhabhkaaPR
namespace Go.Proofs.Ytcbogapnhabhkaa
open Go Go.RowKit
set_option linter.unusedVariables false
theorem info_v : (Try.prog.info? 29).map (fun i => (i.zero, i.size, i.bytes)) = some (some (.agg #[.int .i64 0, .int .i64 0, .float .f64 0, .string ⟨#[]⟩]), 4, 40) := by kernel_rfl
def vcells (X : List V4) : List Value := X.flatMap fun x => [.int .i64 x.k, .int .i64 x.n, .float .f64 x.f, .string ⟨x.s.toArray⟩]
/-- a slice of values that the call itself made, from block 'base' on -/
def OwnV (w : World) (base : Nat) (v : Value) (X : List V4) : Prop := w.ownsRow base 29 4 v X.length (vcells X)
theorem vcells_len (X : List V4) : (vcells X).length = X.length * 4 := by
  induction X with
  | nil => rfl
  | cons x X ih => simp only [vcells, List.flatMap_cons, List.length_append] at *; rw [ih]; simp; omega
theorem vcells_app (X Y : List V4) : vcells (X ++ Y) = vcells X ++ vcells Y := by simp [vcells]
theorem vcells_one (X : List V4) : ∀ u ∈ vcells X, u.oneCell' = true := by
  intro u hu
  simp only [vcells, List.mem_flatMap, List.mem_cons, List.not_mem_nil, or_false] at hu
  obtain ⟨x, _, rfl | rfl | rfl | rfl⟩ := hu <;> rfl
theorem vcells_get (X : List V4) (i : Nat) (h : i < X.length) : (vcells X)[i * 4]? = some (.int .i64 X[i].k) ∧ (vcells X)[i * 4 + 1]? = some (.int .i64 X[i].n) ∧ (vcells X)[i * 4 + 2]? = some (.float .f64 X[i].f) ∧ (vcells X)[i * 4 + 3]? = some (.string ⟨X[i].s.toArray⟩) := by
  induction X generalizing i with
  | nil => simp at h
  | cons x X ih =>
    cases i with
    | zero => simp [vcells]
    | succ i =>
      have h' : i < X.length := by simpa using h
      have := ih i h'
      have e : vcells (x :: X) = [.int .i64 x.k, .int .i64 x.n, .float .f64 x.f, .string ⟨x.s.toArray⟩] ++ vcells X := rfl
      simp only [List.getElem_cons_succ]
      rw [e]
      refine ⟨?_, ?_, ?_, ?_⟩
      · rw [List.getElem?_append_right (by simp; omega), ← this.1]; congr 1; simp; omega
      · rw [List.getElem?_append_right (by simp; omega), ← this.2.1]; congr 1; simp; omega
      · rw [List.getElem?_append_right (by simp; omega), ← this.2.2.1]; congr 1; simp; omega
      · rw [List.getElem?_append_right (by simp; omega), ← this.2.2.2]; congr 1; simp; omega
theorem OwnV.below {w w' : World} {base : Nat} {v : Value} {X : List V4} (h : OwnV w base v X) (hb : Below w.heap.size w w') : OwnV w' base v X := by
  refine ⟨h.1, ?_⟩
  rcases h.2 with h0 | ⟨g, cap, cur, rfl, hbg, hg, rest⟩
  · exact .inl h0
  · exact .inr ⟨g, cap, cur, rfl, hbg, (hb.block g (Array.getElem?_eq_some_iff.1 hg).1).trans hg, rest⟩
theorem OwnV.row {w : World} {base : Nat} {v : Value} {X : List V4} (h : OwnV w base v X) : ∀ k, v.ownBlock = some k → base ≤ k := fun k hk => (World.ownsRow.lt h k hk).1
theorem wpList_append_v {w : World} {ops : Array Oper} {rest : List Oper} {o : Oper} {a : Act} {Q : Exit → Act → World → Prop} (hgd : o.guard = none) (s x : Operand)
    (ho : o.op = .call { callee := .builtin .append, args := #[s, x], argTypes := #[54, 54] }) {base c : Nat} {ad : Addr} {v : Value} {X Y : List V4} (hs : a.eval s = v) (hx : a.eval x = .slice (some ad) Y.length c)
    (h : OwnV w base v X) (hm : ∀ j u, (vcells Y)[j]? = some u → w.cell? (ad.add j) = some u) (hlen : X.length + Y.length ≤ 1000000) (hbase : base ≤ w.heap.size)
    (hk : ∀ v' w', OwnV w' base v' (X ++ Y) → w.grownBy w' v.ownBlock → wpList Try.prog ops Q rest (a.put o.dst v') w') : wpList Try.prog ops Q (o :: rest) a w := by
  obtain ⟨i, hi, hz, hsz, hby⟩ := info_parts info_v
  obtain ⟨v', w', hr, h1, h2, _⟩ := run_append_own (P := Try.prog) w base 54 o.type 29 i _ 4 40 Try.underlying54 hi hz hsz hby rfl (by decide) v X.length (vcells X) h ad Y.length c (vcells Y)
    (vcells_len Y) hm (vcells_one Y) (by simp only [maxLen]; omega) (by omega) hbase
  refine Lib.wpList_append_run w hgd s x 54 54 ho v _ hs hx v' w' hr (hk v' w' ?_ h2)
  unfold OwnV
  rw [List.length_append, vcells_app]; exact h1
theorem OwnV.shape {w : World} {base : Nat} {v : Value} {X : List V4} (h : OwnV w base v X) : ∃ ao cap, v = .slice ao X.length cap := by
  rcases h.2 with ⟨rfl, hn⟩ | ⟨g, cap, cur, rfl, _⟩
  · exact ⟨none, 0, by rw [hn]⟩
  · exact ⟨_, _, rfl⟩
/-- a value of a slice of one's own, cell by cell -/
theorem OwnV.at {w : World} {base cap : Nat} {ao : Option Addr} {n : Nat} {X : List V4} (h : OwnV w base (.slice ao n cap) X) (i : Nat) (hi : i < X.length) : ∃ g, ao = some ⟨g, 0, none⟩ ∧ w.cell? ⟨g, i * 4, none⟩ = some (.int .i64 X[i].k) ∧ w.cell? ⟨g, i * 4 + 1, none⟩ = some (.int .i64 X[i].n) ∧ w.cell? ⟨g, i * 4 + 2, none⟩ = some (.float .f64 X[i].f) ∧ w.cell? ⟨g, i * 4 + 3, none⟩ = some (.string ⟨X[i].s.toArray⟩) := by
  have hg := vcells_get X i hi
  rcases h.2 with ⟨hv, hn⟩ | ⟨g, cap', cur, hv, _⟩
  · omega
  · cases hv
    refine ⟨g, rfl, ?_⟩
    have hc : ∀ j, j < X.length * 4 → w.cell? ⟨g, j, none⟩ = (vcells X)[j]? := fun j hj => World.ownsRow.cellAt h j hj
    rw [hc _ (by omega), hc _ (by omega), hc _ (by omega), hc _ (by omega)]
    exact hg
def fz (n : Nat) : Nat := if Flt.isNan n then 0 else n
def valsOf (n : Nat) : List V4 := [⟨2, wrap64 (n : Int), 0, []⟩, ⟨3, 0, fz n, []⟩]
def vals (L : List Nat) : List V4 := L.flatMap valsOf
def bN (L : List Nat) : List UInt8 := L.flatMap numB
def cutT (s : ByteArray) : List UInt8 := (s.extract 0 (min s.size 100)).data.toList
def tB (s : ByteArray) : List UInt8 := textB (cutT s)
def bS (S : List ByteArray) : List UInt8 := S.flatMap tB
def bV (X : List V4) : List UInt8 := X.flatMap V4.row
theorem fm_take {α β : Type} (f : α → List β) (l : List α) (i : Nat) (h : i < l.length) : (l.take (i + 1)).flatMap f = (l.take i).flatMap f ++ f l[i] := by
  rw [List.take_succ_eq_append_getElem h, List.flatMap_append]; simp only [List.flatMap_cons, List.flatMap_nil, List.append_nil]
theorem fm_drop {α β : Type} (f : α → List β) (l : List α) (i : Nat) (h : i < l.length) : (l.drop i).flatMap f = f l[i] ++ (l.drop (i + 1)).flatMap f := by
  rw [List.drop_eq_getElem_cons h, List.flatMap_cons]
theorem fm_len {α β : Type} (f : α → List β) (c : Nat) (l : List α) (h : ∀ x ∈ l, (f x).length ≤ c) : (l.flatMap f).length ≤ l.length * c := by
  induction l with
  | nil => simp
  | cons x l ih =>
    have h1 := h x (by simp)
    have h2 := ih (fun y hy => h y (by simp [hy]))
    simp only [List.flatMap_cons, List.length_append, List.length_cons]
    rw [Nat.succ_mul]; omega
theorem fz_lt {n : Nat} (h : n < 18446744073709551616) : fz n < 18446744073709551616 := by unfold fz; split <;> omega
theorem fz_canon (n : Nat) : Flt.canon (fz n) = fz n := by
  have h0 : Flt.canon 0 = 0 := by decide
  unfold fz
  split
  · exact h0
  · rename_i h; unfold Flt.canon; rw [if_neg h]
theorem vals_rv (L : List Nat) (hL : ∀ n ∈ L, n < 18446744073709551616) : ∀ x ∈ vals L, RV x ∧ x.s = [] := by
  intro x hx
  simp only [vals, valsOf, List.mem_flatMap, List.mem_cons, List.not_mem_nil, or_false] at hx
  have hnl : (⟨#[]⟩ : ByteArray).toList = [] := nil_list
  obtain ⟨n, hn, rfl | rfl⟩ := hx
  · have hw : wrap64 (n : Int) = ((n : Int) + 9223372036854775808) % 18446744073709551616 - 9223372036854775808 := by simp only [wrap64]
    refine ⟨⟨by simp [rightB, hnl], ?_, ?_, by simp, by simp⟩, rfl⟩
    · show _ ≤ wrap64 (n : Int); rw [hw]; omega
    · show wrap64 (n : Int) ≤ _; rw [hw]; omega
  · exact ⟨⟨by simp [rightB, hnl, fz_canon], by simp, by simp, fz_lt (hL n hn), by simp⟩, rfl⟩
theorem row_short (x : V4) (hx : RV x) (hs : x.s = []) : x.row.length ≤ 10 := by
  have a := numB_le x.n.toNat (by have := hx.n2; omega)
  have b := numB_le (-1 - x.n).toNat (by have := hx.n1; omega)
  have c := numB_le 0 (by omega)
  unfold V4.row rowV
  rw [hs]
  repeat' split
  all_goals simp [dig_len, textB] at *
  all_goals omega
theorem vals_len (L : List Nat) : (vals L).length = L.length * 2 := by
  induction L with
  | nil => rfl
  | cons x L ih => simp only [vals, List.flatMap_cons, List.length_append, List.length_cons] at *; rw [ih]; simp [valsOf]; omega
theorem cutT_len (s : ByteArray) : (cutT s).length ≤ 100 := by simp [cutT]; omega
theorem tB_len (s : ByteArray) : (tB s).length ≤ 109 := by
  have h := cutT_len s
  have := numB_le (cutT s).length (by omega)
  unfold tB textB; rw [List.length_append]; omega
theorem OwnV.nil (w : World) (base : Nat) : OwnV w base (.slice none 0 0) [] := World.ownsRow_nil w base _ _
theorem Own.kept {w w' : World} {base : Nat} {v : Value} {l : List UInt8} {r : Option Nat} (h : Own w base v l) (hg : w.grownBy w' r) (hr : ∀ k, r = some k → k < base) : Own w' base v l :=
  World.ownsRow.kept h hg (by
    cases hv : v.ownBlock with
    | none => exact .inl rfl
    | some k =>
      refine .inr fun e => ?_
      have h1 := (World.ownsRow.lt h k hv).1
      have h2 := hr k e.symm
      omega)
end Go.Proofs.Ytcbogapnhabhkaa
