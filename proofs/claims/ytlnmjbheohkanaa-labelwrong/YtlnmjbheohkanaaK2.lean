import Derived.Test.YtlnmjbheohkanaaK1
namespace Go.Proofs.Ytlnmjbheohkanaa
open Go Go.RowKit
set_option linter.unusedVariables false
/-- letters, digits and the line -/
def okc (n : Nat) : Bool := n == 95 || (decide (48 ≤ n) && decide (n ≤ 57)) || (decide (65 ≤ n) && decide (n ≤ 90)) || (decide (97 ≤ n) && decide (n ≤ 122))
def digitB (n : Nat) : Bool := decide (48 ≤ n) && decide (n ≤ 57)
def wordL : List UInt8 → Bool
  | [] => false
  | c :: t => decide ((c :: t).length ≤ 40) && !digitB c.toNat && (c :: t).all fun c => okc c.toNat
theorem wordL_cons (c : UInt8) (t : List UInt8) : wordL (c :: t) = (decide ((c :: t).length ≤ 40) && !digitB c.toNat && (c :: t).all fun c => okc c.toNat) := rfl
def wordB (s : ByteArray) : Bool := wordL s.data.toList
def Vl.nought (v : Vl) : Bool := decide (v.k = 0 ∧ v.n = 0 ∧ (v.f = 0 ∨ v.f = 9223372036854775808) ∧ v.s.toList = [])
mutual
def deep : Ex → Nat
  | .node _ _ _ kids => 1 + deepL kids
def deepL : List Ex → Nat
  | [] => 0
  | t :: l => max (deep t) (deepL l)
end
/-- how many kids a kind has; -1: it is no term's -/
def kidsN (k : Int) : Int := if k = 4 ∨ k = 5 then 0 else if k = 6 then 1 else if k = 7 ∨ k = 8 then 2 else -1
def nameOk (k : Int) (name : ByteArray) : Bool := if k = 4 then wordB name else decide (name.toList = [])
mutual
def termK : Ex → Bool
  | .node kind name v kids => v.nought && decide ((kids.length : Int) = kidsN kind) && nameOk kind name && termL kids
def termL : List Ex → Bool
  | [] => true
  | t :: l => termK t && termL l
end
/-- a term, at most so deep -/
def termE (n : Int) (t : Ex) : Bool := decide ((deep t : Int) ≤ n) && termK t
def rightL : Ex → Bool
  | .node kind name v kids => if kind = 0 then (v.nought && decide (name.toList = []) && decide (kids.length = 0)) else termE 50 (.node kind name v kids)
def inB (l : List ByteArray) (s : ByteArray) : Bool := l.any fun x => x.toList == s.toList
mutual
def holdsL (l : List ByteArray) : Ex → Bool
  | .node kind name v kids => if kind = 4 then inB l name else if kind = 5 then decide (0 < l.length) else if kind = 6 then !((holdsLL l kids).headD true) else if kind = 7 then ((holdsLL l kids).headD true && ((holdsLL l kids).drop 1).headD true) else if kind = 8 then ((holdsLL l kids).headD true || ((holdsLL l kids).drop 1).headD true) else true
def holdsLL (l : List ByteArray) : List Ex → List Bool
  | [] => []
  | t :: ts => holdsL l t :: holdsLL l ts
end
def hasL (l : List ByteArray) (t : Ex) : Bool := rightL t && holdsL l t
theorem get_at (s : ByteArray) (k : Nat) (h : k < s.size) : s.data.toList[k]? = some s[k] := by
  have h' : k < s.data.toList.length := by simpa using h
  rw [List.getElem?_eq_getElem h']
  rfl
theorem word_cut {l : List UInt8} {i : Nat} (hi : i < l.length) (h : okc l[i].toNat = false) : wordL l = false := by
  have : l.all (fun c => okc c.toNat) = false := by
    rw [Bool.eq_false_iff]
    intro ha
    have := List.all_eq_true.1 ha l[i] (List.getElem_mem hi)
    rw [h] at this; cases this
  cases l with
  | nil => rfl
  | cons c t => rw [wordL_cons, this]; simp
theorem word_all {c : UInt8} {t : List UInt8} (hl : (c :: t).length ≤ 40) (hd : digitB c.toNat = false) (h : ∀ j (hj : j < (c :: t).length), okc ((c :: t)[j]).toNat = true) : wordL (c :: t) = true := by
  have ha : (c :: t).all (fun c => okc c.toNat) = true := by
    rw [List.all_eq_true]
    intro x hx
    obtain ⟨j, hj, rfl⟩ := List.getElem_of_mem hx
    exact h j hj
  rw [wordL_cons, ha, hd, decide_eq_true hl]; rfl
theorem word_long {s : ByteArray} (h : 40 < s.size) : wordB s = false := by
  unfold wordB
  have hl : s.data.toList.length = s.size := Array.length_toList
  generalize s.data.toList = l at *
  cases l with
  | nil => rfl
  | cons c t => rw [wordL_cons, decide_eq_false (by omega)]; rfl
theorem word_nil {s : ByteArray} (h : s.toList = []) : wordB s = false := by
  unfold wordB
  rw [← Lib.toList_data, h]; rfl
theorem size_pos {s : ByteArray} (h : ¬ s.toList = []) : 0 < s.size := by
  rw [Lib.toList_data] at h
  have : s.data.toList.length = s.size := Array.length_toList
  rcases Nat.eq_zero_or_pos s.size with h0 | h0
  · rw [h0] at this
    exact absurd (List.eq_nil_of_length_eq_zero this) h
  · exact h0
theorem word_digit {s : ByteArray} (h : 0 < s.size) (hd : digitB s[0].toNat = true) : wordB s = false := by
  have hg := get_at s 0 h
  unfold wordB
  generalize s.data.toList = l at *
  cases l with
  | nil => rfl
  | cons c t =>
    simp only [List.getElem?_cons_zero, Option.some.injEq] at hg
    rw [wordL_cons, hg, hd]; simp
theorem word_yes {s : ByteArray} (h : 0 < s.size) (h4 : s.size ≤ 40) (hd : digitB s[0].toNat = false) (ha : ∀ j (hj : j < s.size), okc s[j].toNat = true) : wordB s = true := by
  have hg := get_at s 0 h
  have hl : s.data.toList.length = s.size := Array.length_toList
  have hall : ∀ j (hj : j < s.data.toList.length), okc (s.data.toList[j]).toNat = true := fun j hj => by
    have hj' : j < s.size := by omega
    have e := get_at s j hj'
    rw [List.getElem?_eq_getElem hj] at e
    simp only [Option.some.injEq] at e
    rw [e]; exact ha j hj'
  unfold wordB
  generalize s.data.toList = l at *
  cases l with
  | nil => simp at hl; omega
  | cons c t =>
    simp only [List.getElem?_cons_zero, Option.some.injEq] at hg
    exact word_all (by omega) (by rw [hg]; exact hd) hall
theorem word_no {s : ByteArray} {j : Nat} (hj : j < s.size) (hb : okc s[j].toNat = false) : wordB s = false := by
  have e := get_at s j hj
  have hj' : j < s.data.toList.length := by simpa using hj
  rw [List.getElem?_eq_getElem hj'] at e
  simp only [Option.some.injEq] at e
  exact word_cut hj' (by rw [e]; exact hb)
end Go.Proofs.Ytlnmjbheohkanaa
