import Derived.Test.YtlnmjbheohkanaaK3
namespace Go.Proofs.Ytlnmjbheohkanaa
open Go Go.RowKit
set_option linter.unusedVariables false
theorem bare_any (x : Xc) (hv : x.v.Ok) (w : World) : Calls Try.prog 39 #[xv x] w fun e w' => e = .returned (.bool x.v.nought) ∧ Below w.heap.size w w' := by
  have hq := feq0 x.v.f hv.f2
  have hz : x.v.nought = (x.v.k == 0 && (x.v.n == 0 && ((x.v.s.toList == []) && decide (x.v.f = 0 ∨ x.v.f = 9223372036854775808)))) := by
    unfold Vl.nought
    rw [Bool.eq_iff_iff]
    simp
    grind
  have hf : (FloatKind.f64.format.order x.v.f 0 == some Ordering.eq) = decide (x.v.f = 0 ∨ x.v.f = 9223372036854775808) := by
    rw [Flt.ord_eq hv.f2 (by decide)]
    have k0 : Flt.key 0 = 0 := by decide
    have n0 : Flt.isNan 0 = false := by decide
    rw [k0, n0]
    have f2 := hv.f2
    unfold Flt.isNan Flt.key Flt.rung
    rw [Bool.eq_iff_iff]
    simp
    split <;> omega
  rw [hz]
  clear hz hv
  have c0 := below_a1 w (.cells (xcs x) 28)
  obtain ⟨xk, xn, ⟨k, n, f, s⟩, ao, len, cap⟩ := x
  simp only at hq hf ⊢ c0
  generalize decide (f = 0 ∨ f = 9223372036854775808) = bf at *
  generalize hk : (k == 0) = bk at *
  generalize hn : (n == 0) = bn at *
  generalize hs : (s.toList == []) = bs at *
  cases bk <;> cases bn <;> cases bs
  all_goals
    go_enter Try.func39, Try.ntmps39
    go_wp2_with fail
    all_goals
      go_ret
      exact ⟨by simp_all, c0⟩
theorem deepL_app (l m : List Ex) : deepL (l ++ m) = max (deepL l) (deepL m) := by
  induction l with
  | nil => rw [deepL]; simp
  | cons x l ih => rw [List.cons_append, deepL, deepL, ih]; omega
theorem deep_node (kind : Int) (name : ByteArray) (v : Vl) (kids : List Ex) : deep (.node kind name v kids) = 1 + deepL kids := by rw [deep]
theorem deepL_take (l : List Ex) (i : Nat) (h : i < l.length) : deepL (l.take (i + 1)) = max (deepL (l.take i)) (deep l[i]) := by
  rw [List.take_succ_eq_append_getElem h, deepL_app, deepL, deepL]; omega
theorem termL_app (l m : List Ex) : termL (l ++ m) = (termL l && termL m) := by
  induction l with
  | nil => rw [termL]; simp
  | cons x l ih => rw [List.cons_append, termL, termL, ih, Bool.and_assoc]
theorem termL_take (l : List Ex) (i : Nat) (h : i < l.length) : termL (l.take (i + 1)) = (termL (l.take i) && termK l[i]) := by
  rw [List.take_succ_eq_append_getElem h, termL_app, termL, termL, Bool.and_true]
/-- all of them terms, at most so deep -/
def termsE (n : Int) (l : List Ex) : Bool := decide ((deepL l : Int) ≤ n) && termL l
theorem termsE_take (n : Int) (hn : 0 ≤ n) (l : List Ex) (i : Nat) (h : i < l.length) : termsE n (l.take (i + 1)) = (termsE n (l.take i) && termE n l[i]) := by
  unfold termsE termE
  rw [deepL_take l i h, termL_take l i h, Bool.eq_iff_iff]
  simp
  grind
theorem deepL_le (l : List Ex) (i : Nat) : deepL (l.take i) ≤ deepL l := by
  have := deepL_app (l.take i) (l.drop i)
  rw [List.take_append_drop] at this
  omega
theorem termsE_bad (n : Int) (l : List Ex) (i : Nat) (h : i < l.length) (hb : termE n l[i] = false) : termsE n l = false := by
  have e1 := termL_app (l.take (i + 1)) (l.drop (i + 1))
  have e2 := deepL_app (l.take (i + 1)) (l.drop (i + 1))
  rw [List.take_append_drop] at e1 e2
  rw [termL_take l i h] at e1
  rw [deepL_take l i h] at e2
  unfold termE at hb
  unfold termsE
  rw [Bool.eq_false_iff]
  intro ha
  simp only [Bool.and_eq_true, decide_eq_true_eq] at ha
  obtain ⟨h1, h2⟩ := ha
  rw [e1] at h2
  simp only [Bool.and_eq_true] at h2
  rw [h2.1.2, Bool.and_true, decide_eq_false_iff_not] at hb
  omega
theorem termE_node (n : Int) (kind : Int) (name : ByteArray) (v : Vl) (kids : List Ex) (hn : 1 ≤ n) : termE n (.node kind name v kids) = (v.nought && (decide ((kids.length : Int) = kidsN kind) && (nameOk kind name && termsE (n - 1) kids))) := by
  unfold termE termsE
  rw [deep_node, termK, Bool.eq_iff_iff]
  simp
  grind
theorem termE_low (n : Int) (t : Ex) (hn : n < 1) : termE n t = false := by
  unfold termE
  have : 1 ≤ deep t := by cases t with | node k nm v kids => rw [deep]; omega
  rw [decide_eq_false (by omega)]; rfl
end Go.Proofs.Ytlnmjbheohkanaa
