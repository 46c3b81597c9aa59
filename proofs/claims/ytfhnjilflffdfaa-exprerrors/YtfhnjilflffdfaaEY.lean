import Derived.Test.YtfhnjilflffdfaaEW
namespace Go.Proofs.Ytfhnjilflffdfaa
open Go Go.RowKit
set_option linter.unusedVariables false
def largeB (t : Ex) : Bool := decide (300 < wrap64 (t.sz : Nat))
theorem xcount_any (t : Ex) (x : Xc) (w : World) (h : Tx w t x) : Calls Try.prog 15 #[xv x] w fun e w' => e = .returned (.int .i64 (wrap64 (t.sz : Nat))) ∧ Below w.heap.size w w' := count_any t (encX.enc x) w h
theorem large_any (t : Ex) (x : Xc) (w : World) (h : Tx w t x) : Calls Try.prog 9 #[xv x] w fun e w' => e = .returned (.bool (largeB t)) ∧ Below w.heap.size w w' := by
  have C := Lib.hid (fun w' (hb : Below w.heap.size w w') => xcount_any t x w' (h.keep hb))
  unfold largeB
  generalize wrap64 (t.sz : Nat) = z at *
  clear h
  go_enter Try.func9, Try.ntmps9
  go_wp2_with fail
  (with_reducible refine (C.out _ (below_a1 _ _)).mono ?_); rintro e w1 ⟨rfl, b1⟩
  go_wp2_with fail
  go_ret
  refine ⟨?_, Below.chain (below_a1 _ _) b1⟩
  show Ending.returned (.bool (decide (300 < z))) = _
  rfl
theorem Lies.keep {w w' : World} {b : Nat} {v0 v1 v2 v3 : Value} (h : Lies w b v0 v1 v2 v3) (hb : Below w.heap.size w w') : Lies w' b v0 v1 v2 v3 := h.below hb
theorem node_ok {w : World} {t : Ex} {x : Xc} (h : Tx w t x) : ∀ kind name v kids, t = .node kind name v kids → v.Ok := by
  rintro kind name v kids rfl
  exact h.inv.2.2.2.1
theorem outR_ok {r : Res} (h : ∀ a, r = some a → a.1.right = true ∧ a.1.Ok) : (outR r).1.Ok := by
  cases r with
  | none => exact zero_ok
  | some a =>
    obtain ⟨v, o⟩ := a
    cases o with
    | true => exact zero_ok
    | false => exact (h _ rfl).2
theorem evalR_ok {l : List Pr} (hl : PsOk l) {t : Ex} (hv : ∀ kind name v kids, t = .node kind name v kids → v.Ok) : (evalR l t).1.Ok := by
  unfold evalR
  split
  · rename_i hr
    exact outR_ok fun a ha => ev_ok hl ((rightE_iff t).1 hr).2 hv ha
  · exact zero_ok
theorem same_refl (v : Vl) (hv : v.Ok) (w : World) : Calls Try.prog 14 #[avl v, avl v] w fun e w' => e = .returned (.bool true) ∧ Below w.heap.size w w' := by
  refine (rsame_any v.k v.n v.k v.n v.f v.f hv.f2 hv.f2 v.s v.s w).mono fun e w' h => ret_bool' ?_ h
  simp [idB]
theorem size_small {t : Ex} (hf : formed t = true) (hd : deep t ≤ 50) (h : largeB t = false) : t.sz ≤ 300 := by
  have key : ∀ t : Ex, formed t = true → t.sz < 2 ^ deep t := by
    refine ex_ind fun kind name v kids ih h => ?_
    rw [Ex.sz, deep]
    rcases formed_inv h with ⟨-, -, rfl, -⟩ | ⟨-, -, rfl, -⟩ | ⟨-, -, h0, h1, hk⟩
    · rw [szL, deepL]; decide
    · rw [szL, deepL]; decide
    · rcases opN_cases name h0 with e | e
      · obtain ⟨a, rfl⟩ := len1 (by rw [← h1]; exact e)
        have := ih a (by simp) (hk a (by simp))
        rw [szL, szL, deepL, deepL, Nat.max_zero, Nat.pow_add]; omega
      · obtain ⟨a, b, rfl⟩ := len2 (by rw [← h1]; exact e)
        have ha := ih a (by simp) (hk a (by simp))
        have hb := ih b (by simp) (hk b (by simp))
        rw [szL, szL, szL, deepL, deepL, deepL, Nat.max_zero, Nat.pow_add]
        have h2 : 2 ^ deep a ≤ 2 ^ max (deep a) (deep b) := Nat.pow_le_pow_right (by decide) (Nat.le_max_left _ _)
        have h3 : 2 ^ deep b ≤ 2 ^ max (deep a) (deep b) := Nat.pow_le_pow_right (by decide) (Nat.le_max_right _ _)
        omega
  have h1 := key t hf
  have h2 : 2 ^ deep t ≤ 2 ^ 50 := Nat.pow_le_pow_right (by decide) hd
  have h3 : t.sz < 1125899906842624 := Nat.lt_of_lt_of_le h1 h2
  have h4 : wrap64 (t.sz : Nat) = (t.sz : Int) := by simp only [wrap64]; omega
  unfold largeB at h
  rw [h4] at h
  have := of_decide_eq_false h
  omega
end Go.Proofs.Ytfhnjilflffdfaa
