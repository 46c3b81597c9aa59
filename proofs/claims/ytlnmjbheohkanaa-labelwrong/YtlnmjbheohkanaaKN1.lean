import Derived.Test.YtlnmjbheohkanaaK8
import Derived.Test.YtlnmjbheohkanaaKN0
namespace Go.Proofs.Ytlnmjbheohkanaa
open Go Go.RowKit
set_option linter.unusedVariables false
mutual
def namesT : Ex → List ByteArray
  | .node kind name v kids => (if kind = 4 then [name] else []) ++ namesTL kids
def namesTL : List Ex → List ByteArray
  | [] => []
  | t :: l => namesT t ++ namesTL l
end
theorem namesTL_app (l m : List Ex) : namesTL (l ++ m) = namesTL l ++ namesTL m := by
  induction l with
  | nil => rw [namesTL]; rfl
  | cons x l ih => rw [List.cons_append, namesTL, namesTL, ih, List.append_assoc]
theorem namesTL_take (l : List Ex) (i : Nat) (h : i < l.length) : namesTL (l.take (i + 1)) = namesTL (l.take i) ++ namesT l[i] := by
  rw [List.take_succ_eq_append_getElem h, namesTL_app, namesTL, namesTL, List.append_nil]
/-- a text's bytes -/
abbrev byt (s : ByteArray) : By := s.data.toList
theorem byt_inj {a b : ByteArray} (h : byt a = byt b) : a = b := by
  have e : b = ⟨b.data.toList.toArray⟩ := by simp
  rw [e]; exact bytes_eq h
theorem tl_byt (a : ByteArray) : a.toList = byt a := Lib.toList_data a
theorem inB_byt (l : List ByteArray) (s : ByteArray) : inB l s = decide (byt s ∈ l.map byt) := by
  unfold inB
  rw [Bool.eq_iff_iff, List.any_eq_true]
  simp only [decide_eq_true_eq, List.mem_map, beq_iff_eq, tl_byt]
theorem inB_mem (l : List ByteArray) (s : ByteArray) : inB l s = true ↔ s ∈ l := by
  unfold inB
  rw [List.any_eq_true]
  simp only [beq_iff_eq, tl_byt]
  constructor
  · rintro ⟨x, hx, h⟩; rw [← byt_inj h]; exact hx
  · intro h; exact ⟨s, h, rfl⟩
theorem byt_sizes (l : List By) : (l.map fun x => (⟨x.toArray⟩ : ByteArray)).map byt = l := by
  rw [List.map_map]
  have : (byt ∘ fun x => (⟨x.toArray⟩ : ByteArray)) = id := by funext x; simp [byt]
  rw [this, List.map_id]
theorem map_byt_inj {l m : List ByteArray} (h : l.map byt = m.map byt) : l = m := by
  induction l generalizing m with
  | nil => cases m with
    | nil => rfl
    | cons y m => simp at h
  | cons x l ih => cases m with
    | nil => simp at h
    | cons y m =>
      rw [List.map_cons, List.map_cons, List.cons.injEq] at h
      rw [byt_inj h.1, ih h.2]
/-- of a list and more names: a rising list -/
def addB (l ns : List ByteArray) : List ByteArray := (addW (l.map byt) (ns.map byt)).map fun x => ⟨x.toArray⟩
theorem addB_byt (l ns : List ByteArray) : (addB l ns).map byt = addW (l.map byt) (ns.map byt) := byt_sizes _
theorem addB_nil (l : List ByteArray) : addB l [] = l := map_byt_inj (by rw [addB_byt]; rfl)
theorem addB_app (l a b : List ByteArray) : addB (addB l a) b = addB l (a ++ b) := map_byt_inj (by rw [addB_byt, addB_byt, addB_byt, List.map_append, addW_app])
theorem addB_mem (l ns : List ByteArray) (x : ByteArray) : x ∈ addB l ns ↔ x ∈ l ∨ x ∈ ns := by
  have h := addW_mem (ns.map byt) (byt x) (l.map byt)
  rw [← addB_byt] at h
  have m : ∀ k : List ByteArray, byt x ∈ k.map byt ↔ x ∈ k := fun k => ⟨fun h => by
    obtain ⟨y, hy, e⟩ := List.mem_map.1 h
    rw [← byt_inj e]; exact hy, fun h => List.mem_map.2 ⟨x, h, rfl⟩⟩
  rw [m, m, m] at h
  exact h
theorem addB_rising (l ns : List ByteArray) (h : Rising (l.map byt)) : Rising ((addB l ns).map byt) := by
  rw [addB_byt]; exact addW_rising _ _ h
/-- all names of a right expression, each once, rising -/
def namesL (t : Ex) : List ByteArray := if rightL t then addB [] (namesT t) else []
theorem addB_one_in (l : List ByteArray) (s : ByteArray) (h : inB l s = true) : addB l [s] = l := map_byt_inj (by
  rw [addB_byt]
  show insW (l.map byt) (byt s) = _
  rw [inB_byt, decide_eq_true_eq] at h
  unfold insW
  rw [if_pos h])
theorem takeWhile_at {α : Type} (p : α → Bool) : ∀ (l : List α) (k : Nat), k ≤ l.length → (∀ j (h : j < l.length), j < k → p l[j] = true) → (∀ h : k < l.length, p l[k] = false) → l.takeWhile p = l.take k ∧ l.dropWhile p = l.drop k
  | [], k, hk, _, _ => by have : k = 0 := by simpa using hk
                          subst this; simp
  | x :: l, 0, _, _, h => by
    have := h (by simp)
    simp only [List.getElem_cons_zero] at this
    rw [List.takeWhile_cons, List.dropWhile_cons, this]; simp
  | x :: l, k + 1, hk, h1, h2 => by
    have h0 := h1 0 (by simp) (by omega)
    simp only [List.getElem_cons_zero] at h0
    have ih := takeWhile_at p l k (by simpa using hk) (fun j hj hjk => by have := h1 (j + 1) (by simpa using hj) (by omega); simpa using this) (fun h => by have := h2 (by simpa using h); simpa using this)
    rw [List.takeWhile_cons, List.dropWhile_cons, h0]
    simp [ih.1, ih.2]
theorem addB_one_out (l : List ByteArray) (s : ByteArray) (h : inB l s = false) (k : Nat) (hk : k ≤ l.length) (h1 : ∀ j (h : j < l.length), j < k → Op.bytesLess l[j].toList s.toList = true) (h2 : ∀ h : k < l.length, Op.bytesLess l[k].toList s.toList = false) : addB l [s] = l.take k ++ [s] ++ l.drop k := map_byt_inj (by
  rw [addB_byt]
  show insW (l.map byt) (byt s) = _
  rw [inB_byt, decide_eq_false_iff_not] at h
  unfold insW
  rw [if_neg h]
  have := takeWhile_at (fun x => Op.bytesLess x (byt s)) (l.map byt) k (by simpa using hk) (fun j hj hjk => by
    have := h1 j (by simpa using hj) hjk
    rw [tl_byt, tl_byt] at this
    simpa using this) (fun hj => by
    have := h2 (by simpa using hj)
    rw [tl_byt, tl_byt] at this
    simpa using this)
  rw [this.1, this.2]
  simp [List.map_take, List.map_drop])
theorem namesL_ok {t : Ex} (h : rightL t = true) : namesL t = addB [] (namesT t) := by unfold namesL; rw [if_pos h]
theorem namesL_bad {t : Ex} (h : rightL t = false) : namesL t = [] := by unfold namesL; rw [h]; rfl
theorem namesL_sorted {t : Ex} (h : rightL t = true) : (namesL t).map byt = Lib.compact (((namesT t).map byt).mergeSort fun x y => decide (x ≤ y)) := by
  rw [namesL_ok h, addB_byt, compact_sort]; rfl
theorem namesL_rising (t : Ex) : Rising ((namesL t).map byt) := by
  cases h : rightL t
  · rw [namesL_bad h]; exact List.Pairwise.nil
  · rw [namesL_ok h]; exact addB_rising _ _ List.Pairwise.nil
theorem namesL_mem {t : Ex} (h : rightL t = true) (x : ByteArray) : x ∈ namesL t ↔ x ∈ namesT t := by
  rw [namesL_ok h, addB_mem]; simp
/-- of a term with few parts few names -/
theorem namesT_node (kind : Int) (name : ByteArray) (v : Vl) (kids : List Ex) : namesT (.node kind name v kids) = (if kind = 4 then [name] else []) ++ namesTL kids := by rw [namesT]
theorem namesTL_nil : namesTL [] = [] := by rw [namesTL]
theorem namesTL_cons (t : Ex) (l : List Ex) : namesTL (t :: l) = namesT t ++ namesTL l := by rw [namesTL]
end Go.Proofs.Ytlnmjbheohkanaa
