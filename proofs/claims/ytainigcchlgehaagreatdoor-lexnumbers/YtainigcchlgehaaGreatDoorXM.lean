import Derived.Test.YtainigcchlgehaaGreatDoorXG
import Derived.Test.YtainigcchlgehaaGreatDoorXT
namespace Go.Proofs.YtainigcchlgehaaGreatDoor
open Go Go.RowKit
set_option linter.unusedVariables false
/-! ### what stands behind a token, and what is cut off behind it -/
theorem hp_sep : ∀ (s l : Bt) (c : UInt8) (x : Bt), c ∉ s → Lib.hasPrefix (l ++ c :: x) s = Lib.hasPrefix l s
  | [], _, _, _, _ => by simp [Lib.hasPrefix]
  | d :: s, [], c, x, h => by
    have : d ≠ c := fun e => h (by simp [e])
    simp [Lib.hasPrefix, List.isPrefixOf, this]
  | d :: s, e :: l, c, x, h => by
    have := hp_sep s l c x (fun hh => h (by simp [hh]))
    unfold Lib.hasPrefix at this ⊢
    simp only [List.cons_append, List.isPrefixOf, this]
theorem findS_sep (l : Bt) (c : UInt8) (x : Bt) : ∀ S : List Bt, (∀ s ∈ S, c ∉ s) → findS (l ++ c :: x) S = findS l S
  | [], _ => rfl
  | s :: S, h => by
    rw [findS_cons, findS_cons, hp_sep s l c x (h s (by simp)), findS_sep l c x S (fun s hs => h s (by simp [hs]))]
theorem hp_pref {l s : Bt} : Lib.hasPrefix l s = true ↔ s <+: l := List.isPrefixOf_iff_prefix
theorem findS_cut (l : Bt) (m : Nat) : ∀ S : List Bt, findS l S ≤ m → findS (l.take m) S = findS l S
  | [], _ => rfl
  | s :: S, h => by
    rw [findS_cons] at h
    rw [findS_cons, findS_cons]
    by_cases hp : Lib.hasPrefix l s = true
    · rw [if_pos hp] at h
      have : Lib.hasPrefix (l.take m) s = true := by
        rw [hp_pref] at hp ⊢
        exact List.prefix_take_iff.2 ⟨hp, h⟩
      rw [if_pos hp, if_pos this]
    · rw [if_neg hp] at h
      have : ¬ Lib.hasPrefix (l.take m) s = true := by
        rw [hp_pref] at hp ⊢
        exact fun q => hp (q.trans (List.take_prefix m l))
      rw [if_neg hp, if_neg this, findS_cut l m S h]
theorem runP_sep (c : UInt8) (x : Bt) (hc : okc c.toNat = false) : ∀ l : Bt, runP (l ++ c :: x) = runP l
  | [] => by
    show (if okc c.toNat = true then _ else _) = _
    rw [if_neg (by rw [hc]; decide)]; rfl
  | d :: l => by
    show (if okc d.toNat = true then runP (l ++ c :: x) + 1 else 0) = (if okc d.toNat = true then runP l + 1 else 0)
    rw [runP_sep c x hc l]
theorem runP_cut : ∀ (l : Bt) (m : Nat), runP (l.take m) = min (runP l) m
  | [], m => by simp [runP]
  | d :: l, 0 => by simp [runP]
  | d :: l, m + 1 => by
    rw [List.take_succ_cons]
    show (if okc d.toNat = true then runP (l.take m) + 1 else 0) = min (if okc d.toNat = true then runP l + 1 else 0) (m + 1)
    split
    · rw [runP_cut l m]; omega
    · simp
theorem wordF_sep (l : Bt) (c : UInt8) (x : Bt) (hc : okc c.toNat = false) : wordF (l ++ c :: x) = wordF l := by
  unfold wordF
  rw [runP_sep c x hc l, List.take_append_of_le_length (runP_le l)]
theorem wordF_cut (l : Bt) (m : Nat) (h : (wordF l).2 ≠ 0) (hm : (wordF l).2 ≤ m) : wordF (l.take m) = wordF l := by
  have hr : runP l ≤ m := by
    unfold wordF at h hm
    split at h
    · exact absurd rfl h
    · rename_i hw
      rw [if_neg hw] at hm
      split at hm <;> exact hm
  unfold wordF
  rw [runP_cut, Nat.min_eq_left hr, List.take_take, Nat.min_eq_left hr]
/-! values -/
theorem runN_sep (c : UInt8) (x : Bt) (hc : plainB c = false) : ∀ (m : Nat) (l : Bt), runN m (l ++ c :: x) = runN m l
  | 0, _ => by simp [runN]
  | m + 1, [] => by simp [runN, hc]
  | m + 1, d :: l => by simp [runN, runN_sep c x hc m l]
theorem hp39_app {l : Bt} (h : l ≠ []) (y : Bt) : Lib.hasPrefix (l ++ y) [39] = Lib.hasPrefix l [39] := by
  cases l with
  | nil => exact absurd rfl h
  | cons c t => simp [Lib.hasPrefix, List.isPrefixOf]
theorem vrd_sep {l : Bt} (hl : l ≠ []) (hq : Lib.hasPrefix l [39] = false) (c : UInt8) (x : Bt) (hc : plainB c = false) : vrdSem (l ++ c :: x) = vrdSem l := by
  have hq2 : Lib.hasPrefix (l ++ c :: x) [39] = false := by rw [hp39_app hl]; exact hq
  unfold vrdSem
  rw [if_neg (by rw [hq2]; decide), if_neg (by rw [hq]; decide), runN_sep c x hc, findR_app _ _ _ (runN_le 23 l).2]
theorem findR_none {l : Bt} : ∀ {R : Nat}, findR l R = none → ∀ k, k ≤ R → findR l k = none
  | 0, h, k, hk => by obtain rfl : k = 0 := by omega
                      exact h
  | R + 1, h, k, hk => by
    by_cases e : k = R + 1
    · subst e; exact h
    · simp only [findR] at h
      cases hr : rpSem (l.take (R + 1)) with
      | some v => rw [hr] at h; cases h
      | none => rw [hr] at h; exact findR_none h k (by omega)
theorem findR_mid {l : Bt} {n : Nat} {v : Int × Int × Nat} : ∀ {R : Nat}, findR l R = some (n, v) → ∀ k, n ≤ k → k ≤ R → findR l k = some (n, v)
  | 0, h, k, h1, hk => by obtain rfl : k = 0 := by omega
                          exact h
  | R + 1, h, k, h1, hk => by
    by_cases e : k = R + 1
    · subst e; exact h
    · simp only [findR] at h
      cases hr : rpSem (l.take (R + 1)) with
      | some u => rw [hr] at h; simp at h; omega
      | none => rw [hr] at h; exact findR_mid h k h1 (by omega)
theorem vrd_cut {l : Bt} (m : Nat) (hm : 1 ≤ m) (hq : Lib.hasPrefix l [39] = false) (h : szR (vrdSem l) ≤ m) : vrdSem (l.take m) = vrdSem l := by
  have hq2 : Lib.hasPrefix (l.take m) [39] = false := by
    cases h' : Lib.hasPrefix (l.take m) [39] with
    | false => rfl
    | true =>
      have : Lib.hasPrefix l [39] = true := hp_pref.2 ((hp_pref.1 h').trans (List.take_prefix m l))
      rw [this] at hq; cases hq
  have e1 : vrdSem l = (findR l (runN 23 l)).map fun p => (p.1, p.2.1, p.2.2.1, p.2.2.2, []) := by
    unfold vrdSem
    rw [if_neg (by rw [hq]; decide)]
  rw [e1] at h ⊢
  unfold vrdSem
  rw [if_neg (by rw [hq2]; decide), runN_cut, findR_take l m _ (Nat.min_le_right _ _)]
  congr 1
  cases hr : findR l (runN 23 l) with
  | none => exact findR_none hr _ (Nat.min_le_left _ _)
  | some p =>
    obtain ⟨n, v⟩ := p
    rw [hr] at h
    have hn : n ≤ m := h
    exact findR_mid hr _ (by have := (findR_some l _ _ _ hr).1; omega) (Nat.min_le_left _ _)
theorem numN_sep {c0 : UInt8} {t : Bt} (h : digitB c0.toNat = true) (c : UInt8) (x : Bt) (hc : plainB c = false) : numN (c0 :: t ++ c :: x) = numN (c0 :: t) := by
  have h39 : c0 ≠ 39 := by rintro rfl; revert h; decide
  unfold numN
  rw [vrd_sep (by simp) (hp_no h39) c x hc, show (45 :: (c0 :: t ++ c :: x) : Bt) = (45 :: c0 :: t) ++ c :: x from rfl, vrd_sep (by simp) (hp_no (by decide)) c x hc]
theorem numN_cut {c0 : UInt8} {t : Bt} (h : digitB c0.toNat = true) (m : Nat) (hm : 1 ≤ m) (hn : numN (c0 :: t) ≤ m) : numN ((c0 :: t).take m) = numN (c0 :: t) := by
  have h39 : c0 ≠ 39 := by rintro rfl; revert h; decide
  unfold numN at hn ⊢
  rw [vrd_cut m hm (hp_no h39) (by omega), show (45 :: (c0 :: t).take m : Bt) = (45 :: c0 :: t).take (m + 1) from rfl, vrd_cut (m + 1) (by omega) (hp_no (by decide)) (by omega)]
/-- a quoted text is there, whatever stands behind it -/
theorem quo_more {l : Bt} {n : Nat} {v : Int × Int × Nat × Bt} (hq : Lib.hasPrefix l [39] = true) (h : vrdSem l = some (n, v)) (r : Bt) : vrdSem (l.take n ++ r) = some (n, v) := by
  have hh := (hp_iff l).1 hq
  obtain ⟨c, l', rfl⟩ : ∃ c l', l = c :: l' := by cases l with | nil => simp at hh | cons c l' => exact ⟨c, l', rfl⟩
  simp only [List.head?_cons, Option.some.injEq] at hh
  subst hh
  unfold vrdSem at h
  rw [if_pos hq] at h
  cases hr : rq ((39 :: l').length + 1) ((39 :: l').drop 1) [] 1 with
  | none => rw [hr] at h; simp at h
  | some p =>
    obtain ⟨t, m⟩ := p
    rw [hr] at h
    simp at h
    obtain ⟨rfl, rfl⟩ := h
    simp only [List.drop_succ_cons, List.drop_zero] at hr
    obtain ⟨a, b, c⟩ := rq_some _ _ _ _ _ _ hr
    have e : m = (m - 1) + 1 := by omega
    unfold vrdSem
    rw [e, List.take_succ_cons, List.cons_append, if_pos (by rw [hp_iff]; simp)]
    have := c ((39 :: (l'.take (m - 1) ++ r)).length + 1) r (by simp; omega)
    simp only [List.drop_succ_cons, List.drop_zero]
    rw [this]
    simp; omega
theorem rq_bad (x : Bt) : ∀ (g : Nat) (l acc : Bt) (i : Nat), rq g l acc i = none → l.length < g → ∀ g', rq g' (l ++ 10 :: x) acc i = none
  | 0, l, _, _, _, h, _ => by omega
  | g + 1, _, _, _, _, _, 0 => rfl
  | g + 1, [], acc, i, _, _, g' + 1 => by
    show rq (g' + 1) (10 :: x) acc i = none
    simp only [rq]
    rw [if_neg (by decide), if_pos trivial]
  | g + 1, c :: l, acc, i, h, hl, g' + 1 => by
    show rq (g' + 1) (c :: (l ++ 10 :: x)) acc i = none
    simp only [rq] at h ⊢
    by_cases c1 : c = 39
    · rw [if_pos c1] at h; cases h
    rw [if_neg c1] at h ⊢
    by_cases c2 : c = 10
    · rw [if_pos c2]
    rw [if_neg c2] at h ⊢
    by_cases c3 : c = 92
    · rw [if_pos c3] at h ⊢
      cases l with
      | nil =>
        show (match escB 10 with | some e => rq g' x (acc ++ [e]) (i + 2) | none => none) = none
        rfl
      | cons d l' =>
        simp only at h
        simp only [List.cons_append]
        cases he : escB d with
        | none => rfl
        | some e =>
          rw [he] at h
          exact rq_bad x g l' _ _ h (by simp at hl; omega) g'
    · rw [if_neg c3] at h ⊢
      exact rq_bad x g l _ _ h (by simp at hl; omega) g'
theorem quo_bad {l : Bt} (hq : Lib.hasPrefix l [39] = true) (h : szR (vrdSem l) = 0) (x : Bt) : szR (vrdSem (l ++ 10 :: x)) = 0 := by
  have hn : vrdSem l = none := by
    cases hv : vrdSem l with
    | none => rfl
    | some p => obtain ⟨n, v⟩ := p; have := (vrd_more l [] n v hv).1; rw [hv] at h; simp [szR] at h; omega
  have hh := (hp_iff l).1 hq
  obtain ⟨c, l', rfl⟩ : ∃ c l', l = c :: l' := by cases l with | nil => simp at hh | cons c l' => exact ⟨c, l', rfl⟩
  simp only [List.head?_cons, Option.some.injEq] at hh
  subst hh
  unfold vrdSem at hn ⊢
  rw [if_pos hq] at hn
  have hq2 : Lib.hasPrefix (39 :: l' ++ 10 :: x) [39] = true := by rw [hp_iff]; rfl
  rw [if_pos hq2]
  have h1 : rq ((39 :: l').length + 1) l' [] 1 = none := by
    cases hr : rq ((39 :: l').length + 1) l' [] 1 with
    | none => rfl
    | some p =>
      rw [show (39 :: l').drop 1 = l' from rfl, hr] at hn
      cases hn
  rw [show ((39 :: l') ++ 10 :: x).drop 1 = l' ++ 10 :: x from rfl, rq_bad x _ _ _ _ h1 (by simp; omega)]
  rfl
/-- a blank or a line's end behind -/
structure Sep (c : UInt8) : Prop where
  ok : okc c.toNat = false
  plain : plainB c = false
  sign : ∀ s ∈ signsL, c ∉ s
theorem sep32 : Sep 32 := ⟨by decide, by decide, by decide⟩
theorem sep10 : Sep 10 := ⟨by decide, by decide, by decide⟩
theorem firstF_sep {l : Bt} {c : UInt8} (hc : Sep c) (h : (firstF l).2 ≠ 0) (x : Bt) : firstF (l ++ c :: x) = firstF l := by
  cases l with
  | nil => exact absurd rfl h
  | cons a t =>
    rw [List.cons_append, firstF_cons, firstF_cons]
    rw [firstF_cons] at h
    by_cases h1 : digitB a.toNat = true
    · rw [if_pos h1, if_pos h1, ← List.cons_append, numN_sep h1 c x hc.plain]
    · rw [if_neg h1, if_neg h1]
      rw [if_neg h1] at h
      by_cases h2 : begB a.toNat = true
      · rw [if_pos h2, if_pos h2, ← List.cons_append, wordF_sep _ c x hc.ok]
      · rw [if_neg h2, if_neg h2]
        rw [if_neg h2] at h
        by_cases h3 : a = 39
        · rw [if_pos h3, if_pos h3]
          rw [if_pos h3] at h
          subst h3
          cases hv : vrdSem (39 :: t) with
          | none => rw [hv] at h; exact absurd rfl h
          | some p =>
            obtain ⟨n, v⟩ := p
            have hle := (vrd_more _ [] n v hv).2.1
            have := quo_more (by rw [hp_iff]; rfl) hv ((39 :: t).drop n ++ c :: x)
            rw [← List.append_assoc, List.take_append_drop] at this
            rw [← List.cons_append, this]
        · rw [if_neg h3, if_neg h3]
          unfold signN
          rw [← List.cons_append, findS_sep _ c x signsL hc.sign]
theorem firstF_bad {l : Bt} (hl : l ≠ []) (h : (firstF l).2 = 0) (x : Bt) : (firstF (l ++ 10 :: x)).2 = 0 := by
  cases l with
  | nil => exact absurd rfl hl
  | cons a t =>
    rw [List.cons_append, firstF_cons]
    rw [firstF_cons] at h
    by_cases h1 : digitB a.toNat = true
    · rw [if_pos h1, ← List.cons_append, numN_sep h1 10 x sep10.plain]
      rw [if_pos h1] at h; exact h
    · rw [if_neg h1]
      rw [if_neg h1] at h
      by_cases h2 : begB a.toNat = true
      · rw [if_pos h2, ← List.cons_append, wordF_sep _ 10 x sep10.ok]
        rw [if_pos h2] at h; exact h
      · rw [if_neg h2]
        rw [if_neg h2] at h
        by_cases h3 : a = 39
        · rw [if_pos h3]
          rw [if_pos h3] at h
          subst h3
          rw [← List.cons_append]
          exact quo_bad (by rw [hp_iff]; rfl) h x
        · rw [if_neg h3]
          rw [if_neg h3] at h
          unfold signN at h ⊢
          rw [← List.cons_append, findS_sep _ 10 x signsL sep10.sign]; exact h
theorem firstF_cut {l : Bt} (h : (firstF l).2 ≠ 0) (m : Nat) (hm : (firstF l).2 ≤ m) : firstF (l.take m) = firstF l := by
  cases l with
  | nil => exact absurd rfl h
  | cons a t =>
    obtain ⟨m, rfl⟩ : ∃ k, m = k + 1 := ⟨m - 1, by omega⟩
    rw [List.take_succ_cons, firstF_cons, firstF_cons]
    rw [firstF_cons] at h hm
    by_cases h1 : digitB a.toNat = true
    · rw [if_pos h1] at hm
      rw [if_pos h1, if_pos h1, ← List.take_succ_cons, numN_cut h1 (m + 1) (by omega) hm]
    · rw [if_neg h1, if_neg h1]
      rw [if_neg h1] at h hm
      by_cases h2 : begB a.toNat = true
      · rw [if_pos h2] at h hm
        rw [if_pos h2, if_pos h2, ← List.take_succ_cons, wordF_cut _ _ h hm]
      · rw [if_neg h2, if_neg h2]
        rw [if_neg h2] at h hm
        by_cases h3 : a = 39
        · rw [if_pos h3, if_pos h3]
          rw [if_pos h3] at h hm
          subst h3
          cases hv : vrdSem (39 :: t) with
          | none => rw [hv] at h; exact absurd rfl h
          | some p =>
            obtain ⟨n, v⟩ := p
            rw [hv] at hm
            have hnm : n ≤ m + 1 := hm
            have := quo_more (by rw [hp_iff]; rfl) hv (((39 :: t).take (m + 1)).drop n)
            have e : (39 :: t).take n ++ ((39 :: t).take (m + 1)).drop n = (39 :: t).take (m + 1) := by
              have := List.take_append_drop n ((39 :: t).take (m + 1))
              rwa [List.take_take, Nat.min_eq_left hnm] at this
            rw [e] at this
            rw [← List.take_succ_cons, this]
        · rw [if_neg h3] at hm
          rw [if_neg h3, if_neg h3]
          unfold signN at hm ⊢
          rw [← List.take_succ_cons, findS_cut _ _ signsL hm]
end Go.Proofs.YtainigcchlgehaaGreatDoor
