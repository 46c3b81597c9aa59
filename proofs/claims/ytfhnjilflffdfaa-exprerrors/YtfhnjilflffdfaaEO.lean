import Derived.Test.YtfhnjilflffdfaaEN
namespace Go.Proofs.Ytfhnjilflffdfaa
open Go Go.RowKit
set_option linter.unusedVariables false
theorem evL_map (l : List Pr) (kids : List Ex) : evL l kids = kids.map (ev l) := by
  induction kids with
  | nil => rw [evL]; rfl
  | cons t ts ih => rw [evL, ih]; rfl
theorem formedL_all {kids : List Ex} (h : formedL kids = true) : ∀ t ∈ kids, formed t = true := by
  induction kids with
  | nil => intro t ht; cases ht
  | cons x ts ih =>
    rw [formedL, Bool.and_eq_true] at h
    intro t ht
    rcases List.mem_cons.1 ht with rfl | ht
    · exact h.1
    · exact ih h.2 t ht
theorem formedL_of {kids : List Ex} (h : ∀ t ∈ kids, formed t = true) : formedL kids = true := by
  induction kids with
  | nil => rw [formedL]
  | cons x ts ih => rw [formedL, h x (by simp), ih (fun t ht => h t (by simp [ht]))]; rfl
mutual
def turn : Ex → Ex
  | .node kind name v kids => turnN kind name v (turnL kids)
def turnL : List Ex → List Ex
  | [] => []
  | t :: l => turn t :: turnL l
def turnN (kind : Int) (name : ByteArray) (v : Vl) (ks : List Ex) : Ex :=
  if kind ≠ 3 ∨ ks.length ≠ 2 ∨ name.toList = [45] then .node kind name v ks else .node kind (flipN name) v ks.reverse
end
theorem turnL_map (kids : List Ex) : turnL kids = kids.map turn := by
  induction kids with
  | nil => rw [turnL]; rfl
  | cons t ts ih => rw [turnL, ih]; rfl
theorem opN_flip (s : ByteArray) : opN (flipN s) = opN s := by
  unfold flipN
  by_cases h1 : s.toList = [60]
  · rw [if_pos h1]; unfold opN; rw [h1, Lib.toList_data]; decide
  · rw [if_neg h1]
    by_cases h2 : s.toList = [62]
    · rw [if_pos h2]; unfold opN; rw [h2, Lib.toList_data]; decide
    · rw [if_neg h2]
      by_cases h3 : s.toList = [60, 61]
      · rw [if_pos h3]; unfold opN; rw [h3, Lib.toList_data]; decide
      · rw [if_neg h3]
        by_cases h4 : s.toList = [62, 61]
        · rw [if_pos h4]; unfold opN; rw [h4, Lib.toList_data]; decide
        · rw [if_neg h4]
/-- what a right expression's own cells and kids are -/
theorem formed_inv {kind : Int} {name : ByteArray} {v : Vl} {kids : List Ex} (h : formed (.node kind name v kids) = true) :
    (kind = 1 ∧ name.toList = [] ∧ kids = [] ∧ v.right = true) ∨ (kind = 2 ∧ name.toList ≠ [] ∧ kids = [] ∧ v.nought = true) ∨ (kind = 3 ∧ v.nought = true ∧ opN name ≠ 0 ∧ opN name = kids.length ∧ ∀ t ∈ kids, formed t = true) := by
  rw [formed] at h
  by_cases h1 : kind = 1
  · rw [if_pos h1] at h
    simp only [Bool.and_eq_true, List.isEmpty_iff] at h
    exact .inl ⟨h1, h.1.1, h.1.2, h.2⟩
  · rw [if_neg h1] at h
    by_cases h2 : kind = 2
    · rw [if_pos h2] at h
      simp only [Bool.and_eq_true, List.isEmpty_iff, Bool.not_eq_true', List.isEmpty_eq_false_iff] at h
      exact .inr (.inl ⟨h2, h.1.1, h.1.2, h.2⟩)
    · rw [if_neg h2] at h
      by_cases h3 : kind = 3
      · rw [if_pos h3] at h
        simp only [Bool.and_eq_true, decide_eq_true_eq] at h
        exact .inr (.inr ⟨h3, h.1.1.1, h.1.1.2, h.1.2, formedL_all h.2⟩)
      · rw [if_neg h3] at h; cases h
theorem formed_op {name : ByteArray} {v : Vl} {kids : List Ex} (hv : v.nought = true) (h0 : opN name ≠ 0) (h1 : opN name = kids.length) (hk : ∀ t ∈ kids, formed t = true) : formed (.node 3 name v kids) = true := by
  rw [formed, if_neg (by decide), if_neg (by decide), if_pos rfl, hv, formedL_of hk]
  rw [decide_eq_true h0, decide_eq_true h1]; rfl
theorem opN_cases (s : ByteArray) (h : opN s ≠ 0) : opN s = 1 ∨ opN s = 2 := by
  unfold opN at h ⊢
  split
  · exact .inr rfl
  · split
    · exact .inl rfl
    · rename_i a b; rw [if_neg a, if_neg b] at h; exact absurd rfl h
theorem len1 {α : Type} {l : List α} (h : l.length = 1) : ∃ a, l = [a] := by
  match l, h with
  | [a], _ => exact ⟨a, rfl⟩
theorem len2 {α : Type} {l : List α} (h : l.length = 2) : ∃ a b, l = [a, b] := by
  match l, h with
  | [a, b], _ => exact ⟨a, b, rfl⟩
theorem combL_flip (s : ByteArray) (hs : s.toList ≠ [45]) (a b : Res) : combL (flipN s) [b, a] = combL s [a, b] := by
  cases a with
  | none => cases b <;> rfl
  | some a => cases b with
    | none => rfl
    | some b => exact comb2_flip s hs a b
theorem ev_turn (l : List Pr) : ∀ t : Ex, formed t = true → ev l (turn t) = ev l t ∧ formed (turn t) = true ∧ deep (turn t) = deep t := by
  refine ex_ind fun kind name v kids ih h => ?_
  rw [turn, turnL_map]
  rcases formed_inv h with ⟨rfl, hn, rfl, hv⟩ | ⟨rfl, hn, rfl, hv⟩ | ⟨rfl, hv, h0, h1, hk⟩
  · rw [turnN, if_pos (.inl (by decide))]; exact ⟨rfl, h, rfl⟩
  · rw [turnN, if_pos (.inl (by decide))]; exact ⟨rfl, h, rfl⟩
  · rcases opN_cases name h0 with e | e
    · obtain ⟨a, rfl⟩ := len1 (by rw [← h1]; exact e)
      have ia := ih a (by simp) (hk a (by simp))
      rw [turnN, if_pos (.inr (.inl (by simp)))]
      refine ⟨?_, formed_op hv h0 h1 (fun t ht => ?_), ?_⟩
      · rw [ev, ev, evL_map, evL_map]; simp [ia.1]
      · have : t = turn a := by simpa using ht
        rw [this]; exact ia.2.1
      · rw [deep, deep]; simp [deepL, ia.2.2]
    · obtain ⟨a, b, rfl⟩ := len2 (by rw [← h1]; exact e)
      have ia := ih a (by simp) (hk a (by simp))
      have ib := ih b (by simp) (hk b (by simp))
      by_cases hs : name.toList = [45]
      · rw [turnN, if_pos (.inr (.inr hs))]
        refine ⟨?_, formed_op hv h0 h1 (fun t ht => ?_), ?_⟩
        · rw [ev, ev, evL_map, evL_map]; simp [ia.1, ib.1]
        · have : t = turn a ∨ t = turn b := by simpa using ht
          rcases this with rfl | rfl
          · exact ia.2.1
          · exact ib.2.1
        · rw [deep, deep]; simp [deepL, ia.2.2, ib.2.2]
      · rw [turnN, if_neg (by simp [hs])]
        refine ⟨?_, formed_op hv (by rw [opN_flip]; exact h0) (by rw [opN_flip]; exact h1) (fun t ht => ?_), ?_⟩
        · rw [ev, ev, evL_map, evL_map]
          simp only [List.map_cons, List.map_nil, List.reverse_cons, List.reverse_nil, List.nil_append, List.cons_append]
          rw [if_neg (by decide), if_neg (by decide), if_neg (by decide), if_neg (by decide), ia.1, ib.1]
          exact combL_flip name hs _ _
        · have : t = turn a ∨ t = turn b := by simpa [or_comm] using ht
          rcases this with rfl | rfl
          · exact ia.2.1
          · exact ib.2.1
        · rw [deep, deep]; simp [deepL, ia.2.2, ib.2.2, Nat.max_comm]
theorem evalR_turn (l : List Pr) (t : Ex) (h : rightE t = true) : evalR l (turn t) = evalR l t := by
  have h' := h
  simp only [rightE, Bool.and_eq_true, decide_eq_true_eq] at h'
  have e := ev_turn l t h'.2
  have hr : rightE (turn t) = true := by simp only [rightE, Bool.and_eq_true, decide_eq_true_eq]; exact ⟨by rw [e.2.2]; exact h'.1, e.2.1⟩
  unfold evalR
  rw [if_pos h, if_pos hr, e.1]
/-- the three truths, and what stands for them -/
theorem of_tv {x : Int} (h : T3 x) : (tv x).ofE = 0 ∧ (tv x).ofI = x := by
  rcases h with rfl | rfl | rfl <;> exact ⟨by decide, by decide⟩
theorem ofI_three (v : Vl) : T3 v.ofI := by
  unfold Vl.ofI ofI T3; (repeat' split) <;> simp
theorem notI_three (x : Int) : T3 (notI x) := by unfold notI T3; (repeat' split) <;> simp
/-- a right value that stands for a truth -/
theorem of_right {v : Vl} (hr : v.right = true) (he : v.ofE = 0) : v.k = (tv v.ofI).k ∧ v.n = (tv v.ofI).n ∧ v.f = 0 ∧ v.s.toList = [] := by
  obtain ⟨k, n, f, s⟩ := v
  unfold Vl.ofE ofE at he
  unfold Vl.right rightB at hr
  dsimp only at he hr ⊢
  by_cases h0 : k = 0
  · subst h0
    simp only [if_true, decide_eq_true_eq] at hr
    obtain ⟨rfl, rfl, hs⟩ := hr
    exact ⟨rfl, rfl, rfl, hs⟩
  · rw [if_neg h0] at he hr
    by_cases h1 : k = 1
    · subst h1
      simp only [if_true, decide_eq_true_eq] at hr
      obtain ⟨hn, rfl, hs⟩ := hr
      rcases hn with rfl | rfl
      · exact ⟨rfl, rfl, rfl, hs⟩
      · exact ⟨rfl, rfl, rfl, hs⟩
    · rw [if_neg (fun x => h1 x.1), if_neg (fun x => h1 x.1)] at he
      simp at he
theorem isnull_of {v : Vl} (he : v.ofE = 0) : (if v.k = 0 then (1 : Int) else 0) = if v.ofI = 2 then 1 else 0 := by
  unfold Vl.ofE ofE at he
  unfold Vl.ofI ofI
  by_cases h0 : v.k = 0
  · simp [h0]
  · rw [if_neg h0] at he
    rw [if_neg h0, if_neg h0]
    by_cases h1 : v.k = 1 ∧ v.n = 0
    · rw [if_pos h1]; rfl
    · rw [if_neg h1] at he ⊢
      by_cases h2 : v.k = 1 ∧ v.n = 1
      · rw [if_pos h2]; rfl
      · rw [if_neg h2] at he; simp at he
abbrev sNot : ByteArray := ⟨#[110, 111, 116]⟩
abbrev sNull : ByteArray := ⟨#[105, 115, 110, 117, 108, 108]⟩
abbrev sAnd : ByteArray := ⟨#[97, 110, 100]⟩
abbrev sOr : ByteArray := ⟨#[111, 114]⟩
abbrev sPlus : ByteArray := ⟨#[43]⟩
theorem opN_not : opN sNot = 1 := by unfold opN; rw [Lib.toList_data]; decide
theorem opN_null : opN sNull = 1 := by unfold opN; rw [Lib.toList_data]; decide
theorem opN_and : opN sAnd = 2 := by unfold opN; rw [Lib.toList_data]; decide
theorem opN_or : opN sOr = 2 := by unfold opN; rw [Lib.toList_data]; decide
theorem opN_plus : opN sPlus = 2 := by unfold opN; rw [Lib.toList_data]; decide
theorem zero_nought : Vl.zero.nought = true := by simp [Vl.nought]
abbrev opE (s : ByteArray) (kids : List Ex) : Ex := .node 3 s Vl.zero kids
theorem rightE_iff (t : Ex) : rightE t = true ↔ deep t ≤ 50 ∧ formed t = true := by simp only [rightE, Bool.and_eq_true, decide_eq_true_eq]
theorem formed1 {s : ByteArray} (hs : opN s = 1) {t : Ex} (h : formed t = true) : formed (opE s [t]) = true := formed_op zero_nought (by omega) (by simpa using hs) (fun x hx => by
  have e : x = t := by simpa using hx
  rw [e]; exact h)
theorem formed2 {s : ByteArray} (hs : opN s = 2) {t u : Ex} (h : formed t = true) (h' : formed u = true) : formed (opE s [t, u]) = true := formed_op zero_nought (by omega) (by simpa using hs) (fun x hx => by
  have : x = t ∨ x = u := by simpa using hx
  rcases this with rfl | rfl
  · exact h
  · exact h')
theorem deep1 (s : ByteArray) (t : Ex) : deep (opE s [t]) = 1 + deep t := by rw [deep]; simp [deepL]
theorem deep2 (s : ByteArray) (t u : Ex) : deep (opE s [t, u]) = 1 + max (deep t) (deep u) := by rw [deep]; simp [deepL]
theorem ev1 (l : List Pr) (s : ByteArray) (t : Ex) : ev l (opE s [t]) = combL s [ev l t] := by rw [ev, if_neg (by decide), if_neg (by decide), evL_map]; rfl
theorem ev2 (l : List Pr) (s : ByteArray) (t u : Ex) : ev l (opE s [t, u]) = combL s [ev l t, ev l u] := by rw [ev, if_neg (by decide), if_neg (by decide), evL_map]; rfl
theorem comb_not (a : Vl × Bool) (h : a.1.ofE = 0) : comb1 sNot a = some (tv (notI a.1.ofI), a.2) := by unfold comb1; rw [if_pos (by rw [Lib.toList_data]), if_pos h]
theorem comb_not_bad (a : Vl × Bool) (h : a.1.ofE ≠ 0) : comb1 sNot a = none := by unfold comb1; rw [if_pos (by rw [Lib.toList_data]), if_neg h]
theorem comb_null (a : Vl × Bool) : comb1 sNull a = some (tv (if a.1.k = 0 then 1 else 0), a.2) := by unfold comb1; rw [if_neg (by rw [Lib.toList_data]; decide)]
theorem comb_and (a b : Vl × Bool) (h : a.1.ofE = 0) (h' : b.1.ofE = 0) : comb2 sAnd a b = some (tv (joinI 0 [a.1.ofI, b.1.ofI]), a.2 || b.2) := by
  unfold comb2; rw [if_pos (.inl (by rw [Lib.toList_data])), if_pos ⟨h, h'⟩]
  have : settles sAnd = 0 := by unfold settles; rw [if_pos (by rw [Lib.toList_data])]
  rw [this]
theorem comb_or (a b : Vl × Bool) (h : a.1.ofE = 0) (h' : b.1.ofE = 0) : comb2 sOr a b = some (tv (joinI 1 [a.1.ofI, b.1.ofI]), a.2 || b.2) := by
  unfold comb2; rw [if_pos (.inr (by rw [Lib.toList_data])), if_pos ⟨h, h'⟩]
  have : settles sOr = 1 := by unfold settles; rw [if_neg (by rw [Lib.toList_data]; decide)]
  rw [this]
theorem comb_logic_bad (s : ByteArray) (hs : s = sAnd ∨ s = sOr) (a b : Vl × Bool) (h : ¬ (a.1.ofE = 0 ∧ b.1.ofE = 0)) : comb2 s a b = none := by
  unfold comb2
  rw [if_pos (by rcases hs with rfl | rfl <;> rw [Lib.toList_data] <;> decide), if_neg h]
/-- kinds of right expressions -/
theorem formed_kind {t : Ex} (h : formed t = true) : t.kind ≠ 0 := by
  cases t with
  | node kind name v kids =>
    intro hk
    have hk' : kind = 0 := hk
    subst hk'
    rw [formed] at h
    simp at h
theorem holdsR_op (l : List Pr) (s : ByteArray) (kids : List Ex) : holdsR l (opE s kids) = if (evalR l (opE s kids)).2 ≠ 0 then (false, (evalR l (opE s kids)).2) else if (evalR l (opE s kids)).1.ofE ≠ 0 then (false, 4) else (decide ((evalR l (opE s kids)).1.ofI = 1), 0) := by
  unfold holdsR; rw [if_neg (by show ¬ (3 : Int) = 0; decide)]
theorem holds_false (l : List Pr) (t : Ex) (h : (holdsR l t).2 ≠ 0) : (holdsR l t).1 = false := by
  unfold holdsR at h ⊢
  split at h
  · simp at h
  · rename_i h0
    rw [if_neg h0]
    split at h
    · rename_i h1; rw [if_pos h1]
    · rename_i h1
      rw [if_neg h1]
      split at h
      · rename_i h2; rw [if_pos h2]
      · simp at h
/-- of what holds, its not, and isnull just one is so -/
theorem holds_one (l : List Pr) (t : Ex) (hr : rightE t = true) (hd : deep t ≤ 49) (h : (holdsR l t).2 = 0) :
    ∃ x, T3 x ∧ holdsR l t = (decide (x = 1), 0) ∧ holdsR l (opE sNot [t]) = (decide (x = 0), 0) ∧ holdsR l (opE sNull [t]) = (decide (x = 2), 0) := by
  have hf := ((rightE_iff t).1 hr).2
  unfold holdsR at h
  rw [if_neg (formed_kind hf)] at h
  by_cases h1 : (evalR l t).2 = 0
  · rw [if_neg (by simp [h1])] at h
    by_cases h2 : (evalR l t).1.ofE = 0
    · have he : evalR l t = outR (ev l t) := by unfold evalR; rw [if_pos hr]
      have hN : rightE (opE sNot [t]) = true := (rightE_iff _).2 ⟨by rw [deep1]; omega, formed1 opN_not hf⟩
      have hU : rightE (opE sNull [t]) = true := (rightE_iff _).2 ⟨by rw [deep1]; omega, formed1 opN_null hf⟩
      cases hev : ev l t with
      | none => rw [he, hev] at h1; simp [outR] at h1
      | some r =>
        obtain ⟨v, o⟩ := r
        cases o with
        | true => rw [he, hev] at h1; simp [outR] at h1
        | false =>
          have hv : evalR l t = (v, 0) := by rw [he, hev]; rfl
          rw [hv] at h2
          have eN : evalR l (opE sNot [t]) = (tv (notI v.ofI), 0) := by
            unfold evalR; rw [if_pos hN, ev1, hev]
            show outR (comb1 sNot (v, false)) = _
            rw [comb_not _ h2]; rfl
          have eU : evalR l (opE sNull [t]) = (tv (if v.ofI = 2 then 1 else 0), 0) := by
            unfold evalR; rw [if_pos hU, ev1, hev]
            show outR (comb1 sNull (v, false)) = _
            rw [comb_null]
            show (tv (if v.k = 0 then 1 else 0), (0 : Int)) = _
            rw [isnull_of h2]
          refine ⟨v.ofI, ofI_three v, ?_, ?_, ?_⟩
          · unfold holdsR; rw [if_neg (formed_kind hf), hv, if_neg (by simp), if_neg (by simpa using h2)]
          · rw [holdsR_op, eN, if_neg (by simp)]
            have := of_tv (notI_three v.ofI)
            rw [if_neg (by simp [this.1])]
            show (decide ((tv (notI v.ofI)).ofI = 1), (0 : Int)) = _
            rw [this.2]
            rcases ofI_three v with e | e | e <;> rw [e] <;> decide
          · rw [holdsR_op, eU, if_neg (by simp)]
            have h3 : T3 (if v.ofI = 2 then (1 : Int) else 0) := by split <;> simp [T3]
            have := of_tv h3
            rw [if_neg (by simp [this.1])]
            show (decide ((tv (if v.ofI = 2 then 1 else 0)).ofI = 1), (0 : Int)) = _
            rw [this.2]
            rcases ofI_three v with e | e | e <;> rw [e] <;> decide
    · rw [if_pos (by simpa using h2)] at h; simp at h
  · rw [if_pos (by simpa using h1)] at h; exact absurd h h1
end Go.Proofs.Ytfhnjilflffdfaa
