import Derived.Test.YtfhnjilflffdfaaEO
namespace Go.Proofs.Ytfhnjilflffdfaa
open Go Go.RowKit
set_option linter.unusedVariables false
theorem none1 (s : ByteArray) : combL s [none] = none := rfl
theorem none2l (s : ByteArray) (b : Res) : combL s [none, b] = none := by cases b <;> rfl
theorem none2r (s : ByteArray) (a : Res) : combL s [a, none] = none := by cases a <;> rfl
theorem evalR_of {l : List Pr} {t : Ex} (h : rightE t = true) : evalR l t = outR (ev l t) := by unfold evalR; rw [if_pos h]
/-- not twice -/
theorem nots_twice (l : List Pr) (hl : PsOk l) (d : Ex) (hv : ∀ kind name v kids, d = .node kind name v kids → v.Ok) (hr : rightE d = true) (hd : deep d ≤ 45) :
    ((evalR l (opE sNot [opE sNot [d]])).2 ≠ 0 ∧ ((evalR l (opE sNot [opE sNot [d]])).2 = (evalR l d).2 ∨ (evalR l (opE sNot [opE sNot [d]])).2 = 4)) ∨
    ((evalR l (opE sNot [opE sNot [d]])).2 = 0 ∧ (evalR l d).2 = 0 ∧ ∃ v : Vl, v.f = 0 ∧ v.s.toList = [] ∧ (evalR l d).1 = v ∧ (evalR l (opE sNot [opE sNot [d]])).1 = ⟨v.k, v.n, 0, ⟨#[]⟩⟩) := by
  have hf := ((rightE_iff d).1 hr).2
  have hN : rightE (opE sNot [opE sNot [d]]) = true := (rightE_iff _).2 ⟨by rw [deep1, deep1]; omega, formed1 opN_not (formed1 opN_not hf)⟩
  rw [evalR_of hN, evalR_of hr, ev1, ev1]
  cases hev : ev l d with
  | none => exact .inl ⟨by simp [none1, outR], .inl rfl⟩
  | some r =>
    obtain ⟨v, o⟩ := r
    have hok := ev_ok hl hf hv hev
    by_cases he : v.ofE = 0
    · have e1 : combL sNot [some (v, o)] = some (tv (notI v.ofI), o) := comb_not (v, o) he
      have h3 := of_tv (notI_three v.ofI)
      have e2 : combL sNot [some (tv (notI v.ofI), o)] = some (tv (notI (notI v.ofI)), o) := by
        have := comb_not (tv (notI v.ofI), o) h3.1
        rw [show (tv (notI v.ofI), o).1.ofI = notI v.ofI from h3.2] at this
        exact this
      rw [e1, e2, not_not (ofI_three v)]
      cases o with
      | true => exact .inl ⟨by simp [outR], .inl rfl⟩
      | false =>
        have hx := of_right hok.1 he
        refine .inr ⟨rfl, rfl, v, hx.2.2.1, hx.2.2.2, rfl, ?_⟩
        show tv v.ofI = _
        rw [hx.1, hx.2.1]; rfl
    · have e1 : combL sNot [some (v, o)] = none := comb_not_bad (v, o) he
      rw [e1]
      exact .inl ⟨by simp [none1, outR], .inr rfl⟩
/-- not of and is or of nots -/
theorem nots_and (l : List Pr) (d e : Ex) (hr : rightE d = true) (hr' : rightE e = true) (hd : deep d ≤ 45) (hd' : deep e ≤ 45) :
    evalR l (opE sNot [opE sAnd [d, e]]) = evalR l (opE sOr [opE sNot [d], opE sNot [e]]) := by
  have hf := ((rightE_iff d).1 hr).2
  have hf' := ((rightE_iff e).1 hr').2
  have hA : rightE (opE sNot [opE sAnd [d, e]]) = true := (rightE_iff _).2 ⟨by rw [deep1, deep2]; omega, formed1 opN_not (formed2 opN_and hf hf')⟩
  have hO : rightE (opE sOr [opE sNot [d], opE sNot [e]]) = true := (rightE_iff _).2 ⟨by rw [deep2, deep1, deep1]; omega, formed2 opN_or (formed1 opN_not hf) (formed1 opN_not hf')⟩
  rw [evalR_of hA, evalR_of hO, ev1, ev2, ev2, ev1, ev1]
  congr 1
  cases hev : ev l d with
  | none => rw [none2l, none1, none2l]
  | some a =>
    cases hev' : ev l e with
    | none => rw [none2r, none1, none2r]
    | some b =>
      show combL sNot [comb2 sAnd a b] = combL sOr [comb1 sNot a, comb1 sNot b]
      by_cases h1 : a.1.ofE = 0
      · by_cases h2 : b.1.ofE = 0
        · rw [comb_and a b h1 h2, comb_not a h1, comb_not b h2]
          show comb1 sNot (tv (joinI 0 [a.1.ofI, b.1.ofI]), a.2 || b.2) = comb2 sOr (tv (notI a.1.ofI), a.2) (tv (notI b.1.ofI), b.2)
          have j3 := of_tv (join_three (.inl rfl) [a.1.ofI, b.1.ofI])
          have n1 := of_tv (notI_three a.1.ofI)
          have n2 := of_tv (notI_three b.1.ofI)
          rw [comb_not _ j3.1, comb_or _ _ n1.1 n2.1]
          dsimp only
          rw [j3.2, n1.2, n2.2]
          have := join_turn (s := 0) (.inl rfl) [a.1.ofI, b.1.ofI] (fun x hx => by
            have : x = a.1.ofI ∨ x = b.1.ofI := by simpa using hx
            rcases this with rfl | rfl <;> exact ofI_three _)
          rw [this]; rfl
        · rw [comb_logic_bad sAnd (.inl rfl) a b (fun h => h2 h.2), comb_not_bad b h2, none1, none2r]
      · rw [comb_logic_bad sAnd (.inl rfl) a b (fun h => h1 h.1), comb_not_bad a h1, none1, none2l]
/-- a whole number as an expression -/
abbrev wholeE (n : Int) : Ex := .node 1 ⟨#[]⟩ ⟨2, n, 0, ⟨#[]⟩⟩ []
abbrev litE (v : Vl) : Ex := .node 1 ⟨#[]⟩ v []
theorem formed_lit {v : Vl} (h : v.right = true) : formed (litE v) = true := by
  rw [formed, if_pos rfl, h]
  simp
theorem deep_lit (v : Vl) : deep (litE v) = 1 := by rw [deep]; simp [deepL]
theorem ev_lit (l : List Pr) (v : Vl) : ev l (litE v) = some (v, false) := by rw [ev, if_pos rfl]
theorem whole_right (n : Int) : Vl.right ⟨2, n, 0, ⟨#[]⟩⟩ = true := by simp [Vl.right, rightB]
theorem true_right : Vl.right ⟨1, 1, 0, ⟨#[]⟩⟩ = true := by simp [Vl.right, rightB]
abbrev overE : Ex := opE sPlus [wholeE 9223372036854775807, wholeE 1]
abbrev wrongE : Ex := opE sPlus [wholeE 1, litE ⟨1, 1, 0, ⟨#[]⟩⟩]
theorem opO_plus : opO sPlus = 1 := by unfold opO; rw [Lib.toList_data]; rfl
theorem not_logic_plus : ¬ (sPlus.toList = [97, 110, 100] ∨ sPlus.toList = [111, 114]) := by rw [Lib.toList_data]; decide
theorem ev_over (l : List Pr) : ev l overE = some (Vl.zero, true) := by
  rw [ev2, ev_lit, ev_lit]
  show comb2 sPlus _ _ = _
  unfold comb2
  rw [if_neg not_logic_plus, if_pos (by rw [opO_plus]; decide)]
  have e : reckR sPlus 2 9223372036854775807 0 ⟨#[]⟩ 2 1 0 ⟨#[]⟩ = (0, 0, 0, 7) := by
    have r1 : rightB 2 9223372036854775807 0 ⟨#[]⟩ = true := whole_right _
    have r2 : rightB 2 1 0 ⟨#[]⟩ = true := whole_right _
    unfold reckR
    rw [opO_plus, r1, r2]
    decide
  dsimp only
  rw [e]
  rfl
theorem ev_wrong (l : List Pr) : ev l wrongE = none := by
  rw [ev2, ev_lit, ev_lit]
  show comb2 sPlus _ _ = _
  unfold comb2
  rw [if_neg not_logic_plus, if_pos (by rw [opO_plus]; decide)]
  have e : reckR sPlus 2 1 0 ⟨#[]⟩ 1 1 0 ⟨#[]⟩ = (0, 0, 0, 4) := by
    have r1 : rightB 2 1 0 ⟨#[]⟩ = true := whole_right _
    have r2 : rightB 1 1 0 ⟨#[]⟩ = true := true_right
    unfold reckR
    rw [opO_plus, r1, r2]
    decide
  dsimp only
  rw [e]
  rfl
theorem formed_over : formed overE = true := formed2 opN_plus (formed_lit (whole_right _)) (formed_lit (whole_right _))
theorem formed_wrong : formed wrongE = true := formed2 opN_plus (formed_lit (whole_right _)) (formed_lit true_right)
theorem deep_over : deep overE = 2 := by rw [deep2, deep_lit, deep_lit]; rfl
theorem deep_wrong : deep wrongE = 2 := by rw [deep2, deep_lit, deep_lit]; rfl
theorem ofE_tv01 (c : Prop) [Decidable c] : (tv (if c then 1 else 0)).ofE = 0 := (of_tv (show T3 (if c then (1 : Int) else 0) by split <;> simp [T3])).1
theorem ev_null_none (l : List Pr) (t : Ex) (h : ev l t = none) : ev l (opE sNull [t]) = none := by rw [ev1, h]; rfl
theorem ev_null_some (l : List Pr) (t : Ex) (r : Vl × Bool) (h : ev l t = some r) : ev l (opE sNull [t]) = some (tv (if r.1.k = 0 then 1 else 0), r.2) := by rw [ev1, h]; exact comb_null r
theorem logic_two (s : ByteArray) (hs : s = sAnd ∨ s = sOr) (c c' : Prop) [Decidable c] [Decidable c'] (o o' : Bool) : ∃ x, combL s [some (tv (if c then 1 else 0), o), some (tv (if c' then 1 else 0), o')] = some (tv x, o || o') := by
  rcases hs with rfl | rfl
  · exact ⟨_, comb_and (tv (if c then 1 else 0), o) (tv (if c' then 1 else 0), o') (ofE_tv01 c) (ofE_tv01 c')⟩
  · exact ⟨_, comb_or (tv (if c then 1 else 0), o) (tv (if c' then 1 else 0), o') (ofE_tv01 c) (ofE_tv01 c')⟩
theorem opN_logic {s : ByteArray} (hs : s = sAnd ∨ s = sOr) : opN s = 2 := by rcases hs with rfl | rfl <;> first | exact opN_and | exact opN_or
/-- what is of a wrong type, and what overflows, beside any expression -/
theorem errors_all (l : List Pr) (s : ByteArray) (hs : s = sAnd ∨ s = sOr) (t : Ex) (hr : rightE t = true) (hd : deep t ≤ 45) :
    (evalR l (opE s [opE sNull [t], opE sNull [wrongE]])).2 = 4 ∧ (evalR l (opE s [opE sNull [overE], opE sNull [t]])).2 = (if (evalR l t).2 = 4 then 4 else 7) ∧ (evalR l (opE s [opE sNull [overE], opE sNull [wrongE]])).2 = 4 := by
  have hf := ((rightE_iff t).1 hr).2
  have fT := formed1 opN_null hf
  have fO := formed1 opN_null formed_over
  have fW := formed1 opN_null formed_wrong
  have r1 : rightE (opE s [opE sNull [t], opE sNull [wrongE]]) = true := (rightE_iff _).2 ⟨by rw [deep2, deep1, deep1, deep_wrong]; omega, formed2 (opN_logic hs) fT fW⟩
  have r2 : rightE (opE s [opE sNull [overE], opE sNull [t]]) = true := (rightE_iff _).2 ⟨by rw [deep2, deep1, deep1, deep_over]; omega, formed2 (opN_logic hs) fO fT⟩
  have r3 : rightE (opE s [opE sNull [overE], opE sNull [wrongE]]) = true := (rightE_iff _).2 ⟨by rw [deep2, deep1, deep1, deep_over, deep_wrong]; omega, formed2 (opN_logic hs) fO fW⟩
  rw [evalR_of r1, evalR_of r2, evalR_of r3, ev2, ev2, ev2, ev_null_none l _ (ev_wrong l), none2r, none2r, ev_null_some l _ _ (ev_over l), evalR_of hr]
  refine ⟨rfl, ?_, rfl⟩
  cases hev : ev l t with
  | none => rw [ev_null_none l t hev, none2r]; rfl
  | some r =>
    obtain ⟨x, hx⟩ := logic_two s hs (Vl.zero.k = 0) (r.1.k = 0) true r.2
    rw [ev_null_some l t r hev, hx]
    obtain ⟨v, o⟩ := r
    cases o <;> simp [outR]
mutual
/-- the properties that are asked for -/
def namesE : Ex → List ByteArray
  | .node kind name v kids => (if kind = 2 then [name] else []) ++ namesL kids
def namesL : List Ex → List ByteArray
  | [] => []
  | t :: l => namesE t ++ namesL l
end
theorem namesL_mem {kids : List Ex} {t : Ex} (ht : t ∈ kids) {x : ByteArray} (hx : x ∈ namesE t) : x ∈ namesL kids := by
  induction kids with
  | nil => cases ht
  | cons y ts ih =>
    rw [namesL, List.mem_append]
    rcases List.mem_cons.1 ht with rfl | ht
    · exact .inl hx
    · exact .inr (ih ht)
theorem find_more (l : List Pr) (q : Pr) (name : ByteArray) (h : name.toList = q.1.toList → ∃ p ∈ l, p.1.toList = name.toList) : findP name (l ++ [q]) = findP name l := by
  unfold findP
  rw [List.find?_append]
  cases hf : l.find? (fun p => p.1.toList == name.toList) with
  | some p => rfl
  | none =>
    have hn : ¬ name.toList = q.1.toList := fun e => by
      obtain ⟨p, hp, hpe⟩ := h e
      have := List.find?_eq_none.1 hf p hp
      simp [hpe] at this
    have : ([q].find? fun p => p.1.toList == name.toList) = none := by
      simp only [List.find?_cons, List.find?_nil]
      have : (q.1.toList == name.toList) = false := by simpa using fun e => hn e.symm
      rw [this]
    rw [this]; rfl
theorem ev_more (l : List Pr) (q : Pr) : ∀ t : Ex, (∀ name ∈ namesE t, name.toList = q.1.toList → ∃ p ∈ l, p.1.toList = name.toList) → ev (l ++ [q]) t = ev l t := by
  refine ex_ind fun kind name v kids ih h => ?_
  rw [ev, ev]
  split
  · rfl
  · split
    · rename_i h1 h2
      rw [find_more l q name (h name (by rw [namesE, if_pos h2]; simp))]
    · rw [evL_map, evL_map]
      congr 1
      refine List.map_congr_left fun t ht => ih t ht fun x hx => h x ?_
      rw [namesE, List.mem_append]
      exact .inr (namesL_mem ht hx)
theorem evalR_more (l : List Pr) (q : Pr) (t : Ex) (h : ∀ name ∈ namesE t, name.toList = q.1.toList → ∃ p ∈ l, p.1.toList = name.toList) : evalR (l ++ [q]) t = evalR l t := by
  unfold evalR; rw [ev_more l q t h]
end Go.Proofs.Ytfhnjilflffdfaa
