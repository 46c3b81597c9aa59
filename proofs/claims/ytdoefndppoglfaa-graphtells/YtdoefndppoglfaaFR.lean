import Derived.Test.YtdoefndppoglfaaRows
import Derived.WalkKit
import Derived.WalkSpells
import Derived.StillTail
namespace Go.Proofs.Ytdoefndppoglfaa
open Go Go.RowKit
set_option linter.unusedVariables false
/-! A region that draws its order, walked operation by operation: one fact an operation, a relation of worlds that keeps every fact; each operation is walked once, from the facts of those it waits for; what must come last, in one order, is walked behind. -/
section
variable {P : Program} {ops : Array Oper} {Q : Exit → Act → World → Prop}
/-- what stands in an operation's slot -/
def slotOf (ops : Array Oper) (j : Nat) (a : Act) : Value := match (ops[j]?).bind (·.dst) with
  | some t => a.eval (.tmp t)
  | none => undef
/-- the values of operations k, k + 1, .., each in its slot -/
def putAll : List Oper → (Nat → Value) → Nat → Act → Act
  | [], _, _, a => a
  | o :: l, vs, k, a => putAll l vs (k + 1) (a.put o.dst (vs k))
/-- does it wait for number j? -/
def waits (o : Oper) (j : Nat) : Bool := o.after.toList.any fun e => Region.binds .any e && decide (e.on = j)
/-- who writes slot t waits for number k, or is it -/
def freshB (k t : Nat) : List Oper → Nat → Bool
  | [], _ => true
  | o :: l, j => (o.dst != some t || decide (j = k) || waits o k) && freshB k t l (j + 1)
/-- edges go back; slots are written once, and are there -/
def chkOps (n : Nat) : List Oper → Nat → List Nat → Bool
  | [], _, _ => true
  | o :: l, k, seen => (o.after.toList.all fun e => !Region.binds .any e || decide (e.on < k)) && (match o.dst with
    | some t => !seen.contains t && decide (t < n)
    | none => true) && chkOps n l (k + 1) (match o.dst with
    | some t => t :: seen
    | none => seen)
theorem chk_spec {n : Nat} : ∀ {l : List Oper} {k : Nat} {seen : List Nat}, chkOps n l k seen = true →
    (∀ j o, l[j]? = some o → (∀ e ∈ o.after, Region.binds .any e = true → e.on < k + j) ∧ (∀ t, o.dst = some t → t < n ∧ t ∉ seen)) ∧
    (∀ (i j : Nat) (oi oj : Oper) (t : Nat), l[i]? = some oi → l[j]? = some oj → oi.dst = some t → oj.dst = some t → i = j)
  | [], _, _, _ => ⟨fun j o h => by simp at h, fun i j oi oj t h => by simp at h⟩
  | o :: l, k, seen, h => by
    simp only [chkOps, Bool.and_eq_true] at h
    obtain ⟨⟨h1, h2⟩, h3⟩ := h
    obtain ⟨i1, i2⟩ := chk_spec h3
    have hd : ∀ t, o.dst = some t → t < n ∧ t ∉ seen := by
      intro t ht
      rw [ht] at h2
      simpa [and_comm] using h2
    refine ⟨fun j oj hj => ?_, fun i j oi oj t hi hj ti tj => ?_⟩
    · cases j with
      | zero =>
        simp only [List.getElem?_cons_zero, Option.some.injEq] at hj
        subst hj
        refine ⟨fun e he hb => ?_, hd⟩
        have := List.all_eq_true.1 h1 e (by simpa using he)
        simpa [hb] using this
      | succ j =>
        simp only [List.getElem?_cons_succ] at hj
        obtain ⟨a1, a2⟩ := i1 j oj hj
        refine ⟨fun e he hb => by have := a1 e he hb; omega, fun t ht => ?_⟩
        obtain ⟨b1, b2⟩ := a2 t ht
        refine ⟨b1, fun hm => b2 ?_⟩
        cases hod : o.dst with
        | none => exact hm
        | some t' => exact List.mem_cons_of_mem _ hm
    · have key : ∀ (j : Nat) (oj : Oper), l[j]? = some oj → oj.dst = some t → o.dst ≠ some t := by
        intro j oj hj tj ho
        obtain ⟨_, b2⟩ := (i1 j oj hj).2 t tj
        rw [ho] at b2
        exact b2 (List.mem_cons_self ..)
      cases i with
      | zero =>
        simp only [List.getElem?_cons_zero, Option.some.injEq] at hi
        subst hi
        cases j with
        | zero => rfl
        | succ j => exact absurd ti (key j oj (by simpa using hj) tj)
      | succ i =>
        cases j with
        | zero =>
          simp only [List.getElem?_cons_zero, Option.some.injEq] at hj
          subst hj
          exact absurd tj (key i oi (by simpa using hi) ti)
        | succ j =>
          have := i2 i j oi oj t (by simpa using hi) (by simpa using hj) ti tj
          omega
theorem fresh_spec {k t : Nat} : ∀ {l : List Oper} {j0 : Nat}, freshB k t l j0 = true → ∀ j o, l[j]? = some o → o.dst = some t → j0 + j = k ∨ waits o k = true
  | [], _, _, j, o, h, _ => by simp at h
  | o :: l, j0, h, j, oj, hj, ht => by
    simp only [freshB, Bool.and_eq_true] at h
    cases j with
    | zero =>
      simp only [List.getElem?_cons_zero, Option.some.injEq] at hj
      subst hj
      have := h.1
      simp only [Bool.or_eq_true, bne_iff_ne, ne_eq, decide_eq_true_eq] at this
      rcases this with (h1 | h1) | h1
      · exact absurd ht h1
      · exact .inl (by omega)
      · exact .inr h1
    | succ j =>
      have := fresh_spec h.2 j oj (by simpa using hj) ht
      rcases this with h1 | h1
      · exact .inl (by omega)
      · exact .inr h1
theorem waits_spec {o : Oper} {j : Nat} : waits o j = true ↔ ∃ e ∈ o.after, Region.binds .any e = true ∧ e.on = j := by
  unfold waits
  rw [List.any_eq_true]
  constructor
  · rintro ⟨e, he, hb⟩
    simp only [Bool.and_eq_true, decide_eq_true_eq] at hb
    exact ⟨e, by simpa using he, hb⟩
  · rintro ⟨e, he, hb⟩
    exact ⟨e, by simpa using he, by simpa using hb⟩
theorem putAll_defers : ∀ (l : List Oper) (vs : Nat → Value) (k : Nat) (a : Act), (putAll l vs k a).defers = a.defers
  | [], _, _, _ => rfl
  | o :: l, vs, k, a => by
    unfold putAll
    rw [putAll_defers l]
    cases o.dst <;> rfl
theorem put_size (a : Act) (d : Option Tmp) (v : Value) : (a.put d v).tmps.size = a.tmps.size := by cases d <;> simp [Act.put]
theorem put_defers' (a : Act) (d : Option Tmp) (v : Value) : (a.put d v).defers = a.defers := by cases d <;> rfl
theorem putAll_size : ∀ (l : List Oper) (vs : Nat → Value) (k : Nat) (a : Act), (putAll l vs k a).tmps.size = a.tmps.size
  | [], _, _, _ => rfl
  | o :: l, vs, k, a => by
    unfold putAll
    rw [putAll_size l, put_size]
theorem put_other (a : Act) (d : Option Tmp) (v : Value) (t : Nat) (h : d ≠ some t) : (a.put d v).tmps[t]? = a.tmps[t]? := by
  cases d with
  | none => rfl
  | some d => exact Array.getElem?_setIfInBounds_ne (fun e => h (by rw [e]))
theorem put_at (a : Act) (v : Value) (t : Nat) (h : t < a.tmps.size) : (a.put (some t) v).tmps[t]? = some v := by
  simp [Act.put, h]
theorem putAll_other : ∀ (l : List Oper) (vs : Nat → Value) (k : Nat) (a : Act) (t : Nat), (∀ o ∈ l, o.dst ≠ some t) → (putAll l vs k a).tmps[t]? = a.tmps[t]?
  | [], _, _, _, _, _ => rfl
  | o :: l, vs, k, a, t, h => by
    unfold putAll
    rw [putAll_other l _ _ _ t (fun o' ho' => h o' (List.mem_cons_of_mem _ ho')), put_other _ _ _ _ (h o (List.mem_cons_self ..))]
theorem putAll_at : ∀ (l : List Oper) (vs : Nat → Value) (k : Nat) (a : Act) (t j : Nat) (o : Oper), (∀ (i j : Nat) (oi oj : Oper) (t : Nat), l[i]? = some oi → l[j]? = some oj → oi.dst = some t → oj.dst = some t → i = j) →
    l[j]? = some o → o.dst = some t → t < a.tmps.size → (putAll l vs k a).tmps[t]? = some (vs (k + j))
  | [], _, _, _, _, _, _, _, h, _, _ => by simp at h
  | o :: l, vs, k, a, t, j, oj, hd, hj, ht, hs => by
    unfold putAll
    cases j with
    | zero =>
      simp only [List.getElem?_cons_zero, Option.some.injEq] at hj
      subst hj
      rw [putAll_other l _ _ _ t (fun o' ho' he => by
        obtain ⟨i, hi⟩ := List.mem_iff_getElem?.1 ho'
        have := hd 0 (i + 1) o o' t rfl (by simpa using hi) ht he
        omega), ht, put_at _ _ _ hs]
      rfl
    | succ j =>
      have := putAll_at l vs (k + 1) (a.put o.dst (vs k)) t j oj (fun i j oi oj t hi hj ti tj => by
        have := hd (i + 1) (j + 1) oi oj t (by simpa using hi) (by simpa using hj) ti tj
        omega) (by simpa using hj) ht (by rw [put_size]; exact hs)
      rw [this]
      congr 2
      omega
/-- one operation, from the facts of those it waits for -/
def StepOK (P : Program) (ops : Array Oper) (Q : Exit → Act → World → Prop) (V : Nat → Value → World → Prop) (R : World → World → Prop) (A0 : Act) (w0 : World) (k : Nat) (o : Oper) : Prop :=
  ∀ (a : Act) (w : World), R w0 w → (∀ t, freshB k t ops.toList 0 = true → a.eval (.tmp t) = A0.eval (.tmp t)) → (∀ j, waits o j = true → V j (slotOf ops j a) w) →
    match o.guard with
    | none => o.wp P a w (fun a' w' => ∃ v, a' = a.put o.dst v ∧ V k (match o.dst with | some _ => v | none => undef) w' ∧ R w w') Q
    | some _ => (Region.wanted o (yielded ops a.tmps) = true → o.wp P a w (fun a' w' => ∃ v, a' = a.put o.dst v ∧ V k (match o.dst with | some _ => v | none => undef) w' ∧ R w w') Q) ∧
      (Region.wanted o (yielded ops a.tmps) = false → V k undef w)
def StepsOK (P : Program) (ops : Array Oper) (Q : Exit → Act → World → Prop) (V : Nat → Value → World → Prop) (R : World → World → Prop) (A0 : Act) (w0 : World) : Nat → List Oper → Prop
  | _, [] => True
  | k, o :: l => StepOK P ops Q V R A0 w0 k o ∧ StepsOK P ops Q V R A0 w0 (k + 1) l
theorem steps_spec {V : Nat → Value → World → Prop} {R : World → World → Prop} {A0 : Act} {w0 : World} : ∀ {l : List Oper} {k : Nat}, StepsOK P ops Q V R A0 w0 k l → ∀ j o, l[j]? = some o → StepOK P ops Q V R A0 w0 (k + j) o
  | [], _, _, j, o, h => by simp at h
  | o :: l, k, h, j, oj, hj => by
    cases j with
    | zero =>
      simp only [List.getElem?_cons_zero, Option.some.injEq] at hj
      subst hj
      exact h.1
    | succ j =>
      have := steps_spec h.2 j oj (by simpa using hj)
      rwa [show k + (j + 1) = k + 1 + j by omega]
/-- what holds between two operations -/
structure Mid (ops : Array Oper) (m : Nat) (V : Nat → Value → World → Prop) (R : World → World → Prop) (A0 : Act) (w0 : World) (listed : Array Bool) (a : Act) (w : World) : Prop where
  sz : listed.size = ops.size
  df : a.defers = A0.defers
  ts : a.tmps.size = A0.tmps.size
  un : ∀ t, (∀ j o, ops[j]? = some o → o.dst = some t → listed.getD j true = false) → a.tmps[t]? = A0.tmps[t]?
  has : ∀ j o, ops[j]? = some o → listed.getD j true = true → V j (slotOf ops j a) w
  rel : R w0 w
  down : ∀ j o, ops[j]? = some o → listed.getD j true = true → ∀ e ∈ o.after, Region.binds .any e = true → listed.getD e.on true = true
  late : ∀ j, m ≤ j → j < ops.size → listed.getD j true = false
def leftN (listed : Array Bool) (m : Nat) : Nat := ((List.range m).filter fun i => !listed.getD i true).length
theorem getD_both {listed : Array Bool} {j n : Nat} (hs : listed.size = n) (hj : j < n) : listed.getD j true = listed.getD j false := by
  subst hs
  simp [hj]
theorem left_less {listed : Array Bool} {i : Nat} (hi : listed.getD i true = false) : ∀ {m : Nat}, i < m → leftN (listed.setIfInBounds i true) m + 1 = leftN listed m := by
  have hlt : i < listed.size := by
    rcases Nat.lt_or_ge i listed.size with h | h
    · exact h
    · simp [Array.getElem?_eq_none h] at hi
  have key : ∀ j, (listed.setIfInBounds i true).getD j true = if i = j then true else listed.getD j true := by
    intro j
    by_cases hij : i = j
    · subst hij; simp [hlt]
    · rw [getD_set_ne true hij, if_neg hij]
  have same : ∀ m, m ≤ i → leftN (listed.setIfInBounds i true) m = leftN listed m := by
    intro m hm
    unfold leftN
    congr 1
    apply List.filter_congr
    intro j hj
    rw [List.mem_range] at hj
    rw [key, if_neg (by omega)]
  intro m
  induction m with
  | zero => intro h; omega
  | succ m ih =>
    intro h
    have e1 : ∀ l : Array Bool, leftN l (m + 1) = leftN l m + (if l.getD m true = false then 1 else 0) := by
      intro l
      unfold leftN
      rw [List.range_succ, List.filter_append]
      cases hl : l.getD m true <;> simp only [List.filter_cons, List.filter_nil, hl, Bool.not_true, Bool.not_false, if_true, if_false, List.length_append, List.length_cons, List.length_nil, reduceCtorEq]
      all_goals rfl
    rw [e1, e1, key]
    by_cases him : i = m
    · subst him
      rw [same i (Nat.le_refl _), if_pos rfl, hi]
      simp
    · rw [if_neg him]
      have := ih (by omega)
      omega
theorem seqB_hd {md : Region.Mode} {k : Nat} {listed : Array Bool} {g : Nat} (h : Region.seqB md ops g k listed = true) : Region.ready md ops listed = if g = 0 then [] else [k] := by
  cases g with
  | zero => simpa [Region.seqB] using h
  | succ g =>
    simp only [Region.seqB, Bool.and_eq_true, decide_eq_true_eq] at h
    simpa using h.1
/-- those from m on come last, in one order -/
def lastB (ops : Array Oper) (m : Nat) : Bool := Region.seqB .any ops (ops.size - m) m ((List.replicate m true ++ List.replicate (ops.size - m) false).toArray) && (List.range ops.size).all fun i => decide (i < m) || (List.range m).all fun j => match ops[i]? with
  | some o => waits o j
  | none => true
theorem wpAny_facts {l : List Oper} {m : Nat} {V : Nat → Value → World → Prop} {R : World → World → Prop} {A0 : Act} {w0 : World} (hm : m ≤ l.length)
    (hR0 : ∀ a, R a a) (hR : ∀ a b c, R a b → R b c → R a c) (hV : ∀ i v w w', V i v w → R w w' → V i v w') (hchk : chkOps A0.tmps.size l 0 [] = true) (hlast : lastB l.toArray m = true)
    (hstep : StepsOK P l.toArray Q V R A0 w0 0 (l.take m))
    (hdone : ∀ (vs : Nat → Value) w', (∀ j, j < m → V j (vs j) w') → R w0 w' → wpList P l.toArray Q (l.drop m) (putAll (l.take m) vs 0 A0) w') :
    ∀ (fuel : Nat) (listed : Array Bool) (a : Act) (w : World), Mid l.toArray m V R A0 w0 listed a w → leftN listed m + (l.length - m) = fuel → wpAny P .any l.toArray Q fuel listed a w := by
  obtain ⟨c1, c2⟩ := chk_spec hchk
  simp only [lastB, Bool.and_eq_true] at hlast
  obtain ⟨hseq, hwait⟩ := hlast
  have hops : ∀ (j : Nat) (o : Oper), l.toArray[j]? = some o ↔ l[j]? = some o := fun j o => by rw [List.getElem?_toArray]
  have lastW : ∀ (i : Nat) (o : Oper), m ≤ i → l[i]? = some o → ∀ j, j < m → waits o j = true := by
    intro i o hi ho j hj
    have hil : i < l.length := (List.getElem?_eq_some_iff.1 ho).1
    have := List.all_eq_true.1 hwait i (by simpa using hil)
    simp only [Bool.or_eq_true, decide_eq_true_eq] at this
    rcases this with h | h
    · omega
    · have := List.all_eq_true.1 h j (by simpa using hj)
      rw [(hops i o).2 ho] at this
      exact this
  intro fuel
  induction fuel with
  | zero =>
    intro listed a w hM hf
    -- nothing is left
    have hml : m = l.length := by omega
    have all : ∀ j, j < m → listed.getD j true = true := by
      intro j hj
      cases hl : listed.getD j true with
      | true => rfl
      | false =>
        have h1 := left_less hl hj
        omega
    have hnil : Region.ready .any l.toArray listed = [] := by
      rw [List.eq_nil_iff_forall_not_mem]
      intro j hj
      rw [mem_ready] at hj
      obtain ⟨h0, o, ho, _⟩ := hj
      have hjl : j < l.length := (List.getElem?_eq_some_iff.1 ((hops j o).1 ho)).1
      rw [all j (by omega)] at h0
      cases h0
    refine ⟨hnil, ?_⟩
    have hd := hdone (fun j => slotOf l.toArray j a) w (fun j hj => by
      have hjl : j < l.length := by omega
      exact hM.has j l[j] (by simp [hjl]) (all j hj)) hM.rel
    have e1 : l.drop m = [] := by rw [hml]; simp
    rw [e1] at hd
    have e2 : putAll (l.take m) (fun j => slotOf l.toArray j a) 0 A0 = a := by
      rw [hml, List.take_length]
      obtain ⟨tm, df⟩ := a
      have ht : (putAll l (fun j => slotOf l.toArray j ⟨tm, df⟩) 0 A0).tmps = tm := by
        apply Array.ext_getElem?
        intro t
        by_cases hx : ∃ (j : Nat) (o : Oper), l[j]? = some o ∧ o.dst = some t
        · obtain ⟨j, o, hj, ho⟩ := hx
          have hb := ((c1 j o hj).2 t ho).1
          rw [putAll_at l _ 0 A0 t j o c2 hj ho hb]
          have hts := hM.ts
          dsimp only at hts
          have hb' : t < tm.size := by rw [hts]; exact hb
          simp [slotOf, (hops j o).2 hj, ho, Act.eval, hb']
        · rw [putAll_other l _ 0 A0 t (fun o ho he => by
            obtain ⟨j, hj⟩ := List.mem_iff_getElem?.1 ho
            exact hx ⟨j, o, hj, he⟩)]
          exact (hM.un t (fun j o hj ho => absurd ⟨j, o, (hops j o).1 hj, ho⟩ hx)).symm
      have hd' := putAll_defers l (fun j => slotOf l.toArray j ⟨tm, df⟩) 0 A0
      have hdf := hM.df
      dsimp only at hdf
      cases hp : putAll l (fun j => slotOf l.toArray j ⟨tm, df⟩) 0 A0 with
      | mk tm' df' =>
        rw [hp] at ht hd'
        dsimp only at ht hd'
        rw [ht, hd', hdf]
    rw [e2] at hd
    exact hd
  | succ fuel ih =>
    intro listed a w hM hf
    by_cases hleft : leftN listed m = 0
    · -- the tail
      have all : ∀ j, j < m → listed.getD j true = true := by
        intro j hj
        cases hl : listed.getD j true with
        | true => rfl
        | false =>
          have h1 := left_less hl hj
          omega
      have hlst : listed = (List.replicate m true ++ List.replicate (l.toArray.size - m) false).toArray := by
        apply Array.ext
        · rw [hM.sz]
          simp
          omega
        · intro i h1 h2
          have hil : i < l.length := by have := hM.sz; simp at this; omega
          have hsz : i < listed.size := h1
          by_cases him : i < m
          · have := all i him
            simp only [Array.getD, hsz, dif_pos] at this
            simp [him] at this ⊢
            exact this
          · have := hM.late i (by omega) (by simpa using hil)
            simp only [Array.getD, hsz, dif_pos] at this
            simp [List.getElem_append, him] at this ⊢
            exact this
      have e2 : putAll (l.take m) (fun j => slotOf l.toArray j a) 0 A0 = a := by
        obtain ⟨tm, df⟩ := a
        have c2' : ∀ (i j : Nat) (oi oj : Oper) (t : Nat), (l.take m)[i]? = some oi → (l.take m)[j]? = some oj → oi.dst = some t → oj.dst = some t → i = j := by
          intro i j oi oj t hi hj
          rw [List.getElem?_take] at hi hj
          split at hi
          · split at hj
            · exact c2 i j oi oj t hi hj
            · cases hj
          · cases hi
        have ht : (putAll (l.take m) (fun j => slotOf l.toArray j ⟨tm, df⟩) 0 A0).tmps = tm := by
          apply Array.ext_getElem?
          intro t
          by_cases hx : ∃ (j : Nat) (o : Oper), (l.take m)[j]? = some o ∧ o.dst = some t
          · obtain ⟨j, o, hj, ho⟩ := hx
            have hj' : l[j]? = some o := by
              rw [List.getElem?_take] at hj
              split at hj
              · exact hj
              · cases hj
            have hb := ((c1 j o hj').2 t ho).1
            rw [putAll_at _ _ 0 A0 t j o c2' hj ho hb]
            have hts := hM.ts
            dsimp only at hts
            have hb' : t < tm.size := by rw [hts]; exact hb
            simp [slotOf, hj', ho, Act.eval, hb']
          · rw [putAll_other _ _ 0 A0 t (fun o ho he => by
              obtain ⟨j, hj⟩ := List.mem_iff_getElem?.1 ho
              exact hx ⟨j, o, hj, he⟩)]
            refine (hM.un t (fun j o hj ho => ?_)).symm
            have hj' := (hops j o).1 hj
            have hjl : j < l.length := (List.getElem?_eq_some_iff.1 hj').1
            refine hM.late j (Nat.le_of_not_lt fun hlt => hx ⟨j, o, ?_, ho⟩) (by simpa using hjl)
            rw [List.getElem?_take, if_pos hlt]
            exact hj'
        have hd' := putAll_defers (l.take m) (fun j => slotOf l.toArray j ⟨tm, df⟩) 0 A0
        have hdf := hM.df
        dsimp only at hdf
        cases hp : putAll (l.take m) (fun j => slotOf l.toArray j ⟨tm, df⟩) 0 A0 with
        | mk tm' df' =>
          rw [hp] at ht hd'
          dsimp only at ht hd'
          rw [ht, hd', hdf]
      have hd := hdone (fun j => slotOf l.toArray j a) w (fun j hj => by
        have hjl : j < l.length := by omega
        exact hM.has j l[j] (by simp [hjl]) (all j hj)) hM.rel
      rw [e2] at hd
      have hlen : (l.drop m).length = fuel + 1 := by rw [List.length_drop]; omega
      rw [← hlen]
      refine wpAny_of_seq (l.drop m) m listed a w (fun j => by simp) ?_ hd
      rw [hlst, hlen]
      have : l.toArray.size - m = fuel + 1 := by simp; omega
      rw [this] at hseq ⊢
      exact hseq
    · have acyc : ∀ (j : Nat) (o : Oper), l[j]? = some o → ∀ e ∈ o.after, Region.binds .any e = true → e.on < j := by
        intro j o hj e he hb
        have := (c1 j o hj).1 e he hb
        omega
      refine ⟨fun hnil => ?_, fun i hi => ?_⟩
      · -- someone is always ready
        exfalso
        have all : ∀ N j, j ≤ N → j < l.length → listed.getD j true = true := by
          intro N
          induction N with
          | zero =>
            intro j hj hjl
            obtain rfl : j = 0 := by omega
            cases hl : listed.getD 0 true with
            | true => rfl
            | false =>
              have : 0 ∈ Region.ready .any l.toArray listed := by
                rw [mem_ready]
                exact ⟨hl, l[0], by simp [hjl], fun e he hb => by have := acyc 0 l[0] (by simp [hjl]) e he hb; omega⟩
              rw [hnil] at this
              cases this
          | succ N ihN =>
            intro j hj hjl
            by_cases hjN : j ≤ N
            · exact ihN j hjN hjl
            · cases hl : listed.getD j true with
              | true => rfl
              | false =>
                have : j ∈ Region.ready .any l.toArray listed := by
                  rw [mem_ready]
                  refine ⟨hl, l[j], by simp [hjl], fun e he hb => ?_⟩
                  have h1 := acyc j l[j] (by simp [hjl]) e he hb
                  rw [← getD_both hM.sz (by simp; omega)]
                  exact ihN e.on (by omega) (by omega)
                rw [hnil] at this
                cases this
        apply hleft
        unfold leftN
        rw [List.length_eq_zero_iff, List.filter_eq_nil_iff]
        intro j hj
        rw [List.mem_range] at hj
        rw [all j j (Nat.le_refl _) (by omega)]
        simp
      · obtain ⟨hun, o, ho, hall⟩ := mem_ready.1 hi
        have ho' := (hops i o).1 ho
        have hil : i < l.length := (List.getElem?_eq_some_iff.1 ho').1
        have him : i < m := by
          refine Nat.lt_of_not_le fun hmi => hleft ?_
          unfold leftN
          rw [List.length_eq_zero_iff, List.filter_eq_nil_iff]
          intro j hj
          rw [List.mem_range] at hj
          obtain ⟨e, he, hb, rfl⟩ := waits_spec.1 (lastW i o hmi ho' j hj)
          have := hall e he hb
          rw [getD_both hM.sz (by simp; omega), this]
          simp
        have hS := steps_spec hstep i o (by rw [List.getElem?_take, if_pos him]; exact ho')
        rw [Nat.zero_add] at hS
        have hS := hS a w hM.rel (fun t ht => by
          have := hM.un t (fun j oj hj hd => by
            cases hl : listed.getD j true with
            | false => rfl
            | true =>
              exfalso
              have hj' := (hops j oj).1 hj
              rcases fresh_spec ht j oj (by simpa using hj') hd with h1 | h1
              · rw [Nat.zero_add] at h1
                subst h1
                rw [hun] at hl
                cases hl
              · obtain ⟨e, he, hb, heq⟩ := waits_spec.1 h1
                have := hM.down j oj hj hl e he hb
                rw [heq, hun] at this
                cases this)
          simp only [Act.eval, Array.getD_eq_getD_getElem?]
          rw [this]) (fun j hw => by
          obtain ⟨e, he, hb, rfl⟩ := waits_spec.1 hw
          have h1 := hall e he hb
          have hel : e.on < l.length := by
            have := acyc i o ho' e he hb
            omega
          exact hM.has e.on l[e.on] (by simp [hel]) (by rw [getD_both hM.sz (by simpa using hel)]; exact h1))
        -- behind it
        have next : ∀ v w', V i (match o.dst with | some _ => v | none => undef) w' → R w w' → Mid l.toArray m V R A0 w0 (listed.setIfInBounds i true) (a.put o.dst v) w' := by
          intro v w' hv hr
          have key : ∀ j, (listed.setIfInBounds i true).getD j true = if i = j then true else listed.getD j true := by
            intro j
            by_cases hij : i = j
            · subst hij
              have : i < listed.size := by rw [hM.sz]; simpa using hil
              simp [this]
            · rw [getD_set_ne true hij, if_neg hij]
          refine ⟨by simp [hM.sz], (put_defers' a o.dst v).trans hM.df, (put_size a o.dst v).trans hM.ts, fun t ht => ?_, fun j oj hj hl => ?_, hR _ _ _ hM.rel hr, fun j oj hj hl e he hb => ?_, fun j hmj hjl => ?_⟩
          · have hne : o.dst ≠ some t := fun he => by
              have := ht i o ho he
              rw [key, if_pos rfl] at this
              cases this
            rw [put_other _ _ _ _ hne]
            refine hM.un t (fun j oj hj hd => ?_)
            have := ht j oj hj hd
            rw [key] at this
            split at this
            · cases this
            · exact this
          · by_cases hij : i = j
            · subst hij
              have hoo : oj = o := Option.some.inj (hj.symm.trans ho)
              subst hoo
              have : slotOf l.toArray i (a.put oj.dst v) = (match oj.dst with | some _ => v | none => undef) := by
                unfold slotOf
                rw [hj]
                cases hd : oj.dst with
                | none => simp [hd]
                | some t =>
                  have hb := ((c1 i oj ho').2 t hd).1
                  have hb' : t < a.tmps.size := by rw [hM.ts]; exact hb
                  simp [hd, Act.eval, Act.put, hb']
              rw [this]
              exact hv
            · rw [key, if_neg hij] at hl
              have : slotOf l.toArray j (a.put o.dst v) = slotOf l.toArray j a := by
                unfold slotOf
                rw [hj]
                cases hd : oj.dst with
                | none => simp [hd]
                | some t =>
                  have hne : o.dst ≠ some t := fun he => hij (c2 i j o oj t ho' ((hops j oj).1 hj) he hd)
                  simp only [Option.bind_some, hd, Act.eval, Array.getD_eq_getD_getElem?]
                  rw [put_other _ _ _ _ hne]
              rw [this]
              exact hV _ _ _ _ (hM.has j oj hj hl) hr
          · rw [key]
            split
            · rfl
            · by_cases hij : i = j
              · subst hij
                have hoo : oj = o := Option.some.inj (hj.symm.trans ho)
                subst hoo
                have h1 := hall e he hb
                have hel : e.on < l.length := by
                  have := acyc i oj ho' e he hb
                  omega
                rw [getD_both hM.sz (by simpa using hel)]
                exact h1
              · rw [key, if_neg hij] at hl
                exact hM.down j oj hj hl e he hb
          · rw [key, if_neg (by omega)]
            exact hM.late j hmj hjl
        have hcnt : leftN (listed.setIfInBounds i true) m + (l.length - m) = fuel := by
          have := left_less hun him
          omega
        unfold wpOp
        simp only [ho]
        cases hg : o.guard with
        | none =>
          rw [hg] at hS
          have hwt : Region.wanted o (yielded l.toArray a.tmps) = true := by simp [Region.wanted, hg]
          rw [if_pos hwt]
          refine .inl (Oper.wp_mono ?_ hS)
          rintro a' w' ⟨v, rfl, hv, hr⟩
          exact ih _ _ _ (next v w' hv hr) hcnt
        | some g =>
          rw [hg] at hS
          split
          · rename_i hwt
            refine .inl (Oper.wp_mono ?_ (hS.1 hwt))
            rintro a' w' ⟨v, rfl, hv, hr⟩
            exact ih _ _ _ (next v w' hv hr) hcnt
          · rename_i hwt
            refine ih _ _ _ (next undef w ?_ ?_) hcnt
            · have := hS.2 (by simpa using hwt)
              cases o.dst <;> exact this
            · exact hR0 w
/-- THE REGION: m operations in whatever order, one fact each; those behind them in one order. -/
theorem wp_region_facts {id : Nat} {l : List Oper} {A0 : Act} {w0 : World} (m : Nat) (V : Nat → Value → World → Prop) (R : World → World → Prop) (hmix : P.follows .mixedOrders = true) (hm : m ≤ l.length)
    (hchk : chkOps A0.tmps.size l 0 [] = true) (hlast : lastB l.toArray m = true)
    (hR0 : ∀ a, R a a) (hR : ∀ a b c, R a b → R b c → R a c) (hV : ∀ i v w w', V i v w → R w w' → V i v w')
    (hstep : StepsOK P l.toArray Q V R A0 w0.drew 0 (l.take m))
    (hdone : ∀ (vs : Nat → Value) w', (∀ j, j < m → V j (vs j) w') → R w0.drew w' → wpList P l.toArray Q (l.drop m) (putAll (l.take m) vs 0 A0) w') :
    (Code.region id l.toArray true).wp P Q A0 w0 := by
  refine wp_region_any hmix (wpAny_facts (w0 := w0.drew) hm hR0 hR hV hchk hlast hstep hdone l.toArray.size _ A0 _ ?_ ?_)
  · refine ⟨by simp, rfl, rfl, fun _ _ => rfl, fun j o hj hl => ?_, hR0 _, fun j o hj hl => ?_, fun j hmj hjl => ?_⟩
    · have hjl : j < l.length := (List.getElem?_eq_some_iff.1 (by simpa using hj)).1
      simp [hjl] at hl
    · have hjl : j < l.length := (List.getElem?_eq_some_iff.1 (by simpa using hj)).1
      simp [hjl] at hl
    · have : j < l.length := by simpa using hjl
      simp [this]
  · have : leftN (Array.replicate l.toArray.size false) m = m := by
      unfold leftN
      rw [List.filter_eq_self.2, List.length_range]
      intro j hj
      rw [List.mem_range] at hj
      have : j < l.length := by omega
      simp [this]
    rw [this]
    simp
    omega
end
end Go.Proofs.Ytdoefndppoglfaa
