import Derived.Test.YtdoefndppoglfaaFR
import Derived.OrdersIn
import Derived.TacticsIn
namespace Go.Proofs.Ytdoefndppoglfaa
open Go Go.RowKit
set_option linter.unusedVariables false
/-! A region that draws its order, by facts, inside a fence that lets everything by (a round of a range over a function). -/
section
variable {F : Fence} {n : Nat} {P : Program} {ops : Array Oper} {Q : Exit → Act → World → Prop}
theorem wpAnyIn_of_seq {md : Region.Mode} (hF : ∀ f, F.fn f) : ∀ (l : List Oper) (k : Nat) (listed : Array Bool) (a : Act) (w : World), (∀ j, l[j]? = ops[k + j]?) →
    Region.seqB md ops l.length k listed = true → wpListIn F n P ops Q l a w → wpAnyIn F n P md ops Q l.length listed a w
  | [], _, _, _, _, _, hB, h => ⟨by simpa [Region.seqB] using hB, h⟩
  | o :: l, k, listed, a, w, hl, hB, h => by
    have h0 : ops[k]? = some o := by simpa using (hl 0).symm
    simp only [List.length_cons, Region.seqB, Bool.and_eq_true, decide_eq_true_eq] at hB
    refine ⟨fun h1 => (by rw [hB.1] at h1; cases h1), fun i hi => ?_⟩
    rw [hB.1] at hi
    have hik : i = k := by simpa using hi
    subst hik
    have hw : wpOpIn F n P ops Q i (wpListIn F n P ops Q l) a w := by unfold wpOpIn; simp only [h0]; exact h
    exact wpOpIn_mono (fun a' w' h' => wpAnyIn_of_seq hF l (i + 1) _ a' w' (fun j => by have := hl (j + 1); simpa [Nat.add_assoc, Nat.add_comm 1 j] using this) hB.2 h') hw
/-- one operation, from the facts of those it waits for -/
def StepOKI (F : Fence) (n : Nat) (P : Program) (ops : Array Oper) (Q : Exit → Act → World → Prop) (V : Nat → Value → World → Prop) (R : Nat → World → World → Prop) (B : Nat → World → World → Prop) (A0 : Act) (w0 : World) (k : Nat) (o : Oper) : Prop :=
  ∀ (a : Act) (w : World), B k w0 w → (∀ t, freshB k t ops.toList 0 = true → a.eval (.tmp t) = A0.eval (.tmp t)) → (∀ j, waits o j = true → V j (slotOf ops j a) w) →
    match o.guard with
    | none => o.uponIn F n P a (fun a' w' => ∃ v, a' = a.put o.dst v ∧ V k (match o.dst with | some _ => v | none => undef) w' ∧ R k w w') Q ((o.semAt F.round a.eval).run P w)
    | some _ => (Region.wanted o (yielded ops a.tmps) = true → o.uponIn F n P a (fun a' w' => ∃ v, a' = a.put o.dst v ∧ V k (match o.dst with | some _ => v | none => undef) w' ∧ R k w w') Q ((o.semAt F.round a.eval).run P w)) ∧
      (Region.wanted o (yielded ops a.tmps) = false → V k undef w)
def StepsOKI (F : Fence) (n : Nat) (P : Program) (ops : Array Oper) (Q : Exit → Act → World → Prop) (V : Nat → Value → World → Prop) (R : Nat → World → World → Prop) (B : Nat → World → World → Prop) (A0 : Act) (w0 : World) : Nat → List Oper → Prop
  | _, [] => True
  | k, o :: l => StepOKI F n P ops Q V R B A0 w0 k o ∧ StepsOKI F n P ops Q V R B A0 w0 (k + 1) l
theorem stepsI_spec {V : Nat → Value → World → Prop} {R : Nat → World → World → Prop} {B : Nat → World → World → Prop} {A0 : Act} {w0 : World} : ∀ {l : List Oper} {k : Nat}, StepsOKI F n P ops Q V R B A0 w0 k l → ∀ j o, l[j]? = some o → StepOKI F n P ops Q V R B A0 w0 (k + j) o
  | [], _, _, j, o, h => by simp at h
  | o :: l, k, h, j, oj, hj => by
    cases j with
    | zero =>
      simp only [List.getElem?_cons_zero, Option.some.injEq] at hj
      subst hj
      exact h.1
    | succ j =>
      have := stepsI_spec h.2 j oj (by simpa using hj)
      rwa [show k + (j + 1) = k + 1 + j by omega]
/-- what holds between two operations -/
structure MidI (ops : Array Oper) (m : Nat) (V : Nat → Value → World → Prop) (B : Nat → World → World → Prop) (A0 : Act) (w0 : World) (listed : Array Bool) (a : Act) (w : World) : Prop where
  sz : listed.size = ops.size
  df : a.defers = A0.defers
  ts : a.tmps.size = A0.tmps.size
  un : ∀ t, (∀ j o, ops[j]? = some o → o.dst = some t → listed.getD j true = false) → a.tmps[t]? = A0.tmps[t]?
  has : ∀ j o, ops[j]? = some o → listed.getD j true = true → V j (slotOf ops j a) w
  rel : ∀ i, listed.getD i false = false → B i w0 w
  down : ∀ j o, ops[j]? = some o → listed.getD j true = true → ∀ e ∈ o.after, Region.binds .any e = true → listed.getD e.on true = true
  late : ∀ j, m ≤ j → j < ops.size → listed.getD j true = false
theorem wpAnyIn_facts {l : List Oper} {m : Nat} {V : Nat → Value → World → Prop} {R : Nat → World → World → Prop} {B : Nat → World → World → Prop} {A0 : Act} {w0 : World} (hm : m ≤ l.length)
    (hF : ∀ f, F.fn f) (hR0 : ∀ k a, R k a a) (hB0 : ∀ i a, B i a a) (hR : ∀ i k a b c, k ≠ i → B i a b → R k b c → B i a c) (hV : ∀ k i v w w', k ≠ i → V i v w → R k w w' → V i v w') (hchk : chkOps A0.tmps.size l 0 [] = true) (hlast : lastB l.toArray m = true)
    (hstep : StepsOKI F n P l.toArray Q V R B A0 w0 0 (l.take m))
    (hdone : ∀ (vs : Nat → Value) w', (∀ j, j < m → V j (vs j) w') → B m w0 w' → wpListIn F n P l.toArray Q (l.drop m) (putAll (l.take m) vs 0 A0) w') :
    ∀ (fuel : Nat) (listed : Array Bool) (a : Act) (w : World), MidI l.toArray m V B A0 w0 listed a w → leftN listed m + (l.length - m) = fuel → wpAnyIn F n P .any l.toArray Q fuel listed a w := by
  obtain ⟨c1, c2⟩ := chk_spec hchk
  simp only [lastB, Bool.and_eq_true] at hlast
  obtain ⟨hseq, hwait⟩ := hlast
  have hops : ∀ (j : Nat) (o : Oper), l.toArray[j]? = some o ↔ l[j]? = some o := fun j o => by rw [List.getElem?_toArray]
  have lastW : ∀ (i : Nat) (o : Oper), m ≤ i → l[i]? = some o → ∀ j, j < m → waits o j = true := by
    intro i o hi ho j hj
    have hil : i < l.length := (List.getElem?_eq_some_iff.1 ho).1
    have := List.all_eq_true.1 hwait i (by simpa using hil)
    simp only [Bool.or_eq_true, decide_eq_true_eq] at this
    rcases this with h | h
    · omega
    · have := List.all_eq_true.1 h j (by simpa using hj)
      rw [(hops i o).2 ho] at this
      exact this
  intro fuel
  induction fuel with
  | zero =>
    intro listed a w hM hf
    -- nothing is left
    have hml : m = l.length := by omega
    have all : ∀ j, j < m → listed.getD j true = true := by
      intro j hj
      cases hl : listed.getD j true with
      | true => rfl
      | false =>
        have h1 := left_less hl hj
        omega
    have hnil : Region.ready .any l.toArray listed = [] := by
      rw [List.eq_nil_iff_forall_not_mem]
      intro j hj
      rw [mem_ready] at hj
      obtain ⟨h0, o, ho, _⟩ := hj
      have hjl : j < l.length := (List.getElem?_eq_some_iff.1 ((hops j o).1 ho)).1
      rw [all j (by omega)] at h0
      cases h0
    refine ⟨hnil, ?_⟩
    have hd := hdone (fun j => slotOf l.toArray j a) w (fun j hj => by
      have hjl : j < l.length := by omega
      exact hM.has j l[j] (by simp [hjl]) (all j hj)) (hM.rel m (by
      rcases Nat.lt_or_ge m l.length with h | h
      · rw [← getD_both hM.sz (by simpa using h)]
        exact hM.late m (Nat.le_refl _) (by simpa using h)
      · have hs : listed.size = l.length := by have := hM.sz; simpa using this
        simp [Array.getElem?_eq_none (show listed.size ≤ m by omega)]))
    have e1 : l.drop m = [] := by rw [hml]; simp
    rw [e1] at hd
    have e2 : putAll (l.take m) (fun j => slotOf l.toArray j a) 0 A0 = a := by
      rw [hml, List.take_length]
      obtain ⟨tm, df⟩ := a
      have ht : (putAll l (fun j => slotOf l.toArray j ⟨tm, df⟩) 0 A0).tmps = tm := by
        apply Array.ext_getElem?
        intro t
        by_cases hx : ∃ (j : Nat) (o : Oper), l[j]? = some o ∧ o.dst = some t
        · obtain ⟨j, o, hj, ho⟩ := hx
          have hb := ((c1 j o hj).2 t ho).1
          rw [putAll_at l _ 0 A0 t j o c2 hj ho hb]
          have hts := hM.ts
          dsimp only at hts
          have hb' : t < tm.size := by rw [hts]; exact hb
          simp [slotOf, (hops j o).2 hj, ho, Act.eval, hb']
        · rw [putAll_other l _ 0 A0 t (fun o ho he => by
            obtain ⟨j, hj⟩ := List.mem_iff_getElem?.1 ho
            exact hx ⟨j, o, hj, he⟩)]
          exact (hM.un t (fun j o hj ho => absurd ⟨j, o, (hops j o).1 hj, ho⟩ hx)).symm
      have hd' := putAll_defers l (fun j => slotOf l.toArray j ⟨tm, df⟩) 0 A0
      have hdf := hM.df
      dsimp only at hdf
      cases hp : putAll l (fun j => slotOf l.toArray j ⟨tm, df⟩) 0 A0 with
      | mk tm' df' =>
        rw [hp] at ht hd'
        dsimp only at ht hd'
        rw [ht, hd', hdf]
    rw [e2] at hd
    exact hd
  | succ fuel ih =>
    intro listed a w hM hf
    by_cases hleft : leftN listed m = 0
    · -- the tail
      have all : ∀ j, j < m → listed.getD j true = true := by
        intro j hj
        cases hl : listed.getD j true with
        | true => rfl
        | false =>
          have h1 := left_less hl hj
          omega
      have hlst : listed = (List.replicate m true ++ List.replicate (l.toArray.size - m) false).toArray := by
        apply Array.ext
        · rw [hM.sz]
          simp
          omega
        · intro i h1 h2
          have hil : i < l.length := by have := hM.sz; simp at this; omega
          have hsz : i < listed.size := h1
          by_cases him : i < m
          · have := all i him
            simp only [Array.getD, hsz, dif_pos] at this
            simp [him] at this ⊢
            exact this
          · have := hM.late i (by omega) (by simpa using hil)
            simp only [Array.getD, hsz, dif_pos] at this
            simp [List.getElem_append, him] at this ⊢
            exact this
      have e2 : putAll (l.take m) (fun j => slotOf l.toArray j a) 0 A0 = a := by
        obtain ⟨tm, df⟩ := a
        have c2' : ∀ (i j : Nat) (oi oj : Oper) (t : Nat), (l.take m)[i]? = some oi → (l.take m)[j]? = some oj → oi.dst = some t → oj.dst = some t → i = j := by
          intro i j oi oj t hi hj
          rw [List.getElem?_take] at hi hj
          split at hi
          · split at hj
            · exact c2 i j oi oj t hi hj
            · cases hj
          · cases hi
        have ht : (putAll (l.take m) (fun j => slotOf l.toArray j ⟨tm, df⟩) 0 A0).tmps = tm := by
          apply Array.ext_getElem?
          intro t
          by_cases hx : ∃ (j : Nat) (o : Oper), (l.take m)[j]? = some o ∧ o.dst = some t
          · obtain ⟨j, o, hj, ho⟩ := hx
            have hj' : l[j]? = some o := by
              rw [List.getElem?_take] at hj
              split at hj
              · exact hj
              · cases hj
            have hb := ((c1 j o hj').2 t ho).1
            rw [putAll_at _ _ 0 A0 t j o c2' hj ho hb]
            have hts := hM.ts
            dsimp only at hts
            have hb' : t < tm.size := by rw [hts]; exact hb
            simp [slotOf, hj', ho, Act.eval, hb']
          · rw [putAll_other _ _ 0 A0 t (fun o ho he => by
              obtain ⟨j, hj⟩ := List.mem_iff_getElem?.1 ho
              exact hx ⟨j, o, hj, he⟩)]
            refine (hM.un t (fun j o hj ho => ?_)).symm
            have hj' := (hops j o).1 hj
            have hjl : j < l.length := (List.getElem?_eq_some_iff.1 hj').1
            refine hM.late j (Nat.le_of_not_lt fun hlt => hx ⟨j, o, ?_, ho⟩) (by simpa using hjl)
            rw [List.getElem?_take, if_pos hlt]
            exact hj'
        have hd' := putAll_defers (l.take m) (fun j => slotOf l.toArray j ⟨tm, df⟩) 0 A0
        have hdf := hM.df
        dsimp only at hdf
        cases hp : putAll (l.take m) (fun j => slotOf l.toArray j ⟨tm, df⟩) 0 A0 with
        | mk tm' df' =>
          rw [hp] at ht hd'
          dsimp only at ht hd'
          rw [ht, hd', hdf]
      have hd := hdone (fun j => slotOf l.toArray j a) w (fun j hj => by
        have hjl : j < l.length := by omega
        exact hM.has j l[j] (by simp [hjl]) (all j hj)) (hM.rel m (by
      rcases Nat.lt_or_ge m l.length with h | h
      · rw [← getD_both hM.sz (by simpa using h)]
        exact hM.late m (Nat.le_refl _) (by simpa using h)
      · have hs : listed.size = l.length := by have := hM.sz; simpa using this
        simp [Array.getElem?_eq_none (show listed.size ≤ m by omega)]))
      rw [e2] at hd
      have hlen : (l.drop m).length = fuel + 1 := by rw [List.length_drop]; omega
      rw [← hlen]
      refine wpAnyIn_of_seq hF (l.drop m) m listed a w (fun j => by simp) ?_ hd
      rw [hlst, hlen]
      have : l.toArray.size - m = fuel + 1 := by simp; omega
      rw [this] at hseq ⊢
      exact hseq
    · have acyc : ∀ (j : Nat) (o : Oper), l[j]? = some o → ∀ e ∈ o.after, Region.binds .any e = true → e.on < j := by
        intro j o hj e he hb
        have := (c1 j o hj).1 e he hb
        omega
      refine ⟨fun hnil => ?_, fun i hi => ?_⟩
      · -- someone is always ready
        exfalso
        have all : ∀ N j, j ≤ N → j < l.length → listed.getD j true = true := by
          intro N
          induction N with
          | zero =>
            intro j hj hjl
            obtain rfl : j = 0 := by omega
            cases hl : listed.getD 0 true with
            | true => rfl
            | false =>
              have : 0 ∈ Region.ready .any l.toArray listed := by
                rw [mem_ready]
                exact ⟨hl, l[0], by simp [hjl], fun e he hb => by have := acyc 0 l[0] (by simp [hjl]) e he hb; omega⟩
              rw [hnil] at this
              cases this
          | succ N ihN =>
            intro j hj hjl
            by_cases hjN : j ≤ N
            · exact ihN j hjN hjl
            · cases hl : listed.getD j true with
              | true => rfl
              | false =>
                have : j ∈ Region.ready .any l.toArray listed := by
                  rw [mem_ready]
                  refine ⟨hl, l[j], by simp [hjl], fun e he hb => ?_⟩
                  have h1 := acyc j l[j] (by simp [hjl]) e he hb
                  rw [← getD_both hM.sz (by simp; omega)]
                  exact ihN e.on (by omega) (by omega)
                rw [hnil] at this
                cases this
        apply hleft
        unfold leftN
        rw [List.length_eq_zero_iff, List.filter_eq_nil_iff]
        intro j hj
        rw [List.mem_range] at hj
        rw [all j j (Nat.le_refl _) (by omega)]
        simp
      · obtain ⟨hun, o, ho, hall⟩ := mem_ready.1 hi
        have ho' := (hops i o).1 ho
        have hil : i < l.length := (List.getElem?_eq_some_iff.1 ho').1
        have him : i < m := by
          refine Nat.lt_of_not_le fun hmi => hleft ?_
          unfold leftN
          rw [List.length_eq_zero_iff, List.filter_eq_nil_iff]
          intro j hj
          rw [List.mem_range] at hj
          obtain ⟨e, he, hb, rfl⟩ := waits_spec.1 (lastW i o hmi ho' j hj)
          have := hall e he hb
          rw [getD_both hM.sz (by simp; omega), this]
          simp
        have hS := stepsI_spec hstep i o (by rw [List.getElem?_take, if_pos him]; exact ho')
        rw [Nat.zero_add] at hS
        have hS := hS a w (hM.rel i (by rw [← getD_both hM.sz (by simpa using hil)]; exact hun)) (fun t ht => by
          have := hM.un t (fun j oj hj hd => by
            cases hl : listed.getD j true with
            | false => rfl
            | true =>
              exfalso
              have hj' := (hops j oj).1 hj
              rcases fresh_spec ht j oj (by simpa using hj') hd with h1 | h1
              · rw [Nat.zero_add] at h1
                subst h1
                rw [hun] at hl
                cases hl
              · obtain ⟨e, he, hb, heq⟩ := waits_spec.1 h1
                have := hM.down j oj hj hl e he hb
                rw [heq, hun] at this
                cases this)
          simp only [Act.eval, Array.getD_eq_getD_getElem?]
          rw [this]) (fun j hw => by
          obtain ⟨e, he, hb, rfl⟩ := waits_spec.1 hw
          have h1 := hall e he hb
          have hel : e.on < l.length := by
            have := acyc i o ho' e he hb
            omega
          exact hM.has e.on l[e.on] (by simp [hel]) (by rw [getD_both hM.sz (by simpa using hel)]; exact h1))
        -- behind it
        have next : ∀ v w', V i (match o.dst with | some _ => v | none => undef) w' → R i w w' → MidI l.toArray m V B A0 w0 (listed.setIfInBounds i true) (a.put o.dst v) w' := by
          intro v w' hv hr
          have key : ∀ j, (listed.setIfInBounds i true).getD j true = if i = j then true else listed.getD j true := by
            intro j
            by_cases hij : i = j
            · subst hij
              have : i < listed.size := by rw [hM.sz]; simpa using hil
              simp [this]
            · rw [getD_set_ne true hij, if_neg hij]
          refine ⟨by simp [hM.sz], (put_defers' a o.dst v).trans hM.df, (put_size a o.dst v).trans hM.ts, fun t ht => ?_, fun j oj hj hl => ?_, fun j hj => ?_, fun j oj hj hl e he hb => ?_, fun j hmj hjl => ?_⟩
          · have hne : o.dst ≠ some t := fun he => by
              have := ht i o ho he
              rw [key, if_pos rfl] at this
              cases this
            rw [put_other _ _ _ _ hne]
            refine hM.un t (fun j oj hj hd => ?_)
            have := ht j oj hj hd
            rw [key] at this
            split at this
            · cases this
            · exact this
          · by_cases hij : i = j
            · subst hij
              have hoo : oj = o := Option.some.inj (hj.symm.trans ho)
              subst hoo
              have : slotOf l.toArray i (a.put oj.dst v) = (match oj.dst with | some _ => v | none => undef) := by
                unfold slotOf
                rw [hj]
                cases hd : oj.dst with
                | none => simp [hd]
                | some t =>
                  have hb := ((c1 i oj ho').2 t hd).1
                  have hb' : t < a.tmps.size := by rw [hM.ts]; exact hb
                  simp [hd, Act.eval, Act.put, hb']
              rw [this]
              exact hv
            · rw [key, if_neg hij] at hl
              have : slotOf l.toArray j (a.put o.dst v) = slotOf l.toArray j a := by
                unfold slotOf
                rw [hj]
                cases hd : oj.dst with
                | none => simp [hd]
                | some t =>
                  have hne : o.dst ≠ some t := fun he => hij (c2 i j o oj t ho' ((hops j oj).1 hj) he hd)
                  simp only [Option.bind_some, hd, Act.eval, Array.getD_eq_getD_getElem?]
                  rw [put_other _ _ _ _ hne]
              rw [this]
              exact hV _ _ _ _ _ hij (hM.has j oj hj hl) hr
          · have hij : i ≠ j := fun e => by
              subst e
              have : i < listed.size := by rw [hM.sz]; simpa using hil
              simp [this] at hj
            rw [getD_set_ne false hij] at hj
            exact hR _ _ _ _ _ hij (hM.rel j hj) hr
          · rw [key]
            split
            · rfl
            · by_cases hij : i = j
              · subst hij
                have hoo : oj = o := Option.some.inj (hj.symm.trans ho)
                subst hoo
                have h1 := hall e he hb
                have hel : e.on < l.length := by
                  have := acyc i oj ho' e he hb
                  omega
                rw [getD_both hM.sz (by simpa using hel)]
                exact h1
              · rw [key, if_neg hij] at hl
                exact hM.down j oj hj hl e he hb
          · rw [key, if_neg (by omega)]
            exact hM.late j hmj hjl
        have hcnt : leftN (listed.setIfInBounds i true) m + (l.length - m) = fuel := by
          have := left_less hun him
          omega
        unfold wpOpIn
        simp only [ho]
        cases hg : o.guard with
        | none =>
          rw [hg] at hS
          have hwt : Region.wanted o (yielded l.toArray a.tmps) = true := by simp [Region.wanted, hg]
          rw [if_pos hwt]
          refine Oper.wpIn_mono (K := fun a' w' => ∃ v, a' = a.put o.dst v ∧ V i (match o.dst with | some _ => v | none => undef) w' ∧ R i w w') ?_ ⟨fun f _ => hF f, hS⟩
          rintro a' w' ⟨v, rfl, hv, hr⟩
          exact ih _ _ _ (next v w' hv hr) hcnt
        | some g =>
          rw [hg] at hS
          split
          · rename_i hwt
            refine Oper.wpIn_mono (K := fun a' w' => ∃ v, a' = a.put o.dst v ∧ V i (match o.dst with | some _ => v | none => undef) w' ∧ R i w w') ?_ ⟨fun f _ => hF f, hS.1 hwt⟩
            rintro a' w' ⟨v, rfl, hv, hr⟩
            exact ih _ _ _ (next v w' hv hr) hcnt
          · rename_i hwt
            refine ⟨fun f _ => hF f, ?_⟩
            refine ih _ _ _ (next undef w ?_ ?_) hcnt
            · have := hS.2 (by simpa using hwt)
              cases o.dst <;> exact this
            · exact hR0 _ w
/-- THE REGION: m operations in whatever order, one fact each; those behind them in one order. -/
theorem wpIn_region_facts {id : Nat} {l : List Oper} {A0 : Act} {w0 : World} (m : Nat) (V : Nat → Value → World → Prop) (R : Nat → World → World → Prop) (B : Nat → World → World → Prop) (hmix : P.follows .mixedOrders = true) (hm : m ≤ l.length)
    (hchk : chkOps A0.tmps.size l 0 [] = true) (hlast : lastB l.toArray m = true)
    (hF : ∀ f, F.fn f) (hR0 : ∀ k a, R k a a) (hB0 : ∀ i a, B i a a) (hR : ∀ i k a b c, k ≠ i → B i a b → R k b c → B i a c) (hV : ∀ k i v w w', k ≠ i → V i v w → R k w w' → V i v w')
    (hstep : StepsOKI F n P l.toArray Q V R B A0 w0.drew 0 (l.take m))
    (hdone : ∀ (vs : Nat → Value) w', (∀ j, j < m → V j (vs j) w') → B m w0.drew w' → wpListIn F n P l.toArray Q (l.drop m) (putAll (l.take m) vs 0 A0) w') :
    (Code.region id l.toArray true).wpIn F n P Q A0 w0 := by
  refine wpIn_region_any hmix (wpAnyIn_facts (w0 := w0.drew) hm hF hR0 hB0 hR hV hchk hlast hstep hdone l.toArray.size _ A0 _ ?_ ?_)
  · refine ⟨by simp, rfl, rfl, fun _ _ => rfl, fun j o hj hl => ?_, fun i _ => hB0 _ _, fun j o hj hl => ?_, fun j hmj hjl => ?_⟩
    · have hjl : j < l.length := (List.getElem?_eq_some_iff.1 (by simpa using hj)).1
      simp [hjl] at hl
    · have hjl : j < l.length := (List.getElem?_eq_some_iff.1 (by simpa using hj)).1
      simp [hjl] at hl
    · have : j < l.length := by simpa using hjl
      simp [this]
  · have : leftN (Array.replicate l.toArray.size false) m = m := by
      unfold leftN
      rw [List.filter_eq_self.2, List.length_range]
      intro j hj
      rw [List.mem_range] at hj
      have : j < l.length := by omega
      simp [this]
    rw [this]
    simp
    omega
end
end Go.Proofs.Ytdoefndppoglfaa
