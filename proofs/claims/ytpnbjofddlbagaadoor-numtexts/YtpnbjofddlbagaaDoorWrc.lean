import Derived.Test.YtpnbjofddlbagaaDoorWrb
namespace Go.Proofs.YtpnbjofddlbagaaDoor
open Go Go.RowKit
/-- the text of m times 2 to the power of x -/
def shape (s : Bool) (m : Nat) (x : Int) : List UInt8 := (if s = true then [45] else []) ++ (Lib.decDigits m ++ (112 :: Lib.itoa x))
def withSign (s : Bool) (r : Nat) : Nat := if s = true then 9223372036854775808 + r else r
theorem no_p (m : Nat) : ∀ c ∈ Lib.decDigits m, c ≠ 112 := fun c hc e => by
  have := dec_digits m c hc
  rw [e] at this
  revert this
  decide
theorem tail_inj {m m' : Nat} {x x' : Int} (hm : m < 9007199254740992) (hm' : m' < 9007199254740992) (h1 : -32768 ≤ x) (h2 : x ≤ 32767) (h1' : -32768 ≤ x') (h2' : x' ≤ 32767)
    (h : Lib.decDigits m ++ (112 :: Lib.itoa x) = Lib.decDigits m' ++ (112 :: Lib.itoa x')) : m = m' ∧ x = x' := by
  have a := cutP_at _ (Lib.itoa x) (no_p m)
  have b := cutP_at _ (Lib.itoa x') (no_p m')
  rw [h, b] at a
  injection a with a1 a2
  have c := pu53_dec hm
  rw [← a1, pu53_dec hm'] at c
  injection c with c
  have d := pi16_itoa h1 h2
  rw [← a2, pi16_itoa h1' h2'] at d
  injection d with d
  exact ⟨c.symm, d.symm⟩
theorem shape_inj {s s' : Bool} {m m' : Nat} {x x' : Int} (hm : m < 9007199254740992) (hm' : m' < 9007199254740992) (h1 : -32768 ≤ x) (h2 : x ≤ 32767) (h1' : -32768 ≤ x') (h2' : x' ≤ 32767)
    (h : shape s m x = shape s' m' x') : s = s' ∧ m = m' ∧ x = x' := by
  obtain ⟨c, r, hcr, hc1, hc2⟩ := digit_first _ (rfl : Lib.decDigits m = _)
  obtain ⟨c', r', hcr', hc1', hc2'⟩ := digit_first _ (rfl : Lib.decDigits m' = _)
  unfold shape at h
  cases s <;> cases s'
  · simp only [Bool.false_eq_true, if_false, List.nil_append] at h
    exact ⟨rfl, tail_inj hm hm' h1 h2 h1' h2' h⟩
  · exfalso
    simp only [Bool.false_eq_true, if_false, if_true, List.nil_append] at h
    rw [hcr] at h
    injection h with h3 h4
    rw [h3] at hc1; revert hc1; decide
  · exfalso
    simp only [Bool.false_eq_true, if_false, if_true, List.nil_append] at h
    rw [hcr'] at h
    injection h with h3 h4
    rw [← h3] at hc1'; revert hc1'; decide
  · simp only [if_true] at h
    injection h with h3 h4
    exact ⟨rfl, tail_inj hm hm' h1 h2 h1' h2' h4⟩
theorem text_shape (s : Bool) {r : Nat} (hr : r < 9218868437227405312) : Flt.text (withSign s r) = shape s (Flt.oddM r) (Flt.oddE r) ∧ Flt.neg (withSign s r) = s ∧ Flt.canon (withSign s r) = withSign s r ∧ withSign s r < 18446744073709551616 ∧ Flt.rung (withSign s r) = r := by
  have hg : Flt.rung (withSign s r) = r := by unfold withSign Flt.rung; cases s <;> simp <;> omega
  have hn : Flt.isNan (withSign s r) = false := by unfold Flt.isNan; rw [hg]; simp; omega
  have hs : Flt.neg (withSign s r) = s := by unfold withSign Flt.neg; cases s <;> simp; omega
  refine ⟨?_, hs, Flt.canon_num hn, by unfold withSign; cases s <;> simp <;> omega, hg⟩
  unfold Flt.text
  rw [hn, if_neg (by decide), if_neg (fun h => by rw [h] at hg; revert hg; intro hg; have : r = 9218868437227405312 := by rw [← hg]; decide
                                                  omega), if_neg (fun h => by rw [h] at hg; have : r = 9218868437227405312 := by rw [← hg]; decide
                                                                              omega), hs, hg]
  rfl
def Room (m : Nat) (x : Int) : Prop := -1074 ≤ x ∧ x + (m.log2 : Int) ≤ 1023
instance (m : Nat) (x : Int) : Decidable (Room m x) := by unfold Room; infer_instance
theorem odd_of {m E : Nat} (ho : m % 2 = 1) (hm : m < 9007199254740992) (hE : E + m.log2 ≤ 2097) : Flt.oddM (Flt.rungOf m E) = m ∧ Flt.oddE (Flt.rungOf m E) = (E : Int) - 1074 := by
  have hR := Flt.rungOf_lt (by omega) hm hE
  have hP := Flt.rungOf_pos E (by omega) hm
  have hV := Flt.V_rungOf E (by omega) hm
  obtain ⟨E', e1, e2, e3, _⟩ := Flt.odd_facts hP hR
  rw [hV] at e2
  obtain ⟨h1, h2⟩ := Flt.pow_uniq e3 ho e2
  exact ⟨h1, by rw [e1, h2]⟩
theorem room_some (s : Bool) {m : Nat} {x : Int} (ho : m % 2 = 1) (hm : m < 9007199254740992) (hx : Room m x) :
    Flt.text (withSign s (Flt.rungOf m (x + 1074).toNat)) = shape s m x ∧ parseSem (shape s m x) = some (withSign s (Flt.rungOf m (x + 1074).toNat)) := by
  obtain ⟨h1, h2⟩ := hx
  have hE : (x + 1074).toNat + m.log2 ≤ 2097 := by omega
  have hR := Flt.rungOf_lt (by omega) hm hE
  obtain ⟨o1, o2⟩ := odd_of ho hm hE
  obtain ⟨t1, t2, t3, t4, _⟩ := text_shape s hR
  rw [o1, o2, show (((x + 1074).toNat : Nat) : Int) - 1074 = x from by omega] at t1
  refine ⟨t1, ?_⟩
  rw [← t1, parseSem_text t4, t3]
theorem parse_inv {l : List UInt8} {g : Nat} (h : parseSem l = some g) : l = [110, 97, 110] ∨ l = [105, 110, 102] ∨ l = [45, 105, 110, 102] ∨ l = [48, 112, 48] ∨ l = [45, 48, 112, 48] ∨
    ∃ (s : Bool) (m : Nat) (x : Int), m % 2 = 1 ∧ m < 9007199254740992 ∧ Room m x ∧ l = shape s m x := by
  obtain ⟨hg, ht, _⟩ := parseSem_some h
  have hz : Lib.decDigits (Flt.oddM 0) ++ 112 :: Lib.itoa (Flt.oddE 0) = [48, 112, 48] := by
    rw [show Flt.oddM 0 = 0 from rfl, show Flt.oddE 0 = ((0 : Nat) : Int) from rfl, Lib.itoa_nonneg, Lib.decDigits_one (by omega)]
    rfl
  subst ht
  unfold Flt.text
  split
  · exact Or.inl rfl
  · rename_i hn
    split
    · exact Or.inr (Or.inl rfl)
    · split
      · exact Or.inr (Or.inr (Or.inl rfl))
      · rename_i h1 h2
        have hr : Flt.rung g < 9218868437227405312 := by
          unfold Flt.isNan at hn
          simp only [decide_eq_true_eq, Nat.not_lt] at hn
          unfold Flt.rung at hn ⊢
          omega
        by_cases h0 : Flt.rung g = 0
        · rw [h0, hz]
          cases Flt.neg g
          · exact Or.inr (Or.inr (Or.inr (Or.inl rfl)))
          · exact Or.inr (Or.inr (Or.inr (Or.inr (Or.inl rfl))))
        · obtain ⟨E, e1, e2, e3, e4⟩ := Flt.odd_facts (r := Flt.rung g) (by omega) hr
          exact Or.inr (Or.inr (Or.inr (Or.inr (Or.inr ⟨Flt.neg g, _, _, e3, Flt.oddM_lt _, ⟨by omega, by omega⟩, rfl⟩))))
theorem shape_ne (s : Bool) (m : Nat) (x : Int) (hm : 0 < m) (hm' : m < 9007199254740992) (h1 : -32768 ≤ x) (h2 : x ≤ 32767) : shape s m x ≠ [110, 97, 110] ∧ shape s m x ≠ [105, 110, 102] ∧ shape s m x ≠ [45, 105, 110, 102] ∧ shape s m x ≠ [48, 112, 48] ∧ shape s m x ≠ [45, 48, 112, 48] := by
  obtain ⟨c, r, hcr, hc1, hc2⟩ := digit_first _ (rfl : Lib.decDigits m = _)
  have z0 : ∀ s, shape s 0 0 = (if s = true then [45] else []) ++ [48, 112, 48] := by
    intro s
    unfold shape
    rw [show (0 : Int) = ((0 : Nat) : Int) from rfl, Lib.itoa_nonneg, Lib.decDigits_one (by omega)]
    rfl
  have nz : ∀ t, shape s m x ≠ shape t 0 0 := fun t h => by
    have := (shape_inj hm' (by decide) h1 h2 (by decide) (by decide) h).2.1
    omega
  have k : ∀ d t, (57 < d.toNat ∨ d.toNat < 45) → shape s m x ≠ d :: t := by
    intro d t hd h
    unfold shape at h
    cases s
    · simp only [Bool.false_eq_true, if_false, List.nil_append] at h
      rw [hcr] at h
      injection h with h3 h4
      rw [h3] at hc1 hc2
      omega
    · simp only [if_true] at h
      injection h with h3 h4
      rw [← h3] at hd; revert hd; decide
  refine ⟨k _ _ (by decide), k _ _ (by decide), ?_, ?_, ?_⟩
  · intro h
    unfold shape at h
    rw [hcr] at h
    cases s
    · simp only [Bool.false_eq_true, if_false, List.nil_append] at h
      injection h with h3 h4
      rw [h3] at hc1; revert hc1; decide
    · simp only [if_true] at h
      injection h with h3 h4
      injection h4 with h5 h6
      rw [h5] at hc2; revert hc2; decide
  · have := nz false; rw [z0] at this; exact this
  · have := nz true; rw [z0] at this; exact this
theorem room_none (s : Bool) {m : Nat} {x : Int} (ho : m % 2 = 1) (hm : m < 9007199254740992) (h1 : -32768 ≤ x) (h2 : x ≤ 32767) (hx : ¬ Room m x) : parseSem (shape s m x) = none := by
  cases h : parseSem (shape s m x) with
  | none => rfl
  | some g =>
    exfalso
    obtain ⟨n1, n2, n3, n4, n5⟩ := shape_ne s m x (by omega) hm h1 h2
    rcases parse_inv h with h | h | h | h | h | ⟨s', m', x', o, hm', hr, h⟩
    · exact n1 h
    · exact n2 h
    · exact n3 h
    · exact n4 h
    · exact n5 h
    · have hb : -32768 ≤ x' ∧ x' ≤ 32767 := by unfold Room at hr; omega
      obtain ⟨_, e1, e2⟩ := shape_inj hm hm' h1 h2 hb.1 hb.2 h
      rw [e1, e2] at hx
      exact hx hr
end Go.Proofs.YtpnbjofddlbagaaDoor
