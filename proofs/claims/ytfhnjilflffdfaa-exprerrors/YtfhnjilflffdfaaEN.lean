import Derived.Test.YtfhnjilflffdfaaEM
namespace Go.Proofs.Ytfhnjilflffdfaa
open Go Go.RowKit
set_option linter.unusedVariables false
theorem sum_comm (a b : Ieee.Datum) : a.sum b = b.sum a := by
  cases a <;> cases b <;> simp only [Ieee.Datum.sum]
  · rename_i s m i t n j
    rw [Int.min_comm i j, Int.add_comm, Bool.and_comm]
  · rename_i s t
    by_cases h : s = t
    · subst h; rfl
    · rw [if_neg h, if_neg (fun q => h q.symm)]
theorem product_comm (a b : Ieee.Datum) : a.product b = b.product a := by
  cases a <;> cases b <;> simp only [Ieee.Datum.product]
  · rename_i s m i t n j
    rw [Bool.xor_comm, Nat.mul_comm, Int.add_comm]
  · rw [Bool.xor_comm]
theorem arC_add (x y : Nat) : arC .add x y = arC .add y x := by
  unfold arC floatBits
  simp only [Ieee.Format.add, sum_comm]
theorem arC_mul (x y : Nat) : arC .mul x y = arC .mul y x := by
  unfold arC floatBits
  simp only [Ieee.Format.mul, product_comm]
theorem reck_comm (op : ByteArray) (h : opO op = 1 ∨ opO op = 3) (k n : Int) (f : Nat) (s : ByteArray) (k' n' : Int) (f' : Nat) (s' : ByteArray) : reckR op k' n' f' s' k n f s = reckR op k n f s k' n' f' s' := by
  have e1 : arC (fop (opO op)) (asF k' n' f') (asF k n f) = arC (fop (opO op)) (asF k n f) (asF k' n' f') := by
    rcases h with h | h <;> rw [h]
    · exact arC_add _ _
    · exact arC_mul _ _
  have e2 : iop (opO op) n' n = iop (opO op) n n' := by
    rcases h with h | h <;> rw [h]
    · exact Int.add_comm _ _
    · exact Int.mul_comm _ _
  unfold reckR
  rw [e1, e2, Bool.and_comm]
  have c1 : (opO op = 0 ∨ rightB k' n' f' s' = false ∨ rightB k n f s = false) ↔ (opO op = 0 ∨ rightB k n f s = false ∨ rightB k' n' f' s' = false) := by grind
  have c2 : (k' = 0 ∨ k = 0) ↔ (k = 0 ∨ k' = 0) := Or.comm
  have c3 : (k' = 3 ∨ k = 3) ↔ (k = 3 ∨ k' = 3) := Or.comm
  simp only [c1, c2, c3]
theorem cmp3_flip (x y : Int) : Flt.cmp3 y x = -Flt.cmp3 x y := by unfold Flt.cmp3; (repeat' split) <;> omega
theorem cmpS_flip (s t : ByteArray) : cmpS t s = -cmpS s t := by
  unfold cmpS
  rcases bl_tri s.toList t.toList with ⟨h1, h2, h3⟩ | ⟨h1, h2, h3⟩ | ⟨h1, h2, h3⟩
  · simp [h1, h2, Ne.symm h3]
  · simp [h1, h2, h3]
  · simp [h3, bl_irr]
theorem cmpS_bd (s t : ByteArray) : -1 ≤ cmpS s t ∧ cmpS s t ≤ 1 := by unfold cmpS; (repeat' split) <;> omega
theorem ord_flip (k n : Int) (f : Nat) (s : ByteArray) (k' n' : Int) (f' : Nat) (s' : ByteArray) (h : k = k' ∨ (numB k && numB k') = true) :
    (ordI k' n' f' s' k n f s = -ordI k n f s k' n' f' s' ∧ -2 ≤ ordI k n f s k' n' f' s' ∧ ordI k n f s k' n' f' s' ≤ 2) ∨ (ordI k n f s k' n' f' s' = 2 ∧ ordI k' n' f' s' k n f s = 2) := by
  have hnum : (numB k && numB k') = true → ¬ k = 4 ∧ ¬ k' = 4 := by
    intro h
    simp only [numB, Bool.and_eq_true, Bool.or_eq_true, beq_iff_eq] at h
    omega
  have e4 : k = 4 ↔ k' = 4 := by
    rcases h with rfl | h
    · exact Iff.rfl
    · have := hnum h; omega
  by_cases h4 : k = 4
  · have h4' := e4.1 h4
    have e1 : ordI k n f s k' n' f' s' = cmpS s s' := by simp [ordI, h4]
    have e2 : ordI k' n' f' s' k n f s = cmpS s' s := by simp [ordI, h4']
    rw [e1, e2]
    have := cmpS_bd s s'
    exact .inl ⟨cmpS_flip s s', by omega, by omega⟩
  · have h4' : ¬ k' = 4 := fun x => h4 (e4.2 x)
    by_cases h3 : k = 3
    · by_cases h3' : k' = 3
      · have e1 : ordI k n f s k' n' f' s' = fOrd f f' := by simp [ordI, h3, h3']
        have e2 : ordI k' n' f' s' k n f s = fOrd f' f := by simp [ordI, h3, h3']
        rw [e1, e2]
        unfold fOrd
        by_cases hn : Flt.isNan f = true ∨ Flt.isNan f' = true
        · rw [if_pos hn, if_pos hn.symm]; exact .inr ⟨rfl, rfl⟩
        · rw [if_neg hn, if_neg (fun x => hn x.symm)]
          have := cmp3_bd (Flt.key f) (Flt.key f')
          exact .inl ⟨cmp3_flip _ _, by omega, by omega⟩
      · have e1 : ordI k n f s k' n' f' s' = -mOrd n' f := by simp [ordI, h3, h3']
        have e2 : ordI k' n' f' s' k n f s = mOrd n' f := by simp [ordI, h3, h3', h4']
        rw [e1, e2]
        have := mOrd_bd n' f
        exact .inl ⟨by omega, by omega, by omega⟩
    · by_cases h3' : k' = 3
      · have e1 : ordI k n f s k' n' f' s' = mOrd n f' := by simp [ordI, h3, h3', h4]
        have e2 : ordI k' n' f' s' k n f s = -mOrd n f' := by simp [ordI, h3, h3']
        rw [e1, e2]
        have := mOrd_bd n f'
        exact .inl ⟨by omega, by omega, by omega⟩
      · have e1 : ordI k n f s k' n' f' s' = Flt.cmp3 n n' := by simp [ordI, h3, h3', h4]
        have e2 : ordI k' n' f' s' k n f s = Flt.cmp3 n' n := by simp [ordI, h3, h3', h4']
        rw [e1, e2]
        have := cmp3_bd n n'
        exact .inl ⟨cmp3_flip _ _, by omega, by omega⟩
def flipI (i : Nat) : Nat := if i = 3 then 5 else if i = 5 then 3 else if i = 4 then 6 else if i = 6 then 4 else i
theorem hold_flip (i : Nat) (h1 : 1 ≤ i) (h6 : i ≤ 6) (o o' : Int) (h : (o' = -o ∧ -2 ≤ o ∧ o ≤ 2) ∨ (o = 2 ∧ o' = 2)) : holdB (flipI i) o' = holdB i o := by
  have hi : i = 1 ∨ i = 2 ∨ i = 3 ∨ i = 4 ∨ i = 5 ∨ i = 6 := by omega
  rcases h with ⟨rfl, ha, hb⟩ | ⟨rfl, rfl⟩
  · have ho : o = -2 ∨ o = -1 ∨ o = 0 ∨ o = 1 ∨ o = 2 := by omega
    rcases hi with rfl | rfl | rfl | rfl | rfl | rfl <;> rcases ho with rfl | rfl | rfl | rfl | rfl <;> decide
  · rcases hi with rfl | rfl | rfl | rfl | rfl | rfl <;> decide
/-- the sign with both sides turned round -/
def flipN (s : ByteArray) : ByteArray := if s.toList = [60] then ⟨#[62]⟩ else if s.toList = [62] then ⟨#[60]⟩ else if s.toList = [60, 61] then ⟨#[62, 61]⟩ else if s.toList = [62, 61] then ⟨#[60, 61]⟩ else s
theorem opI_flip (s : ByteArray) : opI (flipN s) = flipI (opI s) := by
  unfold flipN
  by_cases h1 : s.toList = [60]
  · rw [if_pos h1]; unfold opI; rw [Lib.toList_data, h1]; decide
  · rw [if_neg h1]
    by_cases h2 : s.toList = [62]
    · rw [if_pos h2]; unfold opI; rw [Lib.toList_data, h2]; decide
    · rw [if_neg h2]
      by_cases h3 : s.toList = [60, 61]
      · rw [if_pos h3]; unfold opI; rw [Lib.toList_data, h3]; decide
      · rw [if_neg h3]
        by_cases h4 : s.toList = [62, 61]
        · rw [if_pos h4]; unfold opI; rw [Lib.toList_data, h4]; decide
        · rw [if_neg h4]; unfold opI flipI; simp only [h1, h2, h3, h4, if_false]
          (repeat' split) <;> omega
theorem opI_le (s : ByteArray) : opI s ≤ 6 := by unfold opI; (repeat' split) <;> omega
theorem test_flip (s : ByteArray) (a b : Vl) : testR (flipN s) b.k b.n b.f b.s a.k a.n a.f a.s = testR s a.k a.n a.f a.s b.k b.n b.f b.s := by
  have e0 : opI (flipN s) = 0 ↔ opI s = 0 := by
    rw [opI_flip]; unfold flipI; (repeat' split) <;> omega
  unfold testR
  have c1 : (opI (flipN s) = 0 ∨ rightB b.k b.n b.f b.s = false ∨ rightB a.k a.n a.f a.s = false) ↔ (opI s = 0 ∨ rightB a.k a.n a.f a.s = false ∨ rightB b.k b.n b.f b.s = false) := by rw [e0]; grind
  rw [if_iff c1]
  split
  · rfl
  · rename_i hg
    rw [if_iff (p := b.k = 0 ∨ a.k = 0) (q := a.k = 0 ∨ b.k = 0) Or.comm]
    split
    · rfl
    · rw [if_iff (p := b.k ≠ a.k ∧ (numB b.k && numB a.k) = false) (q := a.k ≠ b.k ∧ (numB a.k && numB b.k) = false) (by rw [Bool.and_comm]; exact and_congr_left fun _ => ⟨Ne.symm, Ne.symm⟩)]
      split
      · rfl
      · rename_i hk
        have hk' : a.k = b.k ∨ (numB a.k && numB b.k) = true := by
          by_cases e : a.k = b.k
          · exact .inl e
          · cases hn : (numB a.k && numB b.k)
            · exact absurd ⟨e, hn⟩ hk
            · exact .inr rfl
        rw [opI_flip, hold_flip (opI s) (by omega) (opI_le s) _ _ (ord_flip a.k a.n a.f a.s b.k b.n b.f b.s hk')]
theorem comb2_flip (s : ByteArray) (hs : s.toList ≠ [45]) (a b : Vl × Bool) : comb2 (flipN s) b a = comb2 s a b := by
  unfold comb2
  have key : (s.toList ∈ [[60], [62], [60, 61], [62, 61]] ∧ ¬ (flipN s).toList ∈ [[97, 110, 100], [111, 114], [43], [42], [45]]) ∨ flipN s = s := by
    unfold flipN
    by_cases h1 : s.toList = [60]
    · rw [if_pos h1, h1, Lib.toList_data]; exact .inl (by decide)
    · rw [if_neg h1]
      by_cases h2 : s.toList = [62]
      · rw [if_pos h2, h2, Lib.toList_data]; exact .inl (by decide)
      · rw [if_neg h2]
        by_cases h3 : s.toList = [60, 61]
        · rw [if_pos h3, h3, Lib.toList_data]; exact .inl (by decide)
        · rw [if_neg h3]
          by_cases h4 : s.toList = [62, 61]
          · rw [if_pos h4, h4, Lib.toList_data]; exact .inl (by decide)
          · rw [if_neg h4]; exact .inr rfl
  have hab : (b.2 || a.2) = (a.2 || b.2) := Bool.or_comm _ _
  rcases key with ⟨h1, h2⟩ | h
  · have n1 : ¬ (s.toList = [97, 110, 100] ∨ s.toList = [111, 114]) := by
      simp only [List.mem_cons, List.not_mem_nil, or_false] at h1
      rcases h1 with h | h | h | h <;> rw [h] <;> decide
    have n2 : opO s = 0 := by
      simp only [List.mem_cons, List.not_mem_nil, or_false] at h1
      unfold opO
      rcases h1 with h | h | h | h <;> rw [h] <;> decide
    have m1 : ¬ ((flipN s).toList = [97, 110, 100] ∨ (flipN s).toList = [111, 114]) := by
      intro h; apply h2; rcases h with h | h <;> rw [h] <;> decide
    have m2 : opO (flipN s) = 0 := by
      unfold opO
      rw [if_neg (fun h => h2 (by rw [h]; decide)), if_neg (fun h => h2 (by rw [h]; decide)), if_neg (fun h => h2 (by rw [h]; decide))]
    rw [if_neg m1, if_neg n1, if_neg (show ¬ opO (flipN s) ≠ 0 by simp [m2]), if_neg (show ¬ opO s ≠ 0 by simp [n2]), test_flip, hab]
  · rw [h]
    by_cases c1 : s.toList = [97, 110, 100] ∨ s.toList = [111, 114]
    · rw [if_pos c1, if_pos c1, if_iff (p := b.1.ofE = 0 ∧ a.1.ofE = 0) (q := a.1.ofE = 0 ∧ b.1.ofE = 0) And.comm, hab]
      rw [join_same (settles s) (l := [b.1.ofI, a.1.ofI]) (m := [a.1.ofI, b.1.ofI]) (fun x => by simp [or_comm])]
    · rw [if_neg c1, if_neg c1]
      by_cases c2 : opO s ≠ 0
      · have ho : opO s = 1 ∨ opO s = 3 := by
          unfold opO at c2 ⊢
          by_cases p1 : s.toList = [43]
          · rw [if_pos p1]; exact .inl rfl
          · rw [if_neg p1, if_neg hs] at *
            by_cases p3 : s.toList = [42]
            · rw [if_pos p3]; exact .inr rfl
            · rw [if_neg p3] at c2; exact absurd rfl c2
        rw [if_pos c2, if_pos c2, reck_comm s ho, hab]
      · rw [if_neg c2, if_neg c2]
        have := test_flip s a.1 b.1
        rw [h] at this
        rw [this, hab]
end Go.Proofs.Ytfhnjilflffdfaa
