import Derived.Test.YtnjlcdemfdokoaaGreatDoorWm
import Derived.Test.YtnjlcdemfdokoaaGreatDoorWc
namespace Go.Proofs.YtnjlcdemfdokoaaGreatDoor
open Go Go.RowKit
namespace Flt
/-! m times 2 to the power of E that has room is read exactly -/
theorem ldx_exact {m E : Nat} (h0 : 0 < m) (hm : m < 9007199254740992) (hE : E + m.log2 ≤ 2097) : ldx m ((E : Int) - 1074) = rungOf m E := by
  have hl := log2_le52 h0 hm
  have ⟨n1, n2⟩ := norm_mant h0 hm
  have hR := rungOf_lt h0 hm hE
  have hP := rungOf_pos E h0 hm
  have hV := V_rungOf E h0 hm
  unfold ldx
  rw [if_neg (by omega), if_neg (by omega), if_neg (by omega)]
  by_cases ht : 1 ≤ (E : Int) - 1074 + 1023 + (m.log2 : Int)
  · rw [if_pos ht]
    unfold rungOf
    rw [if_neg (by omega)]
    congr 2
    omega
  · rw [if_neg ht]
    obtain ⟨z, hz⟩ : ∃ z, z = ((E : Int) - 1074 + 1023 + (m.log2 : Int) + 53).toNat * 4503599627370496 + (m * 2 ^ (52 - m.log2) - 4503599627370496) := ⟨_, rfl⟩
    rw [← hz]
    have e1 : ((E : Int) - 1074 + 1023 + (m.log2 : Int) + 53).toNat = E + m.log2 + 2 := by omega
    rw [e1] at hz
    have hzl : z < 9218868437227405312 := by omega
    have hrz : rung z = z := rung_small (by omega)
    have rz := read_fin (a := z) (by omega) (by rw [hrz]; exact hzl)
    rw [hrz, neg_small (by omega)] at rz
    have mz : mant z = m * 2 ^ (52 - m.log2) := by rw [mant_norm (by omega)]; omega
    have xz : xp z = E + m.log2 + 1 := by unfold xp; omega
    rw [mz, xz] at rz
    have ro : Ieee.double.read 4368491638549381120 = .number false 4503599627370496 (-105) := by decide +kernel
    have hx := mul_exact ro rz (rungOf m E) (E + m.log2) 104 hR hP (by omega) (by
      rw [hV, show (4503599627370496 : Nat) = 2 ^ 52 from by decide]
      have e2 : 2 ^ 52 * (m * 2 ^ (52 - m.log2)) * 2 ^ (E + m.log2) = m * (2 ^ 52 * 2 ^ (52 - m.log2) * 2 ^ (E + m.log2)) := by
        simp only [Nat.mul_assoc, Nat.mul_left_comm]
      rw [e2, ← Nat.pow_add, ← Nat.pow_add, Nat.mul_assoc, ← Nat.pow_add, show 52 + (52 - m.log2) + (E + m.log2) = E + 104 from by omega])
    simp only [Bool.xor_self, Bool.false_eq_true, if_false] at hx
    unfold tiny
    rw [hx]
    rfl
@[irreducible] def J : Nat := 2046
theorem J_eq : J = 2046 := by unfold J; rfl
theorem V_inf : V 9218868437227405312 = 2 ^ 52 * 2 ^ J := by
  have e1 : mant 9218868437227405312 = 2 ^ 52 := by decide
  have e2 : xp 9218868437227405312 = J := by rw [J_eq]; decide
  unfold V
  rw [e1, e2]
theorem odd_facts {r : Nat} (h0 : 0 < r) (hr : r < 9218868437227405312) : ∃ E : Nat, oddE r = (E : Int) - 1074 ∧ oddM r * 2 ^ E = V r ∧ oddM r % 2 = 1 ∧ E + (oddM r).log2 ≤ 2097 := by
  have ⟨b1, b2⟩ := nm_bounds h0
  have hl := log2_le52 (mant_pos h0) (mant_lt r)
  have hN0 : nm r = mant r * 2 ^ (52 - (mant r).log2) := rfl
  have hM0 : oddM r = nm r / 2 ^ Lib.ctz 64 (nm r) := by unfold oddM; rw [if_neg (by omega)]
  have hE0 : oddE r = fe r - 53 + (Lib.ctz 64 (nm r) : Nat) := by unfold oddE; rw [if_neg (by omega)]
  have hc0 : Lib.ctz 64 (nm r) = Lib.ctzFrom 64 (nm r) := by unfold Lib.ctz; rw [if_neg (by omega)]
  obtain ⟨q, hq, hk⟩ := Lib.ctzFrom_spec 64 (nm r) (by omega) (Nat.lt_of_lt_of_le b2 (by decide))
  rw [← hc0] at hq hk
  clear hc0
  generalize Lib.ctz 64 (nm r) = c at *
  generalize nm r = N at *
  have hM : oddM r = 2 * q + 1 := by
    rw [hM0, hq, Nat.mul_comm, Nat.mul_div_cancel _ (Nat.pow_pos (by decide))]
  have hc : 52 - (mant r).log2 ≤ c := by
    apply Nat.le_of_not_lt
    intro hlt
    obtain ⟨d, hd⟩ : ∃ d, 52 - (mant r).log2 = c + (d + 1) := ⟨52 - (mant r).log2 - c - 1, by omega⟩
    rw [hd] at hN0
    rw [hq, Nat.pow_add, ← Nat.mul_assoc, Nat.mul_comm (mant r) (2 ^ c), Nat.mul_assoc] at hN0
    have h2 := Nat.eq_of_mul_eq_mul_left (Nat.pow_pos (by decide)) hN0
    rw [Nat.pow_succ, ← Nat.mul_assoc] at h2
    omega
  have hV : oddM r * 2 ^ (xp r + c - (52 - (mant r).log2)) = V r := by
    have h1 : oddM r * 2 ^ c = mant r * 2 ^ (52 - (mant r).log2) := by
      rw [hM, Nat.mul_comm, ← hq, hN0]
    apply Nat.eq_of_mul_eq_mul_right (Nat.pow_pos (show 0 < 2 by decide) (n := 52 - (mant r).log2))
    rw [Nat.mul_assoc, ← Nat.pow_add, show xp r + c - (52 - (mant r).log2) + (52 - (mant r).log2) = c + xp r from by omega, Nat.pow_add, ← Nat.mul_assoc, h1]
    unfold V
    rw [Nat.mul_assoc, Nat.mul_assoc, Nat.mul_comm (2 ^ (52 - (mant r).log2))]
  refine ⟨xp r + c - (52 - (mant r).log2), ?_, hV, ?_, ?_⟩
  · rw [hE0]
    unfold fe
    omega
  · rw [hM]; omega
  · have h2 := V_lt hr
    rw [V_inf, ← hV, ← Nat.pow_add] at h2
    have l1 := Nat.log2_self_le (n := oddM r) (by omega)
    have h3 : 2 ^ ((oddM r).log2 + (xp r + c - (52 - (mant r).log2))) < 2 ^ (52 + J) := by
      rw [Nat.pow_add]
      exact Nat.lt_of_le_of_lt (Nat.mul_le_mul_right _ l1) h2
    have := pow_lt h3
    rw [J_eq] at this
    omega
theorem ldx_odd {r : Nat} (hr : r < 9218868437227405312) : ldx (oddM r) (oddE r) = r := by
  by_cases h0 : r = 0
  · subst h0; decide
  · obtain ⟨E, e1, e2, e3, e4⟩ := odd_facts (r := r) (by omega) hr
    rw [e1, ldx_exact (by omega) (oddM_lt r) e4]
    exact V_inj (by rw [V_rungOf E (by omega) (oddM_lt r), e2])
end Flt
/-! digits -/
theorem dec_digits (m : Nat) : ∀ c ∈ Lib.decDigits m, 48 ≤ c.toNat ∧ c.toNat ≤ 57 := by
  induction m using Nat.strongRecOn with
  | ind m ih =>
    intro c hc
    have one : ∀ d : Nat, d < 10 → 48 ≤ (UInt8.ofNat (48 + d)).toNat ∧ (UInt8.ofNat (48 + d)).toNat ≤ 57 := by
      intro d hd
      rw [UInt8.toNat_ofNat']
      omega
    by_cases h : m < 10
    · rw [Lib.decDigits_one h] at hc
      simp only [List.mem_singleton] at hc
      rw [hc]; exact one m h
    · rw [Lib.decDigits, dif_neg h] at hc
      rcases List.mem_append.1 hc with h1 | h1
      · exact ih (m / 10) (by omega) c h1
      · simp only [List.mem_singleton] at h1
        rw [h1]; exact one _ (by omega)
theorem dec_ne (m : Nat) : Lib.decDigits m ≠ [] := by
  intro h
  have h1 := Lib.decDigits_length m
  have h2 := Lib.nDigits_pos m
  rw [h] at h1
  simp at h1
  omega
theorem parseM_snoc (M : Nat) (c : UInt8) (hc : 48 ≤ c.toNat ∧ c.toNat ≤ 57) : ∀ (l : List UInt8) (acc v : Nat), Lib.parseUintM M acc l = .ok v → v < 1844674407370955162 → v * 10 + (c.toNat - 48) ≤ M → Lib.parseUintM M acc (l ++ [c]) = .ok (v * 10 + (c.toNat - 48))
  | [], acc, v, h, h1, h2 => by
    have : acc = v := by simpa [Lib.parseUintM] using h
    subst this
    show Lib.parseUintM M acc [c] = _
    unfold Lib.parseUintM
    rw [if_pos hc, if_neg (by omega), if_neg (by omega)]
    rfl
  | d :: l, acc, v, h, h1, h2 => by
    show Lib.parseUintM M acc (d :: (l ++ [c])) = _
    unfold Lib.parseUintM at h ⊢
    split at h
    · rename_i h3
      rw [if_pos h3]
      split at h
      · cases h
      · rename_i h4
        rw [if_neg h4]
        split at h
        · cases h
        · rename_i h5
          rw [if_neg h5]
          exact parseM_snoc M c hc l _ v h h1 h2
    · cases h
theorem parseM_dec (M : Nat) (hM : M < 18446744073709551616) (m : Nat) : m ≤ M → Lib.parseUintM M 0 (Lib.decDigits m) = .ok m := by
  induction m using Nat.strongRecOn with
  | ind m ih =>
    intro hm
    have dig : ∀ d : Nat, d < 10 → (UInt8.ofNat (48 + d)).toNat = 48 + d := by
      intro d hd
      rw [UInt8.toNat_ofNat']
      omega
    by_cases h : m < 10
    · rw [Lib.decDigits_one h]
      unfold Lib.parseUintM
      rw [dig m h, if_pos (by omega), if_neg (by omega), if_neg (by omega)]
      unfold Lib.parseUintM
      congr 1
      omega
    · rw [Lib.decDigits, dif_neg h]
      have := parseM_snoc M (UInt8.ofNat (48 + m % 10)) (by rw [dig _ (by omega)]; omega) (Lib.decDigits (m / 10)) 0 (m / 10) (ih (m / 10) (by omega) (by omega)) (by omega) (by rw [dig _ (by omega)]; omega)
      rw [this, dig _ (by omega)]
      congr 1
      omega
theorem pu53_dec {m : Nat} (hm : m < 9007199254740992) : pu53 (Lib.decDigits m) = .ok m := by
  unfold pu53
  rw [if_neg (dec_ne m)]
  exact parseM_dec 9007199254740991 (by decide) m (by omega)
theorem pi16_itoa {x : Int} (h1 : -32768 ≤ x) (h2 : x ≤ 32767) : Lib.parseIntB 16 (Lib.itoa x) = .ok x := by
  have e : (2 : Nat) ^ 16 - 1 = 65535 := by decide
  have e' : (2 : Nat) ^ (16 - 1) = 32768 := by decide
  by_cases hx : x < 0
  · have hi : Lib.itoa x = 45 :: Lib.decDigits x.natAbs := by unfold Lib.itoa; rw [if_pos hx]
    rw [hi]
    unfold Lib.parseIntB
    simp only []
    rw [if_pos (Or.inr (by decide))]
    have hp : Lib.parseUintB 16 (Lib.decDigits x.natAbs) = .ok x.natAbs := by
      unfold Lib.parseUintB
      rw [if_neg (dec_ne _), e]
      exact parseM_dec 65535 (by decide) _ (by omega)
    rw [hp]
    simp only []
    rw [if_neg (by intro h; exact h.1 (by decide)), if_neg (by rw [e']; intro h; omega), if_pos (by decide)]
    congr 1
    omega
  · have hi : Lib.itoa x = Lib.decDigits x.toNat := by unfold Lib.itoa; rw [if_neg hx]
    rw [hi]
    have hp : Lib.parseUintB 16 (Lib.decDigits x.toNat) = .ok x.toNat := by
      unfold Lib.parseUintB
      rw [if_neg (dec_ne _), e]
      exact parseM_dec 65535 (by decide) _ (by omega)
    have hd := dec_digits x.toNat
    have hne := dec_ne x.toNat
    generalize Lib.decDigits x.toNat = l at *
    cases l with
    | nil => exact absurd rfl hne
    | cons c r =>
      have hc := hd c (by simp)
      unfold Lib.parseIntB
      simp only []
      rw [if_neg (by omega), hp]
      simp only []
      rw [if_neg (by rw [e']; intro h; omega), if_neg (by intro h; omega), if_neg (by omega)]
      congr 1
      omega
theorem index_at (r : List UInt8) : ∀ d : List UInt8, (∀ c ∈ d, c ≠ 112) → Lib.indexByte (d ++ 112 :: r) 112 = d.length
  | [], _ => by simp [Lib.indexByte]
  | c :: d, h => by
    have h1 := index_at r d (fun c hc => h c (by simp [hc]))
    have h2 : (c == 112) = false := by simpa using h c (by simp)
    show (if c == 112 then (0 : Int) else if Lib.indexByte (d ++ 112 :: r) 112 == -1 then -1 else Lib.indexByte (d ++ 112 :: r) 112 + 1) = _
    rw [h2, h1]
    simp
theorem cutP_at (d r : List UInt8) (h : ∀ c ∈ d, c ≠ 112) : cutP (d ++ 112 :: r) = (d, r) := by
  have hi : Lib.index (d ++ 112 :: r) [112] = d.length := by rw [Lib.index_one, index_at r d h]
  unfold cutP Lib.cut
  rw [hi, if_pos (by omega)]
  simp
/-! a text is read as what it is the text of -/
theorem digit_first {a : Nat} (l : List UInt8) (h : l = Lib.decDigits a) : ∃ c r, l = c :: r ∧ 48 ≤ c.toNat ∧ c.toNat ≤ 57 := by
  cases l with
  | nil => exact absurd h.symm (dec_ne a)
  | cons c r => exact ⟨c, r, rfl, dec_digits a c (by rw [← h]; simp)⟩
theorem readSem_text {a : Nat} (ha : a < 18446744073709551616) : readSem (Flt.text a) = some (Flt.canon a) := by
  cases hn : Flt.isNan a
  · rw [Flt.canon_num hn]
    by_cases h1 : a = 9218868437227405312
    · subst h1; decide +kernel
    by_cases h2 : a = 18442240474082181120
    · subst h2; decide +kernel
    have hr : Flt.rung a < 9218868437227405312 := by
      unfold Flt.isNan at hn
      simp only [decide_eq_false_iff_not, Nat.not_lt] at hn
      unfold Flt.rung at hn ⊢
      omega
    have ht : Flt.text a = (if Flt.neg a = true then [45] else []) ++ (Lib.decDigits (Flt.oddM (Flt.rung a)) ++ (112 :: Lib.itoa (Flt.oddE (Flt.rung a)))) := by
      unfold Flt.text
      rw [hn, if_neg (by decide), if_neg h1, if_neg h2]
    obtain ⟨c, r, hcr, hc1, hc2⟩ := digit_first _ (rfl : Lib.decDigits (Flt.oddM (Flt.rung a)) = _)
    have hnum : ∀ n : Bool, numSem n (Lib.decDigits (Flt.oddM (Flt.rung a))) (Lib.itoa (Flt.oddE (Flt.rung a))) = some (if n = true then Flt.copysign (Flt.rung a) 13830554455654793216 else Flt.rung a) := by
      intro n
      have hb := Flt.oddE_bounds hr
      unfold numSem
      rw [pu53_dec (Flt.oddM_lt _)]
      simp only []
      rw [pi16_itoa (by omega) (by omega)]
      simp only []
      rw [Flt.ldx_odd hr]
    have hcut : cutP (Lib.decDigits (Flt.oddM (Flt.rung a)) ++ (112 :: Lib.itoa (Flt.oddE (Flt.rung a)))) = (Lib.decDigits (Flt.oddM (Flt.rung a)), Lib.itoa (Flt.oddE (Flt.rung a))) :=
      cutP_at _ _ (fun c hc => by have := dec_digits _ c hc; intro e; rw [e] at this; revert this; decide)
    cases hs : Flt.neg a
    · rw [ht, hs, if_neg (by decide), List.nil_append]
      have hrest : Lib.decDigits (Flt.oddM (Flt.rung a)) ++ (112 :: Lib.itoa (Flt.oddE (Flt.rung a))) = c :: (r ++ (112 :: Lib.itoa (Flt.oddE (Flt.rung a)))) := by rw [hcr]; rfl
      have hp : Lib.hasPrefix (Lib.decDigits (Flt.oddM (Flt.rung a)) ++ (112 :: Lib.itoa (Flt.oddE (Flt.rung a)))) [45] = false := by
        rw [hrest]
        unfold Lib.hasPrefix
        simp only [List.isPrefixOf, Bool.and_true]
        rw [beq_eq_false_iff_ne]
        intro e; rw [← e] at hc1; revert hc1; decide
      have ne : ∀ (d : UInt8) (t : List UInt8), 57 < d.toNat ∨ d.toNat < 48 → ¬ Lib.decDigits (Flt.oddM (Flt.rung a)) ++ (112 :: Lib.itoa (Flt.oddE (Flt.rung a))) = d :: t := by
        intro d t hd e
        rw [hrest] at e
        injection e with e1 e2
        rw [e1] at hc1 hc2
        omega
      unfold readSem
      rw [if_neg (ne _ _ (by decide)), if_neg (ne _ _ (by decide)), if_neg (ne _ _ (by decide)), hp]
      have htr : Lib.trimPrefix (Lib.decDigits (Flt.oddM (Flt.rung a)) ++ (112 :: Lib.itoa (Flt.oddE (Flt.rung a)))) [45] = Lib.decDigits (Flt.oddM (Flt.rung a)) ++ (112 :: Lib.itoa (Flt.oddE (Flt.rung a))) := by
        unfold Lib.trimPrefix; rw [hp]; rfl
      rw [htr, hcut, hnum false, if_neg (by decide)]
      congr 1
      unfold Flt.neg at hs
      simp only [decide_eq_false_iff_not] at hs
      exact Flt.rung_small (by omega)
    · rw [ht, hs, if_pos rfl]
      have hp : Lib.hasPrefix ([45] ++ (Lib.decDigits (Flt.oddM (Flt.rung a)) ++ (112 :: Lib.itoa (Flt.oddE (Flt.rung a))))) [45] = true := by
        unfold Lib.hasPrefix
        simp [List.isPrefixOf]
      have ne1 : ∀ (d : UInt8) (t : List UInt8), d ≠ 45 → ¬ [45] ++ (Lib.decDigits (Flt.oddM (Flt.rung a)) ++ (112 :: Lib.itoa (Flt.oddE (Flt.rung a)))) = d :: t := by
        intro d t hd e
        injection e with e1 e2
        exact hd e1.symm
      have ne2 : ¬ [45] ++ (Lib.decDigits (Flt.oddM (Flt.rung a)) ++ (112 :: Lib.itoa (Flt.oddE (Flt.rung a)))) = [45, 105, 110, 102] := by
        intro e
        injection e with e1 e2
        rw [hcr] at e2
        injection e2 with e3 e4
        rw [e3] at hc2; revert hc2; decide
      unfold readSem
      rw [if_neg (ne1 _ _ (by decide)), if_neg (ne1 _ _ (by decide)), if_neg ne2, hp]
      have htr : Lib.trimPrefix ([45] ++ (Lib.decDigits (Flt.oddM (Flt.rung a)) ++ (112 :: Lib.itoa (Flt.oddE (Flt.rung a))))) [45] = Lib.decDigits (Flt.oddM (Flt.rung a)) ++ (112 :: Lib.itoa (Flt.oddE (Flt.rung a))) := by
        unfold Lib.trimPrefix; rw [hp]; rfl
      rw [htr, hcut, hnum true, if_pos rfl]
      congr 1
      unfold Flt.neg at hs
      simp only [decide_eq_true_eq] at hs
      unfold Flt.copysign
      rw [if_pos (by decide), Flt.rung_small (a := Flt.rung a) (Nat.mod_lt _ (by decide))]
      unfold Flt.rung
      omega
  · rw [Flt.canon_nan hn, show Flt.text a = [110, 97, 110] from by unfold Flt.text; rw [if_pos hn]]
    unfold readSem
    rw [if_pos rfl]
theorem text_len (a : Nat) (ha : a < 18446744073709551616) : (Flt.text a).length ≤ 50 := by
  unfold Flt.text
  split
  · simp
  · rename_i hn
    split
    · simp
    · split
      · simp
      · have hr : Flt.rung a < 9218868437227405312 := by
          unfold Flt.isNan at hn
          simp only [decide_eq_true_eq, Nat.not_lt] at hn
          unfold Flt.rung at hn ⊢
          omega
        have hb := Flt.oddE_bounds hr
        have hm := Flt.oddM_lt (Flt.rung a)
        have l1 := Flt.dec_len (m := Flt.oddM (Flt.rung a)) (by omega)
        have l2 := Flt.itoa_len (x := Flt.oddE (Flt.rung a)) (by omega) (by omega)
        simp only [List.length_append, List.length_cons]
        split
        · simp; omega
        · simp; omega
theorem text_canon (a : Nat) : Flt.text (Flt.canon a) = Flt.text a := by
  cases hn : Flt.isNan a
  · rw [Flt.canon_num hn]
  · rw [Flt.canon_nan hn, show Flt.text a = [110, 97, 110] from by unfold Flt.text; rw [if_pos hn]]
    unfold Flt.text
    rw [if_pos (by decide)]
theorem parseSem_text {a : Nat} (ha : a < 18446744073709551616) : parseSem (Flt.text a) = some (Flt.canon a) := by
  unfold parseSem
  rw [readSem_text ha]
  simp only []
  rw [if_pos (text_canon a)]
theorem parseSem_some {l : List UInt8} {g : Nat} (h : parseSem l = some g) : g < 18446744073709551616 ∧ Flt.text g = l ∧ Flt.canon g = g := by
  unfold parseSem at h
  cases hr : readSem l with
  | none => rw [hr] at h; cases h
  | some f =>
    rw [hr] at h
    simp only [] at h
    split at h
    · rename_i ht
      injection h with h
      subst h
      have hl := readSem_lt hr
      refine ⟨hl, ht, ?_⟩
      have h2 := readSem_text hl
      rw [ht, hr] at h2
      injection h2 with h2
      exact h2.symm
    · cases h
end Go.Proofs.YtnjlcdemfdokoaaGreatDoor
