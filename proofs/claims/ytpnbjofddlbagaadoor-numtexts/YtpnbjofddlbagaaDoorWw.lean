import Derived.Test.YtpnbjofddlbagaaDoorWv
namespace Go.Proofs.YtpnbjofddlbagaaDoor
open Go Go.RowKit
set_option linter.unusedVariables false
def tailOf (m : Nat) (x : Int) : List UInt8 := Lib.decDigits m ++ (112 :: Lib.itoa x)
theorem shape_tail (s : Bool) (m : Nat) (x : Int) : shape s m x = (if s = true then [45] else []) ++ tailOf m x := rfl
def Good (l : List UInt8) : Prop := ∃ (m : Nat) (x : Int), m % 2 = 1 ∧ m < 9007199254740992 ∧ Room m x ∧ l = tailOf m x
def Cut1 (l : List UInt8) (p : Nat) : Prop := p ≤ l.length ∧ (∀ c ∈ l.take p, c ≠ 112) ∧ (p = l.length ∨ l[p]? = some 112)
theorem itoa_ne (x : Int) : Lib.itoa x ≠ [] := by
  unfold Lib.itoa
  split
  · simp
  · exact dec_ne _
theorem cut_at_p {d r : List UInt8} (hd : ∀ c ∈ d, c ≠ 112) {p : Nat} (h : Cut1 (d ++ 112 :: r) p) : p = d.length := by
  obtain ⟨h1, h2, h3⟩ := h
  rcases Nat.lt_trichotomy p d.length with hlt | he | hgt
  · exfalso
    rcases h3 with h3 | h3
    · simp at h3; omega
    · rw [List.getElem?_append_left hlt, List.getElem?_eq_getElem hlt] at h3
      injection h3 with h3
      exact hd _ (List.getElem_mem hlt) h3
  · exact he
  · exfalso
    refine h2 112 ?_ rfl
    rw [List.take_append, List.mem_append]
    right
    obtain ⟨k, hk⟩ : ∃ k, p - d.length = k + 1 := ⟨p - d.length - 1, by omega⟩
    rw [hk]
    simp
theorem good_cut {l : List UInt8} {p : Nat} (hg : Good l) (hc : Cut1 l p) : ∃ (m : Nat) (x : Int), m % 2 = 1 ∧ m < 9007199254740992 ∧ Room m x ∧ l.take p = Lib.decDigits m ∧ l.drop (p + 1) = Lib.itoa x ∧ p + 1 < l.length := by
  obtain ⟨m, x, h1, h2, h3, rfl⟩ := hg
  have hp := cut_at_p (no_p m) hc
  subst hp
  refine ⟨m, x, h1, h2, h3, ?_, ?_, ?_⟩
  · unfold tailOf; simp
  · unfold tailOf; simp
  · unfold tailOf
    have := List.length_pos_iff.2 (itoa_ne x)
    simp
    omega
/-- the first number does not do -/
theorem bad1 {l : List UInt8} {p : Nat} {v : Int} (hc : Cut1 l p) (hv : NumOk (l.take p) 9007199254740991 v) (h : v < 1 ∨ v % 2 = 0 ∨ l.length ≤ p + 1) : ¬ Good l := by
  intro hg
  obtain ⟨m, x, h1, h2, h3, h4, h5, h6⟩ := good_cut hg hc
  rcases hv with ⟨n, rfl, hn, e⟩ | ⟨rfl, hb⟩
  · rw [h4] at e
    have := dec_inj e
    omega
  · exact hb m (by omega) h4
theorem itoa_first {x : Int} {c : UInt8} {t : List UInt8} (h : Lib.itoa x = c :: t) : (c = 45 → x < 0 ∧ t = Lib.decDigits x.natAbs) ∧ (c ≠ 45 → 0 ≤ x ∧ c :: t = Lib.decDigits x.toNat) := by
  unfold Lib.itoa at h
  split at h
  · rename_i hx
    injection h with h1 h2
    exact ⟨fun _ => ⟨hx, h2.symm⟩, fun hc => absurd h1.symm hc⟩
  · rename_i hx
    refine ⟨fun hc => ?_, fun _ => ⟨by omega, h.symm⟩⟩
    exfalso
    have := dec_digits x.toNat c (by rw [h]; simp)
    rw [hc] at this
    revert this
    decide
theorem bad2 {l : List UInt8} {p : Nat} {c : UInt8} {t : List UInt8} {v : Int} (hc : Cut1 l p) (hd : l.drop (p + 1) = c :: t) (hne : c ≠ 45) (hv : NumOk (c :: t) 2000 v) (h : v < 0) : ¬ Good l := by
  intro hg
  obtain ⟨m, x, h1, h2, h3, h4, h5, h6⟩ := good_cut hg hc
  rw [hd] at h5
  obtain ⟨x0, e⟩ := (itoa_first h5.symm).2 hne
  rcases hv with ⟨n, rfl, hn, e⟩ | ⟨rfl, hb⟩
  · omega
  · exact hb x.toNat (by unfold Room at h3; omega) e
theorem bad3 {l : List UInt8} {p : Nat} {t : List UInt8} {v : Int} (hc : Cut1 l p) (hd : l.drop (p + 1) = 45 :: t) (hv : NumOk t 2000 v) (h : v < 1) : ¬ Good l := by
  intro hg
  obtain ⟨m, x, h1, h2, h3, h4, h5, h6⟩ := good_cut hg hc
  rw [hd] at h5
  obtain ⟨x0, e⟩ := (itoa_first h5.symm).1 rfl
  rcases hv with ⟨n, rfl, hn, e'⟩ | ⟨rfl, hb⟩
  · rw [e] at e'
    have := dec_inj e'
    omega
  · exact hb x.natAbs (by unfold Room at h3; omega) e
theorem take_p {l : List UInt8} {p : Nat} (hc : Cut1 l p) (hlt : p + 1 < l.length) : l = l.take p ++ 112 :: l.drop (p + 1) := by
  obtain ⟨h1, h2, h3⟩ := hc
  rcases h3 with h3 | h3
  · omega
  · have hp : p < l.length := by omega
    rw [List.getElem?_eq_getElem hp] at h3
    injection h3 with h3
    have := List.drop_eq_getElem_cons hp
    rw [h3] at this
    rw [← this, List.take_append_drop]
theorem good2 {l : List UInt8} {p m k : Nat} {t : List UInt8} (hc : Cut1 l p) (hlt : p + 1 < l.length) (hm : l.take p = Lib.decDigits m) (hd : l.drop (p + 1) = t) (ht : t = Lib.decDigits k) : l = tailOf m (k : Int) := by
  rw [take_p hc hlt, hm, hd, ht]
  unfold tailOf
  rw [Lib.itoa_nonneg]
theorem good3 {l : List UInt8} {p m k : Nat} {t : List UInt8} (hc : Cut1 l p) (hlt : p + 1 < l.length) (hm : l.take p = Lib.decDigits m) (hd : l.drop (p + 1) = 45 :: t) (ht : t = Lib.decDigits k) (hk : 1 ≤ k) : l = tailOf m (-(k : Int)) := by
  rw [take_p hc hlt, hm, hd, ht]
  unfold tailOf
  rw [Lib.itoa_neg k hk]
/-- the bits that come out -/
theorem final_bits {M k m : Nat} {x e : Int} (hM : M % 2 = 1) (hm : m = M * 2 ^ k) (he : e = x - k) (h2 : m < 9007199254740992) (h3 : 4503599627370496 ≤ m ∨ e ≤ -1074) (e1 : -1074 ≤ e) (e2 : e ≤ 971) :
    Room M x ∧ Flt.rungOf M (x + 1074).toNat = (if m < 4503599627370496 then 0 else (e + 1075).toNat) * 4503599627370496 + m % 4503599627370496 := by
  have hM0 : 0 < M := by omega
  have hp : 0 < 2 ^ k := Nat.pow_pos (by decide)
  have hMm : M ≤ m := by rw [hm]; exact Nat.le_mul_of_pos_right _ hp
  have hlm : m.log2 = M.log2 + k := by
    rw [hm]
    apply Nat.le_antisymm
    · have h := (Nat.log2_lt (n := M * 2 ^ k) (k := M.log2 + k + 1) (by rw [← hm]; omega)).2 (by
        have := Nat.lt_log2_self (n := M)
        rw [show M.log2 + k + 1 = (M.log2 + 1) + k from by omega, Nat.pow_add]
        exact Nat.mul_lt_mul_of_pos_right this hp)
      omega
    · refine (Nat.le_log2 (by rw [← hm]; omega)).2 ?_
      rw [Nat.pow_add]
      exact Nat.mul_le_mul_right _ (Nat.log2_self_le (by omega))
  have hl52 := Flt.log2_le52 (m := m) (by omega) h2
  have hroom : Room M x := ⟨by omega, by omega⟩
  refine ⟨hroom, ?_⟩
  apply Flt.V_inj
  rw [Flt.V_rungOf _ hM0 (by omega)]
  have key : M * 2 ^ (x + 1074).toNat = m * 2 ^ (e + 1074).toNat := by
    rw [hm, Nat.mul_assoc, ← Nat.pow_add]
    congr 2
    omega
  rw [key]
  by_cases hs : m < 4503599627370496
  · rw [if_pos hs, Nat.zero_mul, Nat.zero_add, Nat.mod_eq_of_lt hs]
    have : (e + 1074).toNat = 0 := by omega
    have e3 : Flt.mant m = m := by unfold Flt.mant; rw [if_pos hs]
    have e4 : Flt.xp m = 0 := by unfold Flt.xp; omega
    unfold Flt.V
    rw [this, e3, e4]
  · rw [if_neg hs]
    have hmod : m % 4503599627370496 = m - 4503599627370496 := by omega
    obtain ⟨z, hz⟩ : ∃ z, z = (e + 1075).toNat * 4503599627370496 + m % 4503599627370496 := ⟨_, rfl⟩
    rw [← hz]
    have i1 : Flt.mant z = m := by rw [Flt.mant_norm (by omega)]; omega
    have i2 : Flt.xp z = (e + 1074).toNat := by unfold Flt.xp; omega
    unfold Flt.V
    rw [i1, i2]
theorem no_room {M k m : Nat} {x e : Int} (hm : m = M * 2 ^ k) (hM0 : 0 < M) (he : e = x - k) (hk : k = 0 ∨ -1074 ≤ e) (h3 : 4503599627370496 ≤ m ∨ e ≤ -1074) (h : e < -1074 ∨ 971 < e) : ¬ Room M x := by
  intro hr
  unfold Room at hr
  have hp : 0 < 2 ^ k := Nat.pow_pos (by decide)
  have hm0 : 0 < M * 2 ^ k := Nat.mul_pos hM0 hp
  rcases h with h | h
  · omega
  · rcases h3 with h3 | h3
    · have h1 : 52 ≤ (M * 2 ^ k).log2 := (Nat.le_log2 (by omega)).2 (by rw [← hm]; exact Nat.le_trans (by decide) h3)
      have h2 : (M * 2 ^ k).log2 < M.log2 + k + 1 := (Nat.log2_lt (by omega)).2 (by
        have := Nat.lt_log2_self (n := M)
        rw [show M.log2 + k + 1 = (M.log2 + 1) + k from by omega, Nat.pow_add]
        exact Nat.mul_lt_mul_of_pos_right this hp)
      omega
    · omega
end Go.Proofs.YtpnbjofddlbagaaDoor
