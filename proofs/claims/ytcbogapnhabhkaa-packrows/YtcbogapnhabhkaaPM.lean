import Derived.Lib.BitFns
namespace Go.Proofs.Ytcbogapnhabhkaa
open Go
/-- how many bytes a number takes -/
def cntB (n : Nat) : Nat := (Lib.bitLen n + 7) / 8
/-- the lowest k bytes of n, the highest first -/
def dig : Nat → Nat → List UInt8
  | 0, _ => []
  | k + 1, n => UInt8.ofNat (n / 256 ^ k) :: dig k n
def valB (l : List UInt8) : Nat := l.foldl (fun a c => a * 256 + c.toNat) 0
def numB (n : Nat) : List UInt8 := UInt8.ofNat (cntB n) :: dig (cntB n) n
theorem dig_len (k n : Nat) : (dig k n).length = k := by
  induction k with
  | zero => rfl
  | succ k ih => simp [dig, ih]
theorem dig_back (k n : Nat) : dig (k + 1) n = dig k (n / 256) ++ [UInt8.ofNat n] := by
  induction k with
  | zero => simp [dig]
  | succ k ih =>
    rw [dig, ih]
    show _ = (UInt8.ofNat (n / 256 / 256 ^ k) :: dig k (n / 256)) ++ _
    rw [Nat.div_div_eq_div_mul, show 256 * 256 ^ k = 256 ^ (k + 1) from (Nat.pow_succ' ..).symm]
    rfl
theorem valB_snoc (l : List UInt8) (c : UInt8) : valB (l ++ [c]) = valB l * 256 + c.toNat := by simp [valB]
theorem valB_dig (k n : Nat) (h : n < 256 ^ k) : valB (dig k n) = n := by
  induction k generalizing n with
  | zero => simp at h; subst h; rfl
  | succ k ih =>
    rw [dig_back, valB_snoc, ih (n / 256) (by rw [Nat.div_lt_iff_lt_mul (by decide)]; rw [Nat.pow_succ] at h; exact h)]
    have : (UInt8.ofNat n).toNat = n % 256 := by simp
    omega
theorem snoc_ind {P : List UInt8 → Prop} (h0 : P []) (h1 : ∀ l c, P l → P (l ++ [c])) (l : List UInt8) : P l := by
  have : ∀ m : List UInt8, P m.reverse := fun m => by
    induction m with
    | nil => exact h0
    | cons c m ih => simpa using h1 _ c ih
  simpa using this l.reverse
theorem valB_lt (l : List UInt8) : valB l < 256 ^ l.length := by
  refine snoc_ind (P := fun l => valB l < 256 ^ l.length) ?_ ?_ l
  · simp [valB]
  · intro l c ih
    rw [valB_snoc, List.length_append, List.length_singleton, Nat.pow_succ]
    have := c.toNat_lt
    omega
theorem dig_valB (l : List UInt8) : dig l.length (valB l) = l := by
  refine snoc_ind (P := fun l => dig l.length (valB l) = l) rfl ?_ l
  intro l c ih
  have hc := c.toNat_lt
  rw [List.length_append, List.length_singleton, dig_back, valB_snoc]
  rw [show (valB l * 256 + c.toNat) / 256 = valB l by omega, ih]
  congr 2
  apply UInt8.toNat_inj.1
  simp
theorem cnt_zero : cntB 0 = 0 := by decide
theorem cnt_step (n : Nat) (h0 : n ≠ 0) (h : n < 18446744073709551616) : cntB n = cntB (n / 256) + 1 := by
  unfold cntB
  by_cases hs : n < 256
  · have h1 : ∀ m : Fin 256, m.val ≠ 0 → (Lib.bitLen m.val + 7) / 8 = 1 := by decide +kernel
    rw [h1 ⟨n, hs⟩ h0, Nat.div_eq_of_lt hs]
    decide
  · rw [Lib.bitLen_shift8 n (by omega) h]
    omega
/-- the number of bytes k: n has room in k bytes, and not in one less -/
theorem cnt_spec : ∀ (k n : Nat), n < 18446744073709551616 → cntB n = k → n < 256 ^ k ∧ (k = 0 ∨ 256 ^ (k - 1) ≤ n) := by
  intro k
  induction k with
  | zero =>
    intro n h e
    by_cases h0 : n = 0
    · subst h0; simp
    · have := cnt_step n h0 h; omega
  | succ k ih =>
    intro n h e
    have h0 : n ≠ 0 := by rintro rfl; rw [cnt_zero] at e; omega
    have h1 := cnt_step n h0 h
    have h2 := ih (n / 256) (by omega) (by omega)
    refine ⟨?_, .inr ?_⟩
    · rw [Nat.pow_succ]; exact (Nat.div_lt_iff_lt_mul (by decide)).1 h2.1
    · rcases h2.2 with rfl | h3
      · simp; omega
      · cases k with
        | zero => simp; omega
        | succ k =>
          simp only [Nat.add_sub_cancel] at h3 ⊢
          rw [Nat.pow_succ]
          omega
theorem cnt_of : ∀ (k n : Nat), n < 18446744073709551616 → n < 256 ^ k → (k = 0 ∨ 256 ^ (k - 1) ≤ n) → cntB n = k := by
  intro k
  induction k with
  | zero => intro n h h1 _; have : n = 0 := by simpa using h1
            subst this; exact cnt_zero
  | succ k ih =>
    intro n h h1 h2
    have h3 : 256 ^ k ≤ n := by simpa using h2
    have h0 : n ≠ 0 := by have := Nat.pow_pos (n := k) (show 0 < 256 by decide); omega
    rw [cnt_step n h0 h, ih (n / 256) (by omega) (by rw [Nat.div_lt_iff_lt_mul (by decide), ← Nat.pow_succ]; exact h1)]
    cases k with
    | zero => exact .inl rfl
    | succ k =>
      refine .inr ?_
      rw [Nat.pow_succ] at h3
      simp only [Nat.add_sub_cancel]
      rw [Nat.le_div_iff_mul_le (by decide)]
      exact h3
theorem cnt_le (n : Nat) (h : n < 18446744073709551616) : cntB n ≤ 8 := by
  have h1 := Lib.bitLen_le n 64 (by omega) (by omega)
  unfold cntB
  omega
/-- what a reader makes of bytes: the number, and what is left -/
def numR : List UInt8 → Option (Nat × List UInt8)
  | [] => none
  | c :: r => if c.toNat ≤ 8 ∧ c.toNat ≤ r.length ∧ (c.toNat = 0 ∨ valB (r.take c.toNat) / 256 ^ (c.toNat - 1) ≠ 0) then some (valB (r.take c.toNat), r.drop c.toNat) else none
theorem numR_cons (c : UInt8) (r : List UInt8) : numR (c :: r) = if c.toNat ≤ 8 ∧ c.toNat ≤ r.length ∧ (c.toNat = 0 ∨ valB (r.take c.toNat) / 256 ^ (c.toNat - 1) ≠ 0) then some (valB (r.take c.toNat), r.drop c.toNat) else none := rfl
theorem pow_le8 (k : Nat) (h : k ≤ 8) : 256 ^ k ≤ 18446744073709551616 :=
  Nat.le_trans (Nat.pow_le_pow_right (by decide) h) (by decide)
theorem numR_put (n : Nat) (h : n < 18446744073709551616) (r : List UInt8) : numR (numB n ++ r) = some (n, r) := by
  have hc := cnt_le n h
  have hs := cnt_spec _ n h rfl
  have hl := dig_len (cntB n) n
  have hk : (UInt8.ofNat (cntB n)).toNat = cntB n := by simp; omega
  have ht : (dig (cntB n) n ++ r).take (cntB n) = dig (cntB n) n := by
    conv => lhs; arg 1; rw [← hl]
    exact List.take_left
  have hd : (dig (cntB n) n ++ r).drop (cntB n) = r := by
    conv => lhs; arg 1; rw [← hl]
    exact List.drop_left
  show numR (_ :: (dig (cntB n) n ++ r)) = _
  rw [numR_cons, hk, ht, hd, valB_dig _ _ hs.1, if_pos]
  refine ⟨hc, by simp [hl], ?_⟩
  rcases hs.2 with h0 | h1
  · exact .inl h0
  · exact .inr (by have := Nat.div_pos h1 (Nat.pow_pos (by decide)); omega)
theorem numR_back {l : List UInt8} {n : Nat} {r : List UInt8} (h : numR l = some (n, r)) : n < 18446744073709551616 ∧ l = numB n ++ r := by
  cases l with
  | nil => simp [numR] at h
  | cons c t =>
    rw [numR_cons] at h
    split at h
    · rename_i hh
      obtain ⟨h8, hl, hz⟩ := hh
      simp only [Option.some.injEq, Prod.mk.injEq] at h
      obtain ⟨rfl, rfl⟩ := h
      have hlen : (t.take c.toNat).length = c.toNat := by simp; omega
      have hlt := valB_lt (t.take c.toNat)
      rw [hlen] at hlt
      have hb := Nat.lt_of_lt_of_le hlt (pow_le8 _ h8)
      have hcnt : cntB (valB (t.take c.toNat)) = c.toNat := cnt_of _ _ hb hlt (by
        rcases hz with h0 | h1
        · exact .inl h0
        · refine .inr ?_
          by_cases hq : 256 ^ (c.toNat - 1) ≤ valB (t.take c.toNat)
          · exact hq
          · exact absurd (Nat.div_eq_of_lt (by omega)) h1)
      refine ⟨hb, ?_⟩
      unfold numB
      rw [hcnt]
      have hdv := dig_valB (t.take c.toNat)
      rw [hlen] at hdv
      rw [hdv]
      have : UInt8.ofNat c.toNat = c := by simp
      rw [this]
      simp
    · cases h
def textB (s : List UInt8) : List UInt8 := numB s.length ++ s
def textR (l : List UInt8) : Option (List UInt8 × List UInt8) :=
  match numR l with
  | some (n, r) => if n ≤ r.length then some (r.take n, r.drop n) else none
  | none => none
theorem textR_put (s : List UInt8) (h : s.length < 18446744073709551616) (r : List UInt8) : textR (textB s ++ r) = some (s, r) := by
  unfold textR textB
  rw [List.append_assoc, numR_put _ h]
  simp
theorem textR_back {l s r : List UInt8} (h : textR l = some (s, r)) : s.length < 18446744073709551616 ∧ l = textB s ++ r := by
  unfold textR at h
  split at h
  · rename_i n t hn
    split at h
    · rename_i hle
      simp only [Option.some.injEq, Prod.mk.injEq] at h
      obtain ⟨rfl, rfl⟩ := h
      obtain ⟨hb, rfl⟩ := numR_back hn
      have hlen : (t.take n).length = n := by simp; omega
      refine ⟨by omega, ?_⟩
      unfold textB
      rw [hlen]; simp
    · cases h
  · cases h
/-- a cut row is none: of any reader whose rows are read with anything behind, and that reads nothing else -/
theorem cut_none {α : Type} {R : List UInt8 → Option (α × List UInt8)} {B : α → List UInt8} {P : α → Prop} (hput : ∀ x, P x → ∀ r, R (B x ++ r) = some (x, r))
    (hback : ∀ l x r, R l = some (x, r) → P x ∧ l = B x ++ r) (x : α) (hx : P x) (k : Nat) (hk : k < (B x).length) : R ((B x).take k) = none := by
  cases hR : R ((B x).take k) with
  | none => rfl
  | some q =>
    obtain ⟨y, r⟩ := q
    obtain ⟨hy, e⟩ := hback _ _ _ hR
    have h1 := hput y hy (r ++ (B x).drop k)
    rw [← List.append_assoc, ← e, List.take_append_drop] at h1
    have h2 := hput x hx []
    rw [List.append_nil, h1] at h2
    simp only [Option.some.injEq, Prod.mk.injEq, List.append_eq_nil_iff] at h2
    have := congrArg List.length h2.2.2
    simp at this
    omega
end Go.Proofs.Ytcbogapnhabhkaa
