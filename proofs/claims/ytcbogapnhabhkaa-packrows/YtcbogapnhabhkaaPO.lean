import Derived.Test.YtcbogapnhabhkaaPN
namespace Go.Proofs.Ytcbogapnhabhkaa
open Go Go.RowKit
set_option linter.unusedVariables false
/-- a right value, in parts -/
structure RV (x : V4) : Prop where
  right : rightB x.k x.n x.f ⟨x.s.toArray⟩ = true
  n1 : -9223372036854775808 ≤ x.n
  n2 : x.n ≤ 9223372036854775807
  f : x.f < 18446744073709551616
  s : x.s.length < 18446744073709551616
def V4.row (x : V4) : List UInt8 := rowV x.k x.n x.f x.s
theorem canon_canon (a : Nat) : Flt.canon (Flt.canon a) = Flt.canon a := by
  have h : Flt.isNan 9221120237041090561 = true := by decide
  unfold Flt.canon
  by_cases hn : Flt.isNan a = true
  · rw [if_pos hn, if_pos h]
  · rw [if_neg hn, if_neg hn]
theorem ofk_key (f : Nat) (hf : f < 18446744073709551616) (hc : Flt.canon f = f) : ofk (Flt.kbits f) = some f := by
  have key : okb (Flt.kbits f) = f := by
    unfold okb
    by_cases hn : Flt.isNan f = true
    · rw [Flt.kbits_nan hn]
      have h1 : Flt.canon (if 9223372036854775808 ≤ 18446744073709551615 then 18446744073709551615 - 9223372036854775808 else 18446744073709551615 - 18446744073709551615) = 9221120237041090561 := by decide
      rw [h1]
      unfold Flt.canon at hc
      rw [if_pos hn] at hc
      exact hc
    · have hn' : Flt.isNan f = false := by simpa using hn
      by_cases hs : 9223372036854775808 ≤ f
      · rw [Flt.kbits_neg hn' hs, if_neg (by omega)]
        rw [show 18446744073709551615 - (18446744073709551615 - f) = f by omega]; exact hc
      · rw [Flt.kbits_pos hn' (by omega), if_pos (by omega)]
        rw [show f + 9223372036854775808 - 9223372036854775808 = f by omega]; exact hc
  unfold ofk
  rw [key, if_pos rfl]
theorem ofk_back {K f : Nat} (hK : K < 18446744073709551616) (h : ofk K = some f) : Flt.canon f = f ∧ Flt.kbits f = K ∧ f < 18446744073709551616 := by
  unfold ofk at h
  split at h
  · rename_i hh
    cases h
    exact ⟨canon_canon _, hh, okb_lt K hK⟩
  · cases h
theorem kbits_lt (f : Nat) (h : f < 18446744073709551616) : Flt.kbits f < 18446744073709551616 := by unfold Flt.kbits; (repeat' split) <;> omega
theorem p8 : (256 : Nat) ^ 8 = 18446744073709551616 := by decide
theorem fltR_put (f : Nat) (hf : f < 18446744073709551616) (hc : Flt.canon f = f) (r : List UInt8) : fltR (dig 8 (Flt.kbits f) ++ r) = some (f, r) := by
  have hl := dig_len 8 (Flt.kbits f)
  have ht : (dig 8 (Flt.kbits f) ++ r).take 8 = dig 8 (Flt.kbits f) := by
    conv => lhs; arg 1; rw [← hl]
    exact List.take_left
  have hd : (dig 8 (Flt.kbits f) ++ r).drop 8 = r := by
    conv => lhs; arg 1; rw [← hl]
    exact List.drop_left
  unfold fltR
  rw [ht, hd, valB_dig 8 _ (by rw [p8]; exact kbits_lt f hf), ofk_key f hf hc, if_pos (by rw [List.length_append, hl]; omega)]
  rfl
theorem fltR_back {l r : List UInt8} {f : Nat} (h : fltR l = some (f, r)) : f < 18446744073709551616 ∧ Flt.canon f = f ∧ l = dig 8 (Flt.kbits f) ++ r := by
  unfold fltR at h
  split at h
  · rename_i h8
    rw [Option.map_eq_some_iff] at h
    obtain ⟨f', hf, he⟩ := h
    cases he
    obtain ⟨h1, h2, h3⟩ := ofk_back (val8 l) hf
    refine ⟨h3, h1, ?_⟩
    have hd := dig_valB (l.take 8)
    have hl : (l.take 8).length = 8 := by simp; omega
    rw [hl] at hd
    rw [h2, hd]
    simp
  · cases h
theorem valR_put (x : V4) (hx : RV x) (r : List UInt8) : valR (x.row ++ r) = some (x, r) := by
  obtain ⟨hr, n1, n2, hf, hs⟩ := hx
  obtain ⟨k, n, f, s⟩ := x
  simp only at *
  unfold V4.row
  have hsn : (⟨s.toArray⟩ : ByteArray).toList = s := by rw [Lib.toList_data]
  by_cases h0 : k = 0
  · subst h0
    simp [rightB, hsn] at hr
    obtain ⟨rfl, rfl, rfl⟩ := hr
    rfl
  by_cases h1 : k = 1
  · subst h1
    simp [rightB, hsn] at hr
    obtain ⟨hn, rfl, rfl⟩ := hr
    have e : rowV 1 n 0 [] = 1 :: numB n.toNat := by simp [rowV]
    rw [e]
    show valR (1 :: (numB n.toNat ++ r)) = _
    rw [valR_cons, numR_put _ (by omega)]
    have hle : n.toNat ≤ 1 := by omega
    have hq : ((n.toNat : Nat) : Int) = n := by omega
    simp [hle, hq]
  by_cases h2 : k = 2
  · subst h2
    simp [rightB, hsn] at hr
    obtain ⟨rfl, rfl⟩ := hr
    by_cases hneg : n < 0
    · have e : rowV 2 n 0 [] = 18 :: numB (-1 - n).toNat := by simp [rowV, hneg]
      rw [e]
      show valR (18 :: (numB (-1 - n).toNat ++ r)) = _
      rw [valR_cons, numR_put _ (by omega)]
      have hle : (-1 - n).toNat < 9223372036854775808 := by omega
      simp [hle]
      omega
    · have e : rowV 2 n 0 [] = 2 :: numB n.toNat := by simp [rowV, hneg]
      rw [e]
      show valR (2 :: (numB n.toNat ++ r)) = _
      rw [valR_cons, numR_put _ (by omega)]
      have hle : n.toNat < 9223372036854775808 := by omega
      have hq : ((n.toNat : Nat) : Int) = n := by omega
      simp [hle, hq]
  by_cases h3 : k = 3
  · subst h3
    simp [rightB, hsn] at hr
    obtain ⟨rfl, hc, rfl⟩ := hr
    have e : rowV 3 0 f [] = 3 :: dig 8 (Flt.kbits f) := by simp [rowV]
    rw [e]
    show valR (3 :: (dig 8 (Flt.kbits f) ++ r)) = _
    rw [valR_cons, fltR_put f hf hc.symm]
    simp
  by_cases h4 : k = 4
  · subst h4
    simp [rightB] at hr
    obtain ⟨rfl, rfl⟩ := hr
    have e : rowV 4 0 0 s = 4 :: textB s := by simp [rowV]
    rw [e]
    show valR (4 :: (textB s ++ r)) = _
    rw [valR_cons, textR_put s hs]
    simp
  · simp [rightB, h0, h1, h2, h3, h4] at hr
theorem valR_back {l r : List UInt8} {x : V4} (h : valR l = some (x, r)) : RV x ∧ l = x.row ++ r := by
  have hn0 : (⟨([] : List UInt8).toArray⟩ : ByteArray).toList = [] := by rw [Lib.toList_data]
  cases l with
  | nil => simp [valR] at h
  | cons c t =>
    rw [valR_cons] at h
    by_cases h0 : c = 0
    · rw [if_pos h0] at h; cases h
      exact ⟨⟨by simp [rightB], by simp, by simp, by simp, by simp⟩, by rw [h0]; rfl⟩
    rw [if_neg h0] at h
    by_cases h1 : c = 1
    · rw [if_pos h1] at h
      cases hn : numR t with
      | none => rw [hn] at h; cases h
      | some q =>
        obtain ⟨n, r'⟩ := q
        rw [hn] at h
        obtain ⟨hb, ht⟩ := numR_back hn
        by_cases hs : n ≤ 1
        · simp only [if_pos hs] at h; cases h
          refine ⟨⟨by simp [rightB]; omega, by simp <;> omega, by simp <;> omega, by simp, by simp⟩, ?_⟩
          rw [h1, ht]
          simp [V4.row, rowV]
        · simp only [if_neg hs] at h; cases h
    rw [if_neg h1] at h
    by_cases h2 : c = 2
    · rw [if_pos h2] at h
      cases hn : numR t with
      | none => rw [hn] at h; cases h
      | some q =>
        obtain ⟨n, r'⟩ := q
        rw [hn] at h
        obtain ⟨hb, ht⟩ := numR_back hn
        by_cases hs : n < 9223372036854775808
        · simp only [if_pos hs] at h; cases h
          refine ⟨⟨by simp [rightB], by simp <;> omega, by simp <;> omega, by simp, by simp⟩, ?_⟩
          rw [h2, ht]
          have : ¬ ((n : Int) < 0) := by omega
          simp [V4.row, rowV]
          rw [if_neg this]; rfl
        · simp only [if_neg hs] at h; cases h
    rw [if_neg h2] at h
    by_cases h18 : c = 18
    · rw [if_pos h18] at h
      cases hn : numR t with
      | none => rw [hn] at h; cases h
      | some q =>
        obtain ⟨n, r'⟩ := q
        rw [hn] at h
        obtain ⟨hb, ht⟩ := numR_back hn
        by_cases hs : n < 9223372036854775808
        · simp only [if_pos hs] at h; cases h
          refine ⟨⟨by simp [rightB], by simp <;> omega, by simp <;> omega, by simp, by simp⟩, ?_⟩
          rw [h18, ht]
          have hl : (-1 - (n : Int)) < 0 := by omega
          have hq : (-1 - (-1 - (n : Int))).toNat = n := by omega
          simp [V4.row, rowV, hl, hq]
        · simp only [if_neg hs] at h; cases h
    rw [if_neg h18] at h
    by_cases h3 : c = 3
    · rw [if_pos h3] at h
      cases hn : fltR t with
      | none => rw [hn] at h; cases h
      | some q =>
        obtain ⟨f, r'⟩ := q
        rw [hn] at h
        cases h
        obtain ⟨hf, hc, ht⟩ := fltR_back hn
        refine ⟨⟨by simp [rightB]; exact hc.symm, by simp, by simp, hf, by simp⟩, ?_⟩
        rw [h3, ht]
        simp [V4.row, rowV]
    rw [if_neg h3] at h
    by_cases h4 : c = 4
    · rw [if_pos h4] at h
      cases hn : textR t with
      | none => rw [hn] at h; cases h
      | some q =>
        obtain ⟨s, r'⟩ := q
        rw [hn] at h
        cases h
        obtain ⟨hs, ht⟩ := textR_back hn
        refine ⟨⟨by simp [rightB], by simp, by simp, by simp, hs⟩, ?_⟩
        rw [h4, ht]
        simp [V4.row, rowV]
    rw [if_neg h4] at h
    cases h
theorem row_inj {x y : V4} (hx : RV x) (hy : RV y) {r q : List UInt8} (h : x.row ++ r = y.row ++ q) : x = y := by
  have h1 := valR_put x hx r
  rw [h, valR_put y hy q] at h1
  simp only [Option.some.injEq, Prod.mk.injEq] at h1
  exact h1.1.symm
/-- of two right values: the same row, or the same beginning, just if they are the same -/
theorem row_same {x y : V4} (hx : RV x) (hy : RV y) : (x.row = y.row ↔ x = y) ∧ (x.row.take (min x.row.length y.row.length) = y.row.take (min x.row.length y.row.length) ↔ x = y) := by
  refine ⟨⟨fun h => row_inj hx hy (r := []) (q := []) (by simpa using h), fun h => by rw [h]⟩, ⟨fun h => ?_, fun h => by rw [h]⟩⟩
  rcases Nat.le_total x.row.length y.row.length with hl | hl
  · rw [Nat.min_eq_left hl, List.take_length] at h
    refine row_inj hx hy (r := y.row.drop x.row.length) (q := []) ?_
    rw [List.append_nil]
    conv => lhs; arg 1; rw [h]
    exact List.take_append_drop _ _
  · rw [Nat.min_eq_right hl, List.take_length] at h
    refine (row_inj hy hx (r := x.row.drop y.row.length) (q := []) ?_).symm
    rw [List.append_nil]
    conv => lhs; arg 1; rw [← h]
    exact List.take_append_drop _ _
end Go.Proofs.Ytcbogapnhabhkaa
