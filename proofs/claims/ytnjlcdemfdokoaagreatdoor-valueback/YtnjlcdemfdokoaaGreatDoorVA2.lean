import Derived.Test.YtnjlcdemfdokoaaGreatDoorVz
import Derived.Test.YtnjlcdemfdokoaaGreatDoorVp
namespace Go.Proofs.YtnjlcdemfdokoaaGreatDoor
open Go Go.RowKit
set_option linter.unusedVariables false
theorem dec_len_pw : ∀ (k n : Nat), n < 10 ^ (k + 1) → (Lib.decDigits n).length ≤ k + 1
  | 0, n, h => by rw [Lib.decDigits_one (by simpa using h)]; simp
  | k + 1, n, h => by
    by_cases h10 : n < 10
    · rw [Lib.decDigits_one h10]; simp
    · rw [Lib.decDigits, dif_neg h10]
      rw [Nat.pow_succ] at h
      have := dec_len_pw k (n / 10) (by omega)
      simp
      omega
theorem pi64_itoa {x : Int} (h1 : -9223372036854775808 ≤ x) (h2 : x ≤ 9223372036854775807) : Lib.parseIntB 64 (Lib.itoa x) = .ok x := by
  have e : (2 : Nat) ^ 64 - 1 = 18446744073709551615 := by decide
  have e' : (2 : Nat) ^ (64 - 1) = 9223372036854775808 := by decide
  by_cases hx : x < 0
  · have hi : Lib.itoa x = 45 :: Lib.decDigits x.natAbs := by unfold Lib.itoa; rw [if_pos hx]
    rw [hi]
    unfold Lib.parseIntB
    simp only []
    rw [if_pos (Or.inr (by decide))]
    have hp : Lib.parseUintB 64 (Lib.decDigits x.natAbs) = .ok x.natAbs := by
      unfold Lib.parseUintB
      rw [if_neg (dec_ne _), e]
      exact parseM_dec 18446744073709551615 (by decide) _ (by omega)
    rw [hp]
    simp only []
    rw [if_neg (by intro h; exact h.1 (by decide)), if_neg (by rw [e']; intro h; omega), if_pos (by decide)]
    congr 1
    omega
  · have hi : Lib.itoa x = Lib.decDigits x.toNat := by unfold Lib.itoa; rw [if_neg hx]
    rw [hi]
    have hp : Lib.parseUintB 64 (Lib.decDigits x.toNat) = .ok x.toNat := by
      unfold Lib.parseUintB
      rw [if_neg (dec_ne _), e]
      exact parseM_dec 18446744073709551615 (by decide) _ (by omega)
    have hd := dec_digits x.toNat
    have hne := dec_ne x.toNat
    generalize Lib.decDigits x.toNat = l at *
    cases l with
    | nil => exact absurd rfl hne
    | cons c r =>
      have hc := hd c (by simp)
      unfold Lib.parseIntB
      simp only []
      rw [if_neg (by omega), hp]
      simp only []
      rw [if_neg (by rw [e']; intro h; omega), if_neg (by intro h; omega), if_neg (by omega)]
      congr 1
      omega
/-- a value, written -/
def textV (k n : Int) (f : Nat) (s : ByteArray) : List UInt8 :=
  if k = 0 then [110, 117, 108, 108] else if k = 1 then (if n = 1 then [116, 114, 117, 101] else [102, 97, 108, 115, 101]) else if k = 2 then Lib.itoa n else if k = 3 then Flt.text f else 39 :: escL s.data.toList ++ [39]
theorem text_right (k n : Int) (f : Nat) (s : ByteArray) (n1 : -9223372036854775808 ≤ n) (n2 : n ≤ 9223372036854775807) (hf : f < 18446744073709551616) (hs : s.size ≤ 1000000) (r : rightB k n f s = true) (w : World) (hT : Tabs w) :
    Calls Tryz.prog 27 #[.agg #[.int .i64 k, .int .i64 n, .float .f64 f, .string s]] w fun e w' => e = .returned (.tuple #[.string ⟨(textV k n f s).toArray⟩, .int .i64 0]) ∧ Below w.heap.size w w' := by
  have R := right_any k n f hf s
  rw [r] at R
  by_cases k0 : k = 0
  · subst k0; exact tx0 n f s R w hT
  by_cases k1 : k = 1
  · subst k1
    refine (tx1 n f s R _ rfl w hT).mono fun e w' ⟨he, hw⟩ => ⟨?_, hw⟩
    rw [he]
    by_cases hn : n = 1
    · subst hn; rfl
    · have : (n == 1) = false := by simpa using hn
      rw [this]; simp only [textV, hn, if_neg (show ¬ (1 : Int) = 0 by decide), if_true, if_false]; rfl
  by_cases k2 : k = 2
  · subst k2; exact tx2 n f s R n1 n2 w hT
  by_cases k3 : k = 3
  · subst k3; exact tx3 n f s R hf w hT
  by_cases k4 : k = 4
  · subst k4; exact tx4 n f s R _ (quoted_any s hs) w hT
  · exfalso
    simp [rightB, k0, k1, k2, k3, k4] at r
/-- a text without quotes, with a blank behind, is read -/
theorem plain_read (t x : List UInt8) (v : Int × Int × Nat) (hp : ∀ c ∈ t, plainB c = true) (h1 : 1 ≤ t.length) (h2 : t.length ≤ 23) (hr : rpSem t = some v) : vrdSem (t ++ 32 :: x) = some (t.length, v.1, v.2.1, v.2.2, []) := by
  have hrun : runN 23 t = t.length := runN_at 23 t t.length h2 (Nat.le_refl _) (fun j hj => ⟨t[j], List.getElem?_eq_getElem hj, hp _ (List.getElem_mem hj)⟩) (Or.inr (Or.inl rfl))
  unfold vrdSem
  have hne : ¬ Lib.hasPrefix (t ++ 32 :: x) [39] = true := by
    rw [hp_iff]
    cases t with
    | nil => simp at h1
    | cons c t =>
      simp
      intro hc
      have := hp c (by simp)
      rw [hc] at this
      exact absurd this (by decide)
  rw [if_neg hne, runN_app, hrun, findR_app _ _ _ (Nat.le_refl _)]
  obtain ⟨m, hm⟩ : ∃ m, t.length = m + 1 := ⟨t.length - 1, by omega⟩
  rw [hm]
  simp only [findR]
  rw [← hm, List.take_length, hr]
  rfl
theorem plain_digit {c : UInt8} (h : 48 ≤ c.toNat ∧ c.toNat ≤ 57) : plainB c = true := by
  unfold plainB
  simp [UInt8.le_iff_toNat_le]
  omega
theorem plain_itoa (x : Int) : ∀ c ∈ Lib.itoa x, plainB c = true := by
  intro c hc
  unfold Lib.itoa at hc
  split at hc
  · rcases List.mem_cons.1 hc with rfl | h
    · decide
    · exact plain_digit (dec_digits _ c h)
  · exact plain_digit (dec_digits _ c hc)
theorem itoa_chars (x : Int) : ∀ c ∈ Lib.itoa x, c.toNat ≤ 57 := by
  intro c hc
  unfold Lib.itoa at hc
  split at hc
  · rcases List.mem_cons.1 hc with rfl | h
    · decide
    · exact (dec_digits _ c h).2
  · exact (dec_digits _ c hc).2
theorem itoa_pos (x : Int) : 1 ≤ (Lib.itoa x).length := by
  unfold Lib.itoa
  split
  · simp
  · have := dec_ne x.toNat
    cases h : Lib.decDigits x.toNat with
    | nil => exact absurd h this
    | cons c l => simp
theorem rp_itoa (x : Int) (h1 : -9223372036854775808 ≤ x) (h2 : x ≤ 9223372036854775807) : rpSem (Lib.itoa x) = some (2, x, 0) := by
  have hc := itoa_chars x
  have n1 : Lib.itoa x ≠ [110, 117, 108, 108] := fun q => by have := hc 110 (by rw [q]; simp); exact absurd this (by decide)
  have n2 : Lib.itoa x ≠ [102, 97, 108, 115, 101] := fun q => by have := hc 102 (by rw [q]; simp); exact absurd this (by decide)
  have n3 : Lib.itoa x ≠ [116, 114, 117, 101] := fun q => by have := hc 116 (by rw [q]; simp); exact absurd this (by decide)
  unfold rpSem
  rw [if_neg n1, if_neg n2, if_neg n3, pi64_itoa h1 h2]
  simp
/-- a float's text: plain bytes, a letter among them, at most twenty-three -/
theorem ftext_facts (a : Nat) (ha : a < 18446744073709551616) : (∀ c ∈ Flt.text a, plainB c = true) ∧ (∃ c ∈ Flt.text a, 97 ≤ c.toNat) ∧ 1 ≤ (Flt.text a).length ∧ (Flt.text a).length ≤ 23 ∧ Flt.text a ≠ [110, 117, 108, 108] ∧ Flt.text a ≠ [102, 97, 108, 115, 101] ∧ Flt.text a ≠ [116, 114, 117, 101] := by
  by_cases hn : Flt.isNan a = true
  · have e : Flt.text a = [110, 97, 110] := by unfold Flt.text; rw [if_pos hn]
    rw [e]
    refine ⟨by decide, ⟨110, by simp, by decide⟩, by decide, by decide, by decide, by decide, by decide⟩
  by_cases h1 : a = 9218868437227405312
  · have e : Flt.text a = [105, 110, 102] := by unfold Flt.text; rw [if_neg hn, if_pos h1]
    rw [e]
    refine ⟨by decide, ⟨110, by simp, by decide⟩, by decide, by decide, by decide, by decide, by decide⟩
  by_cases h2 : a = 18442240474082181120
  · have e : Flt.text a = [45, 105, 110, 102] := by unfold Flt.text; rw [if_neg hn, if_neg h1, if_pos h2]
    rw [e]
    refine ⟨by decide, ⟨110, by simp, by decide⟩, by decide, by decide, by decide, by decide, by decide⟩
  have hn' : Flt.isNan a = false := by simpa using hn
  have hr : Flt.rung a < 9218868437227405312 := by
    unfold Flt.isNan Flt.rung at hn'
    unfold Flt.rung
    simp at hn'
    omega
  have e : Flt.text a = (if Flt.neg a = true then [45] else []) ++ (Lib.decDigits (Flt.oddM (Flt.rung a)) ++ (112 :: Lib.itoa (Flt.oddE (Flt.rung a)))) := by unfold Flt.text; rw [if_neg hn, if_neg h1, if_neg h2]
  have hM := Flt.oddM_lt (Flt.rung a)
  have hE := Flt.oddE_bounds hr
  have p16 : (10 : Nat) ^ (15 + 1) = 10000000000000000 := by decide
  have lM : (Lib.decDigits (Flt.oddM (Flt.rung a))).length ≤ 16 := dec_len_pw 15 _ (by omega)
  have lE : (Lib.itoa (Flt.oddE (Flt.rung a))).length ≤ 5 := by
    unfold Lib.itoa
    have e4 : (10 : Nat) ^ (3 + 1) = 10000 := by decide
    split
    · have := dec_len_pw 3 (Flt.oddE (Flt.rung a)).natAbs (by omega)
      simp; omega
    · have := dec_len_pw 3 (Flt.oddE (Flt.rung a)).toNat (by omega)
      omega
  have hp : (112 : UInt8) ∈ Flt.text a := by rw [e]; simp
  refine ⟨?_, ⟨112, hp, by decide⟩, ?_, ?_, ?_, ?_, ?_⟩
  · rw [e]
    intro c hc
    rcases List.mem_append.1 hc with h | h
    · split at h
      · simp at h; subst h; decide
      · simp at h
    · rcases List.mem_append.1 h with h | h
      · exact plain_digit (dec_digits _ c h)
      · rcases List.mem_cons.1 h with rfl | h
        · decide
        · exact plain_itoa _ c h
  · rw [e]; simp; omega
  · rw [e]
    have : (if Flt.neg a = true then [(45 : UInt8)] else []).length ≤ 1 := by split <;> simp
    simp only [List.length_append, List.length_cons]
    omega
  · intro q; rw [q] at hp; exact absurd hp (by decide)
  · intro q; rw [q] at hp; exact absurd hp (by decide)
  · intro q; rw [q] at hp; exact absurd hp (by decide)
theorem rp_float (a : Nat) (ha : a < 18446744073709551616) (hc : Flt.canon a = a) : rpSem (Flt.text a) = some (3, 0, a) := by
  obtain ⟨_, ⟨c, hm, hl⟩, _, _, n1, n2, n3⟩ := ftext_facts a ha
  unfold rpSem
  rw [if_neg n1, if_neg n2, if_neg n3, parseSem_text ha, hc]
  split
  · rename_i v _
    rw [if_neg (fun q => by have := itoa_chars v c (by rw [q]; exact hm); omega)]
    rfl
  · rfl
theorem rq_write (r : List UInt8) : ∀ (u acc : List UInt8) (g i : Nat), u.length < g → rq g (escL u ++ 39 :: r) acc i = some (acc ++ u, i + (escL u).length + 1)
  | [], acc, g, i, h => by
    obtain ⟨g', rfl⟩ : ∃ g', g = g' + 1 := ⟨g - 1, by omega⟩
    simp [escL, rq]
  | c :: u, acc, g, i, h => by
    obtain ⟨g', rfl⟩ : ∃ g', g = g' + 1 := ⟨g - 1, by simp at h; omega⟩
    have ih := rq_write r u (acc ++ [c]) g'
    simp at h
    by_cases c1 : c = 92 ∨ c = 39
    · have e : escW c = [92, c] := by unfold escW; rw [if_pos c1]
      have hb : escB c = some c := by unfold escB; rw [if_pos c1]
      simp only [escL, e, List.cons_append, List.nil_append, rq]
      rw [if_neg (by decide), if_neg (by decide), if_pos trivial]
      simp only [hb]
      rw [ih (i + 2) (by omega)]
      simp; omega
    · by_cases c2 : c = 10
      · have e : escW c = [92, 110] := by unfold escW; rw [if_neg c1, if_pos c2]
        simp only [escL, e, List.cons_append, List.nil_append, rq]
        rw [if_neg (by decide), if_neg (by decide), if_pos trivial]
        have hb : escB 110 = some 10 := by decide
        simp only [hb]
        rw [← c2, ih (i + 2) (by omega)]
        simp; omega
      · have e : escW c = [c] := by unfold escW; rw [if_neg c1, if_neg c2]
        simp only [escL, e, List.cons_append, List.nil_append, rq]
        rw [if_neg (fun q => c1 (Or.inr q)), if_neg c2, if_neg (fun q => c1 (Or.inl q)), ih (i + 1) (by omega)]
        simp; omega
theorem rq_read : ∀ (g : Nat) (l acc : List UInt8) (i : Nat) (t : List UInt8) (n : Nat), rq g l acc i = some (t, n) → ∃ u, t = acc ++ u ∧ l.take (n - i) = escL u ++ [39]
  | 0, _, _, _, _, _, h => by simp [rq] at h
  | g + 1, [], _, _, _, _, h => by simp [rq] at h
  | g + 1, c :: l, acc, i, t, n, h => by
    have hs := rq_some (g + 1) (c :: l) acc i t n h
    simp only [rq] at h
    by_cases c1 : c = 39
    · rw [if_pos c1] at h
      simp at h
      obtain ⟨rfl, rfl⟩ := h
      exact ⟨[], by simp, by rw [show i + 1 - i = 1 from by omega]; simp [escL, c1]⟩
    rw [if_neg c1] at h
    by_cases c2 : c = 10
    · rw [if_pos c2] at h; cases h
    rw [if_neg c2] at h
    by_cases c3 : c = 92
    · rw [if_pos c3] at h
      cases l with
      | nil => simp at h
      | cons d l' =>
        simp only at h
        cases he : escB d with
        | none => rw [he] at h; simp at h
        | some e =>
          rw [he] at h
          simp only at h
          obtain ⟨u, rfl, hu⟩ := rq_read g l' (acc ++ [e]) (i + 2) t n h
          have h3 := (rq_some g l' (acc ++ [e]) (i + 2) _ n h).1
          refine ⟨e :: u, by simp, ?_⟩
          rw [show n - i = (n - (i + 2)) + 1 + 1 from by omega]
          simp only [List.take_succ_cons, hu, escL]
          have : escW e = [92, d] := by
            unfold escB at he
            split at he
            · rename_i hd
              simp at he; subst he
              unfold escW; rw [if_pos hd]
            · split at he
              · rename_i hd
                simp at he; subst he; subst hd
                decide
              · cases he
          rw [this, c3]; simp
    · rw [if_neg c3] at h
      obtain ⟨u, rfl, hu⟩ := rq_read g l (acc ++ [c]) (i + 1) t n h
      have h3 := (rq_some g l (acc ++ [c]) (i + 1) _ n h).1
      refine ⟨c :: u, by simp, ?_⟩
      rw [show n - i = (n - (i + 1)) + 1 from by omega]
      simp only [List.take_succ_cons, hu, escL]
      have : escW c = [c] := by unfold escW; rw [if_neg (by intro q; rcases q with q | q; exact c3 q; exact c1 q), if_neg c2]
      rw [this]; simp
/-- what is written, with a blank behind, is read -/
theorem fwd (k n : Int) (f : Nat) (s : ByteArray) (x : List UInt8) (n1 : -9223372036854775808 ≤ n) (n2 : n ≤ 9223372036854775807) (hf : f < 18446744073709551616) (r : rightB k n f s = true) : vrdSem (textV k n f s ++ 32 :: x) = some ((textV k n f s).length, k, n, f, s.data.toList) := by
  have el : s.toList = s.data.toList := Lib.toList_data s
  unfold rightB at r
  by_cases k0 : k = 0
  · subst k0
    simp [el] at r
    obtain ⟨rfl, rfl, r3⟩ := r
    rw [r3]
    exact plain_read [110, 117, 108, 108] x (0, 0, 0) (by decide) (by decide) (by decide) (by simp [rpSem])
  rw [if_neg k0] at r
  by_cases k1 : k = 1
  · subst k1
    simp [el] at r
    obtain ⟨r1, rfl, r3⟩ := r
    rw [r3]
    rcases r1 with rfl | rfl
    · exact plain_read [102, 97, 108, 115, 101] x (1, 0, 0) (by decide) (by decide) (by decide) (by simp [rpSem])
    · exact plain_read [116, 114, 117, 101] x (1, 1, 0) (by decide) (by decide) (by decide) (by simp [rpSem])
  rw [if_neg k1] at r
  by_cases k2 : k = 2
  · subst k2
    simp [el] at r
    obtain ⟨rfl, r3⟩ := r
    rw [r3]
    exact plain_read (Lib.itoa n) x (2, n, 0) (plain_itoa n) (itoa_pos n) (by have := Flt.itoa_len n1 n2; omega) (rp_itoa n n1 n2)
  rw [if_neg k2] at r
  by_cases k3 : k = 3
  · subst k3
    simp [el] at r
    obtain ⟨rfl, r2, r3⟩ := r
    rw [r3]
    obtain ⟨a, _, b, c, _⟩ := ftext_facts f hf
    exact plain_read (Flt.text f) x (3, 0, f) a b c (rp_float f hf r2.symm)
  rw [if_neg k3] at r
  by_cases k4 : k = 4
  · subst k4
    simp at r
    obtain ⟨rfl, rfl⟩ := r
    have et : textV 4 0 0 s = 39 :: (escL s.data.toList ++ [39]) := rfl
    rw [et]
    unfold vrdSem
    rw [if_pos (by rw [hp_iff]; simp)]
    simp only [List.cons_append, List.drop_succ_cons, List.drop_zero, List.append_assoc, List.nil_append]
    have hl : s.data.toList.length ≤ (escL s.data.toList).length := by
      generalize s.data.toList = l
      induction l with
      | nil => simp
      | cons c l ih => have : 1 ≤ (escW c).length := by unfold escW; (repeat' split) <;> simp
                       simp [escL]; omega
    rw [rq_write (32 :: x) s.data.toList [] _ 1 (by simp only [List.length_cons, List.length_append]; omega)]
    simp; omega
  · rw [if_neg k4] at r; cases r
/-- what is read is right, and its text is what stands there -/
theorem bwd (l : List UInt8) (m : Nat) (k n : Int) (f : Nat) (t : List UInt8) (h : vrdSem l = some (m, k, n, f, t)) : rightB k n f ⟨t.toArray⟩ = true ∧ textV k n f ⟨t.toArray⟩ = l.take m ∧ -9223372036854775808 ≤ n ∧ n ≤ 9223372036854775807 ∧ t.length ≤ l.length := by
  have el : ∀ t : List UInt8, (ByteArray.mk t.toArray).toList = t := fun t => by rw [Lib.toList_data]
  unfold vrdSem at h
  by_cases hq : Lib.hasPrefix l [39] = true
  · rw [if_pos hq] at h
    have hh := (hp_iff l).1 hq
    obtain ⟨c, l', rfl⟩ : ∃ c l', l = c :: l' := by cases l with | nil => simp at hh | cons c l' => exact ⟨c, l', rfl⟩
    simp only [List.head?_cons, Option.some.injEq] at hh
    subst hh
    cases hr : rq ((39 :: l').length + 1) ((39 :: l').drop 1) [] 1 with
    | none => rw [hr] at h; simp at h
    | some p =>
      obtain ⟨t', m'⟩ := p
      rw [hr] at h
      simp at h
      obtain ⟨rfl, rfl, rfl, rfl, rfl⟩ := h
      simp only [List.drop_succ_cons, List.drop_zero] at hr
      obtain ⟨u, hu1, hu2⟩ := rq_read _ _ _ _ _ _ hr
      simp at hu1
      subst hu1
      obtain ⟨a, b, _⟩ := rq_some _ _ _ _ _ _ hr
      refine ⟨by simp [rightB], ?_, by decide, by decide, ?_⟩
      · obtain ⟨q, rfl⟩ : ∃ q, m' = q + 1 := ⟨m' - 1, by omega⟩
        rw [List.take_succ_cons, ← (show q + 1 - 1 = q from by omega), hu2]
        rfl
      · have hl : t'.length ≤ (escL t').length := by
          generalize t' = l
          induction l with
          | nil => simp
          | cons c l ih => have : 1 ≤ (escW c).length := by unfold escW; (repeat' split) <;> simp
                           simp [escL]; omega
        have := congrArg List.length hu2
        simp at this ⊢
        omega
  · rw [if_neg hq] at h
    cases hr : findR l (runN 23 l) with
    | none => rw [hr] at h; simp at h
    | some p =>
      obtain ⟨m', k', n', f'⟩ := p
      rw [hr] at h
      simp at h
      obtain ⟨rfl, rfl, rfl, rfl, rfl⟩ := h
      obtain ⟨_, _, c⟩ := findR_some l _ _ _ hr
      generalize l.take m' = L at c ⊢
      have fl : ∀ {g}, (parseSem L).map (fun f => ((3 : Int), (0 : Int), f)) = some g → g = (k', n', f') → rightB k' n' f' ⟨#[]⟩ = true ∧ textV k' n' f' ⟨#[]⟩ = L ∧ -9223372036854775808 ≤ n' ∧ n' ≤ 9223372036854775807 := fun {g} h1 h2 => by
        cases hq : parseSem L with
        | none => rw [hq] at h1; cases h1
        | some y =>
          rw [hq] at h1
          simp at h1
          rw [← h1] at h2
          simp at h2
          obtain ⟨rfl, rfl, rfl⟩ := h2
          obtain ⟨a, b, c⟩ := parseSem_some hq
          exact ⟨by simp [rightB, c], by simp [textV, b], by decide, by decide⟩
      have main : rightB k' n' f' ⟨#[]⟩ = true ∧ textV k' n' f' ⟨#[]⟩ = L ∧ -9223372036854775808 ≤ n' ∧ n' ≤ 9223372036854775807 := by
        unfold rpSem at c
        split at c
        · rename_i e; simp at c; obtain ⟨rfl, rfl, rfl⟩ := c; exact ⟨by simp [rightB], by simp [textV, e], by decide, by decide⟩
        split at c
        · rename_i e; simp at c; obtain ⟨rfl, rfl, rfl⟩ := c; exact ⟨by simp [rightB], by simp [textV, e], by decide, by decide⟩
        split at c
        · rename_i e; simp at c; obtain ⟨rfl, rfl, rfl⟩ := c; exact ⟨by simp [rightB], by simp [textV, e], by decide, by decide⟩
        split at c
        · rename_i v hv
          split at c
          · rename_i e; simp at c; obtain ⟨rfl, rfl, rfl⟩ := c
            have := pi64_le hv
            exact ⟨by simp [rightB], by simp [textV, e], this.1, this.2⟩
          · exact fl c rfl
        · exact fl c rfl
      exact ⟨main.1, main.2.1, main.2.2.1, main.2.2.2, by simp⟩
end Go.Proofs.YtnjlcdemfdokoaaGreatDoor
