import Derived.Test.YtainigcchlgehaaGreatDoorXQ2
namespace Go.Proofs.YtainigcchlgehaaGreatDoor
open Go Go.ChangeShapes Go.WideShapes Go.ChangeAt Go.RowKit
open Go.Joins
set_option linter.unusedVariables false
/-! ### the reference's token at a place, whole -/
theorem one_digits : ((List.range 256).all fun n => !digitB n || (rpSem [UInt8.ofNat n]).isSome) = true := by kernel_rfl
theorem plain_digits : ((List.range 256).all fun n => !digitB n || plainB (UInt8.ofNat n)) = true := by kernel_rfl
theorem numN_pos {c : UInt8} {t : Bt} (h : digitB c.toNat = true) : numN (c :: t) ≠ 0 := by
  have hc : c.toNat < 256 := c.toNat_lt
  have h1 := List.all_eq_true.1 one_digits c.toNat (List.mem_range.2 hc)
  have h2 := List.all_eq_true.1 plain_digits c.toNat (List.mem_range.2 hc)
  rw [UInt8.ofNat_toNat, h] at h1 h2
  simp only [Bool.not_true, Bool.false_or] at h1 h2
  have h39 : c ≠ 39 := by rintro rfl; revert h; decide
  have hv : vrdSem (c :: t) = (findR (c :: t) (runN 23 (c :: t))).map fun p => (p.1, p.2.1, p.2.2.1, p.2.2.2, []) := by
    unfold vrdSem
    rw [if_neg (by rw [hp_no h39]; decide)]
  have hr : 1 ≤ runN 23 (c :: t) := by
    show 1 ≤ (if plainB c = true then runN 22 t + 1 else 0)
    rw [if_pos h2]; omega
  cases hf : findR (c :: t) (runN 23 (c :: t)) with
  | none =>
    have := findR_none hf 1 hr
    have e : findR (c :: t) 1 = (match rpSem [c] with | some v => some (1, v) | none => none) := rfl
    rw [e] at this
    cases hx : rpSem [c] with
    | none => rw [hx] at h1; cases h1
    | some v => rw [hx] at this; cases this
  | some q =>
    obtain ⟨n, v⟩ := q
    have hn := (findR_some _ _ _ _ hf).2.1
    unfold numN
    rw [hv, hf]
    show max n _ ≠ 0
    omega
theorem keysB_L : keysB.map (fun b => b.data.toList) = keysL := rfl
theorem inB_keys (V : ByteArray) : inB keysB V = isKeyB V.data.toList := by
  rw [Bool.eq_iff_iff]
  unfold inB isKeyB
  rw [List.any_eq_true, List.contains_iff_mem, ← keysB_L, List.mem_map]
  refine exists_congr fun b => and_congr Iff.rfl ?_
  rw [beq_iff_eq, Lib.toList_data, Lib.toList_data]
theorem keys_words : (keysL.all wordL) = true := by kernel_rfl
theorem wordL_of_key {l : Bt} (h : isKeyB l = true) : wordL l = true := List.all_eq_true.1 keys_words l (List.contains_iff_mem.1 h)
theorem rone_any (s : ByteArray) (p : Nat) (hs : s.size ≤ 65536) (hp : p < s.size) (w : World) :
    Calls Tryz.prog 18 #[.string s, .int .i64 p] w fun e w' => e = .returned (tokV (s.data.toList.drop p) p) ∧ Below w.heap.size w w' := by
  have hd := lx_drop s p hp
  have eT := lx_ext_drop s p
  have hlen : (s.data.toList.drop p).length = s.size - p := by rw [List.length_drop, lx_len]
  have sT : (s.extract p s.size).size = s.size - p := by rw [ByteArray.size_extract]; omega
  have cut : ∀ n, p + n ≤ s.size → s.extract p (p + n) = ⟨((s.data.toList.drop p).take n).toArray⟩ := fun n _ => ba_of (by rw [lx_ext, Nat.add_sub_cancel_left])
  have hFL := firstF_le (s.data.toList.drop p)
  rw [hlen] at hFL
  have RT := fun u => rread_any (s.extract p s.size) (by omega) u
  rw [eT] at RT
  by_cases h39 : s[p] = 39
  · have hf : firstF (s.data.toList.drop p) = (4, szR (vrdSem (s.data.toList.drop p))) := by
      rw [hd, firstF_cons, if_neg (by rw [h39]; decide), if_neg (by rw [h39]; decide), if_pos h39]
    have hc : ((s[p].toNat : Int) == 39) = true := by rw [h39]; decide
    unfold tokV
    rw [hf] at hFL ⊢
    cases hv : vrdSem (s.data.toList.drop p) with
    | none =>
      rw [hv] at RT
      exact one_q0 s p hs hp hc _ rfl RT w
    | some q =>
      obtain ⟨n, k, m, f, t⟩ := q
      rw [hv] at RT hFL
      have hn := (vrd_more _ [] n _ hv).1
      have hFL' : n ≤ s.size - p := hFL
      show Calls _ _ _ _ fun e w' => e = .returned (if n = 0 then _ else _) ∧ _
      rw [if_neg (by omega)]
      have := one_q1 s p n hs hp hc (p + n) (by omega) (by omega) (by omega) _ _ rfl (cut n (by omega)) k m f ⟨t.toArray⟩ RT w
      exact this
  have hc : ((s[p].toNat : Int) == 39) = false := by
    rw [beq_eq_false_iff_ne]
    intro h
    exact h39 (UInt8.toNat_inj.1 (by have : (39 : UInt8).toNat = 39 := rfl; omega))
  by_cases hdg : digitB s[p].toNat = true
  · have hf : firstF (s.data.toList.drop p) = (3, numN (s.data.toList.drop p)) := by rw [hd, firstF_cons, if_pos hdg]
    have hz : numN (s.data.toList.drop p) ≠ 0 := by rw [hd]; exact numN_pos hdg
    unfold tokV
    rw [hf] at hFL ⊢
    rw [if_neg hz]
    have eT2 : ((⟨#[45]⟩ : ByteArray) ++ s.extract p s.size).data.toList = 45 :: s.data.toList.drop p := by
      rw [← eT, ByteArray.data_append, Array.toList_append]; rfl
    have sT2 : ((⟨#[45]⟩ : ByteArray) ++ s.extract p s.size).size ≤ 65537 := by
      rw [ByteArray.size_append]
      have : (ByteArray.mk #[45]).size = 1 := rfl
      omega
    have RT2 := fun u => rread_any ((⟨#[45]⟩ : ByteArray) ++ s.extract p s.size) (by omega) u
    rw [eT2] at RT2
    obtain ⟨k1, m1, f1, t1, x1, e1⟩ := vrd_shape (vrdSem (s.data.toList.drop p))
    obtain ⟨k2, m2, f2, t2, x2, e2⟩ := vrd_shape (vrdSem (45 :: s.data.toList.drop p))
    rw [e1] at RT
    rw [e2] at RT2
    have g1 := vrd_le (s.data.toList.drop p)
    have g2 := vrd_le (45 :: s.data.toList.drop p)
    rw [List.length_cons, hlen] at g2
    rw [hlen] at g1
    have hb : (48 : Int) ≤ (s[p].toNat : Int) ∧ (s[p].toNat : Int) ≤ 57 := by
      unfold digitB at hdg
      simp only [Bool.and_eq_true, decide_eq_true_eq] at hdg
      omega
    have hFL' : numN (s.data.toList.drop p) ≤ s.size - p := hFL
    have := one_d s p (numN (s.data.toList.drop p)) _ _ hs hp hc hb.1 hb.2 (p + numN (s.data.toList.drop p)) (by omega) (by omega) (by omega) _ _ _ rfl rfl (by omega) sT2 (cut _ (by omega)) (by omega) (by omega) (by unfold numN; omega) k1 m1 f1 t1 x1 k2 m2 f2 t2 x2 RT RT2 w
    exact this
  have hdg' : digitB s[p].toNat = false := by simpa using hdg
  by_cases hbg : begB s[p].toNat = true
  · have hf : firstF (s.data.toList.drop p) = wordF (s.data.toList.drop p) := by rw [hd, firstF_cons, if_neg hdg, if_pos hbg]
    have hb : (48 : Int) ≤ (s[p].toNat : Int) ∧ ¬ (s[p].toNat : Int) ≤ 57 := by
      unfold begB at hbg
      simp at hbg
      omega
    have hr1 : 1 ≤ runP (s.data.toList.drop p) := by
      rw [runP_drop_yes hp (by rw [okc_of, hbg]; rfl)]; omega
    have hrl := runP_le (s.data.toList.drop p)
    rw [hlen] at hrl
    obtain ⟨R, hR⟩ : ∃ R, runP (s.data.toList.drop p) = R := ⟨_, rfl⟩
    rw [hR] at hr1 hrl
    have hV := cut R (by omega)
    have hVl : (s.extract p (p + R)).data.toList = (s.data.toList.drop p).take R := by rw [hV]
    have hw : wordF (s.data.toList.drop p) = if wordL ((s.data.toList.drop p).take R) = false then (1, 0) else if isKeyB ((s.data.toList.drop p).take R) = true then (2, R) else (1, R) := by unfold wordF; rw [hR]
    rw [← hVl] at hw
    have fin : ∀ k, wordF (s.data.toList.drop p) = (k, R) → tokV (s.data.toList.drop p) p = .agg #[.int .i64 (k : Nat), .string (s.extract p (p + R)), .int .i64 (p : Nat)] := fun k hk => by
      unfold tokV
      rw [hf, hk, if_neg (show ¬ R = 0 by omega), ← hV]
    cases hk : isKeyB (s.extract p (p + R)).data.toList with
    | true =>
      have hwl := wordL_of_key hk
      rw [fin 2 (by rw [hw, if_neg (by rw [hwl]; decide), if_pos hk])]
      exact one_key s p hs hp hc hb.2 hb.1 (p + R) (by omega) (by omega) (by rw [hR]; omega) _ rfl (by rw [inB_keys]; exact hk) w
    | false =>
      cases hwl : wordL (s.extract p (p + R)).data.toList with
      | true =>
        rw [fin 1 (by rw [hw, if_neg (by rw [hwl]; decide), if_neg (by rw [hk]; decide)])]
        exact one_word s p hs hp hc hb.2 hb.1 (p + R) (by omega) (by omega) (by rw [hR]; omega) _ rfl (by rw [inB_keys]; exact hk) hwl w
      | false =>
        have e0 : tokV (s.data.toList.drop p) p = .agg #[.int .i64 0, .string ⟨#[]⟩, .int .i64 0] := by
          unfold tokV
          rw [hf, hw, if_pos hwl, if_pos rfl]
        rw [e0]
        exact one_none s p hs hp hc hb.2 hb.1 (p + R) (by omega) (by omega) (by rw [hR]; omega) _ rfl (by rw [inB_keys]; exact hk) hwl w
  · have hbg' : begB s[p].toNat = false := by simpa using hbg
    have hf : firstF (s.data.toList.drop p) = (5, signN (s.data.toList.drop p)) := by rw [hd, firstF_cons, if_neg hdg, if_neg hbg, if_neg h39]
    have ho : okc s[p].toNat = false := by rw [okc_of, hbg', hdg']; rfl
    have et : tokV (s.data.toList.drop p) p = sgnV (signN (s.data.toList.drop p)) (s.data.toList.drop p) p := by unfold tokV; rw [hf]; rfl
    rw [et]
    unfold digitB at hdg'
    by_cases h48 : (48 : Int) ≤ (s[p].toNat : Int)
    · have h57 : ¬ (s[p].toNat : Int) ≤ 57 := by
        simp only [Bool.and_eq_false_iff, decide_eq_false_iff_not] at hdg'
        omega
      exact one_shi s p hs hp hc h48 h57 ho w
    · exact one_slo s p hs hp hc h48 ho w
end Go.Proofs.YtainigcchlgehaaGreatDoor
