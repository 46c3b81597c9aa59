/- The walk of the law LabelWords. -/
import Derived.Test.YtlnmjbheohkanaaKT
namespace Go.Proofs.Ytlnmjbheohkanaa.LabelWords
open Go Go.RowKit
set_option linter.unusedVariables false
theorem byt_app (a b : ByteArray) : byt (a ++ b) = byt a ++ byt b := by
  show (a ++ b).data.toList = a.data.toList ++ b.data.toList
  simp
theorem wordL_parts {l : List UInt8} (h : wordL l = true) : ∃ c t, l = c :: t ∧ l.length ≤ 40 ∧ digitB c.toNat = false ∧ l.all (fun c => okc c.toNat) = true := by
  cases l with
  | nil => cases h
  | cons c t =>
    rw [wordL_cons] at h
    simp only [Bool.and_eq_true, decide_eq_true_eq, Bool.not_eq_true'] at h
    exact ⟨c, t, rfl, h.1.1, h.1.2, h.2⟩
theorem word_both {a b : ByteArray} (ha : wordB a = true) (hb : wordB b = true) : wordB (a ++ b) = decide (a.size + b.size ≤ 40) := by
  have e : (a ++ b).data.toList = a.data.toList ++ b.data.toList := byt_app a b
  have la : a.data.toList.length = a.size := Array.length_toList
  have lb : b.data.toList.length = b.size := Array.length_toList
  unfold wordB at *
  rw [e]
  obtain ⟨c, t, h1, h2, h3, h4⟩ := wordL_parts ha
  obtain ⟨c', t', k1, k2, k3, k4⟩ := wordL_parts hb
  show wordL (a.data.toList ++ b.data.toList) = _
  rw [← la, ← lb]
  have h5 : (a.data.toList ++ b.data.toList).all (fun c => okc c.toNat) = true := by rw [List.all_append, h4, k4]; rfl
  rw [h1] at h5 ⊢
  rw [List.cons_append, wordL_cons, ← List.cons_append, h5, h3]
  simp
  omega
theorem word_line {a : ByteArray} (ha : wordB a = true) : wordB ((⟨#[95]⟩ : ByteArray) ++ a) = decide (a.size < 40) := by
  have h1 : wordB ⟨#[95]⟩ = true := by decide
  have h2 : (⟨#[95]⟩ : ByteArray).size = 1 := rfl
  rw [word_both h1 ha, h2, Bool.eq_iff_iff]
  simp only [decide_eq_true_eq]
  omega
theorem word_nine (a : ByteArray) : wordB ((⟨#[57]⟩ : ByteArray) ++ a) = false := by
  have e := byt_app ⟨#[57]⟩ a
  unfold wordB
  show wordL (byt _) = false
  rw [e]
  show wordL (57 :: byt a) = false
  rw [wordL_cons]
  have : digitB (57 : UInt8).toNat = true := by decide
  rw [this]; simp
theorem word_blank (a : ByteArray) : wordB (a ++ (⟨#[32]⟩ : ByteArray)) = false := by
  have e := byt_app a ⟨#[32]⟩
  unfold wordB
  show wordL (byt _) = false
  rw [e]
  show wordL (byt a ++ [32]) = false
  have h : (byt a ++ [32])[(byt a).length]'(by simp) = 32 := by simp
  exact word_cut (i := (byt a).length) (by simp) (by rw [h]; decide)
theorem right_nm (s : ByteArray) : rightL (nmE s) = wordB s := by
  rw [right_nz _ _ _ _ (by decide)]
  unfold termE
  rw [termK, nought_z, termL, deep, deepL]
  simp [kidsN, nameOk]
theorem call_word {s : ByteArray} {p : Bool} (h : wordB s = p) (W : World) : Calls Try.prog 17 #[.string s] W fun e w' => e = .returned (.bool p) ∧ Below W.heap.size W w' := h ▸ lword_any s W
theorem d40 (n m : Nat) : decide (n + m ≤ 40) = decide ((n : Int) + (m : Int) ≤ 40) := by rw [Bool.eq_iff_iff]; simp only [decide_eq_true_eq]; omega
theorem d40' (n : Nat) : decide (n < 40) = decide ((n : Int) < 40) := by rw [Bool.eq_iff_iff]; simp only [decide_eq_true_eq]; omega
set_option maxHeartbeats 8000000 in
set_option maxRecDepth 100000 in
theorem walk (a b : ByteArray) (w : World) :
    Calls Try.prog 6 #[.string a, .string b] w fun e w' => e = .returned (.bool true) ∧ Below w.heap.size w w' := by
  have B0 := Lib.hid (Below.refl w.heap.size w)
  obtain ⟨M, hM⟩ : ∃ M : Nat, M = min a.size 50 := ⟨_, rfl⟩
  obtain ⟨N, hN⟩ : ∃ N : Nat, N = min b.size 50 := ⟨_, rfl⟩
  have m1 : min (a.size : Int) 50 = (M : Int) := by omega
  have m2 : min (b.size : Int) 50 = (N : Int) := by omega
  have i1 : (M : Int) ≤ (a.size : Int) := by omega
  have i2 : (N : Int) ≤ (b.size : Int) := by omega
  have h50 : M ≤ 50 := by omega
  have h51 : N ≤ 50 := by omega
  clear hM hN
  go_enter Try.func6, Try.ntmps6
  go_wp2_with fail
  (with_reducible refine (shown6_any w).mono ?_); rintro e w1 ⟨rfl, b1⟩
  have B1 := Lib.hid (Below.chain B0.out b1)
  clear b1
  have E1 := Lib.hid (show (a.extract 0 M).size ≤ 50 by rw [ByteArray.size_extract]; omega)
  have E2 := Lib.hid (show (b.extract 0 N).size ≤ 50 by rw [ByteArray.size_extract]; omega)
  go_wp2_with fail
  clear m1 m2 i1 i2 h50 h51
  generalize a.extract 0 M = a' at *
  generalize b.extract 0 N = b' at *
  have e1 := E1.out
  have e2 := E2.out
  (with_reducible refine (lword_any a' w1).mono ?_); rintro e w2 ⟨rfl, b2⟩
  have B2 := Lib.hid (Below.chain B1.out b2)
  clear b2
  have K2 := Lib.hid (lword_any b' w2)
  have H3 := Lib.hid (right_nm a')
  have H1 := Lib.hid (fun (ha : wordB a' = true) (hb : wordB b' = true) => call_word ((word_both ha hb).trans (d40 _ _)))
  have H2 := Lib.hid (fun (ha : wordB a' = true) => call_word ((word_line ha).trans (d40' _)))
  have L2 := Lib.hid (call_word (word_nine a'))
  have L3 := Lib.hid (call_word (word_blank a'))
  generalize wordB b' = q at *
  cases hp : wordB a'
  · clear H1 H2 H3 L2 L3
    go_wp2_with fail
    (with_reducible refine K2.out.mono ?_); rintro e w3 ⟨rfl, b3⟩
    have B3 := Lib.hid (Below.chain B2.out b3)
    go_upto_region 6 with fail
    simp only [List.append_eq, List.cons_append, List.nil_append]
    go_wp2_with fail
    go_ret
    exact ⟨rfl, B3.out⟩
  · have L1 := Lib.hid (H2.out hp)
    have L0 := Lib.hid (fun hq => H1.out hp hq)
    rw [hp] at H3
    clear H1 H2 hp
    go_wp2_with fail
    (with_reducible refine K2.out.mono ?_); rintro e w3 ⟨rfl, b3⟩
    have B3 := Lib.hid (Below.chain B2.out b3)
    clear b3
    cases q
    · go_upto_region 6 with fail
      simp only [List.append_eq, List.cons_append, List.nil_append]
      go_wp2_with fail
      (with_reducible refine (L1.out w3).mono ?_); rintro e w4 ⟨rfl, b4⟩
      have B4 := Lib.hid (Below.chain B3.out b4)
      clear b4
      go_wp2_with fail
      (with_reducible refine (L2.out w4).mono ?_); rintro e w5 ⟨rfl, b5⟩
      have B5 := Lib.hid (Below.chain B4.out b5)
      clear b5
      go_wp2_with fail
      (with_reducible refine (L3.out w5).mono ?_); rintro e w6 ⟨rfl, b6⟩
      have B6 := Lib.hid (Below.chain B5.out b6)
      clear b6
      go_wp2_with fail
      (with_reducible refine (xname_any a' w6).mono ?_); rintro e w7 ⟨zn, rfl, tn, b7⟩
      have B7 := Lib.hid (Below.chain B6.out b7)
      have Tn := Lib.hid tn
      clear tn b7
      have K := Lib.hid (lright_any _ _ _ Tn.out)
      rw [H3.out] at K
      go_wp2_with fail
      (with_reducible refine (K.out).mono ?_); rintro e w8 ⟨rfl, b8⟩
      have B8 := Lib.hid (Below.chain B7.out b8)
      have Tn := Lib.hid (Tn.out.keep b8)
      clear b8
      go_wp2_with fail
      go_ret
      exact ⟨rfl, B8.out⟩
    · go_upto_region 6 with fail
      simp only [List.append_eq, List.cons_append, List.nil_append]
      go_wp2_with fail
      (with_reducible refine (L0.out (by trivial) w3).mono ?_); rintro e w4 ⟨rfl, b4⟩
      have B4 := Lib.hid (Below.chain B3.out b4)
      clear b4
      go_wp2_with fail
      (with_reducible refine (L1.out w4).mono ?_); rintro e w5 ⟨rfl, b5⟩
      have B5 := Lib.hid (Below.chain B4.out b5)
      clear b5
      go_wp2_with fail
      (with_reducible refine (L2.out w5).mono ?_); rintro e w6 ⟨rfl, b6⟩
      have B6 := Lib.hid (Below.chain B5.out b6)
      clear b6
      go_wp2_with fail
      (with_reducible refine (L3.out w6).mono ?_); rintro e w7 ⟨rfl, b7⟩
      have B7 := Lib.hid (Below.chain B6.out b7)
      clear b7
      go_wp2_with fail
      (with_reducible refine (xname_any a' w7).mono ?_); rintro e w8 ⟨zn, rfl, tn, b8⟩
      have B8 := Lib.hid (Below.chain B7.out b8)
      have Tn := Lib.hid tn
      clear tn b8
      have K := Lib.hid (lright_any _ _ _ Tn.out)
      rw [H3.out] at K
      go_wp2_with fail
      (with_reducible refine (K.out).mono ?_); rintro e w9 ⟨rfl, b9⟩
      have B9 := Lib.hid (Below.chain B8.out b9)
      have Tn := Lib.hid (Tn.out.keep b9)
      clear b9
      go_wp2_with fail
      go_ret
      exact ⟨rfl, B9.out⟩
end Go.Proofs.Ytlnmjbheohkanaa.LabelWords
