import Derived.Test.YtainigcchlgehaaGreatDoorBN
import Derived.Test.YtainigcchlgehaaGreatDoorB7
import Derived.Test.YtainigcchlgehaaGreatDoorA5
namespace Go.Proofs.YtainigcchlgehaaGreatDoor
open Go Go.RowKit
set_option linter.unusedVariables false
theorem dec_val_len (n : Nat) (h : n ≤ 9223372036854775808) : (Lib.decDigits n).length ≤ 30 := Nat.le_trans (Flt.dec_len (m := n) (by omega)) (by omega)
/-- the reference's Text of a right value -/
theorem rtxt_right (k n : Int) (f : Nat) (s : ByteArray) (n1 : -9223372036854775808 ≤ n) (n2 : n ≤ 9223372036854775807) (hf : f < 18446744073709551616) (hs : s.size ≤ 1000000) (r : rightB k n f s = true) (w : World) :
    Calls Tryz.prog 14 #[.agg #[.int .i64 k, .int .i64 n, .float .f64 f, .string s]] w fun e w' => e = .returned (.tuple #[.string ⟨(textV k n f s).toArray⟩, .int .i64 0]) ∧ Below w.heap.size w w' := by
  have R := rright_any k n f hf s
  rw [r] at R
  by_cases k0 : k = 0
  · subst k0; exact rtv0 n f s R w
  by_cases k1 : k = 1
  · subst k1
    have := rtv1 n f s _ rfl R w
    refine this.mono ?_
    rintro e w' ⟨rfl, hb⟩
    refine ⟨ret_tup2 (congrArg Value.string ?_) rfl, hb⟩
    by_cases hn : n = 1
    · subst hn; rfl
    · have h1 : (n == 1) = false := by simpa using hn
      rw [h1]; simp [textV, hn]
  by_cases k2 : k = 2
  · subst k2
    have et : textV 2 n f s = Lib.itoa n := by simp [textV]
    rw [et]
    by_cases hneg : n < 0
    · obtain ⟨m, rfl⟩ : ∃ m : Nat, n = -(m : Int) := ⟨n.natAbs, by omega⟩
      rw [Lib.itoa_neg m (by omega)]
      have I := rint_any m (by omega) true (.inl rfl)
      simp only [if_true] at I
      by_cases h10 : -10 < -(m : Int)
      · exact rtv2s (-(m : Int)) f s _ (dec_val_len m (by omega)) (by simpa using hneg) (by simpa using h10) I R w
      · exact rtv2 (-(m : Int)) f s _ (dec_val_len m (by omega)) true false (by simpa using hneg) (by simpa using h10) (.inr rfl) I R w
    · obtain ⟨m, rfl⟩ : ∃ m : Nat, n = (m : Int) := ⟨n.toNat, by omega⟩
      rw [Lib.itoa_nonneg m]
      have I := rint_any m (by omega) false (.inr (by omega))
      simp only [Bool.false_eq_true, if_false] at I
      exact rtv2 (m : Int) f s _ (dec_val_len m (by omega)) false _ (by simp) rfl (.inl rfl) I R w
  by_cases k3 : k = 3
  · subst k3
    have et : textV 3 n f s = Flt.text f := by simp [textV]
    rw [et]; exact rtv3 n f hf s R w
  · have k4 : k = 4 := by
      unfold rightB at r
      rw [if_neg k0, if_neg k1, if_neg k2, if_neg k3] at r
      split at r
      · assumption
      · cases r
    subst k4
    have et : textV 4 n f s = 39 :: escL s.data.toList ++ [39] := by simp [textV]
    rw [et]; exact rtv4 n f s hs R w
/-- what digits come to, a - being none -/
def dv (l : List UInt8) : Nat := l.foldl (fun a c => if c = 45 then a else a * 10 + (c.toNat - 48)) 0
theorem dv_snoc (l : List UInt8) (c : UInt8) : dv (l ++ [c]) = if c = 45 then dv l else dv l * 10 + (c.toNat - 48) := by simp [dv]
theorem dv_take (l : List UInt8) (i : Nat) (h : i < l.length) : dv (l.take (i + 1)) = if l[i] = 45 then dv (l.take i) else dv (l.take i) * 10 + (l[i].toNat - 48) := by
  rw [List.take_succ_eq_append_getElem h, dv_snoc]
theorem dv_mono (l : List UInt8) : ∀ i, dv (l.take i) ≤ dv l := by
  have key : ∀ d i, i + d = l.length → dv (l.take i) ≤ dv l := by
    intro d
    induction d with
    | zero => intro i h; rw [List.take_of_length_le (by omega)]; exact Nat.le_refl _
    | succ d ih =>
      intro i h
      have h1 := ih (i + 1) (by omega)
      rw [dv_take l i (by omega)] at h1
      split at h1 <;> omega
  intro i
  by_cases h : i ≤ l.length
  · exact key (l.length - i) i (by omega)
  · rw [List.take_of_length_le (by omega)]; exact Nat.le_refl _
theorem dv_dec (n : Nat) : dv (Lib.decDigits n) = n := by
  induction n using Nat.strongRecOn with
  | ind n ih =>
    by_cases h10 : n < 10
    · rw [Lib.decDigits_one h10]
      have h1 : (UInt8.ofNat (48 + n)).toNat = 48 + n := by simp; omega
      have h2 : ¬ UInt8.ofNat (48 + n) = 45 := fun e => by rw [e] at h1; simp at h1; omega
      show (if UInt8.ofNat (48 + n) = 45 then 0 else 0 * 10 + ((UInt8.ofNat (48 + n)).toNat - 48)) = n
      rw [if_neg h2, h1]; omega
    · rw [show Lib.decDigits n = Lib.decDigits (n / 10) ++ [UInt8.ofNat (48 + n % 10)] from by rw [Lib.decDigits, dif_neg h10], dv_snoc, ih (n / 10) (by omega)]
      have h1 : (UInt8.ofNat (48 + n % 10)).toNat = 48 + n % 10 := by simp; omega
      have h2 : ¬ UInt8.ofNat (48 + n % 10) = 45 := fun e => by rw [e] at h1; simp at h1; omega
      rw [if_neg h2, h1]; omega
theorem dv_itoa (x : Int) : dv (Lib.itoa x) = x.natAbs := by
  unfold Lib.itoa
  split
  · rw [show (45 :: Lib.decDigits x.natAbs) = [45] ++ Lib.decDigits x.natAbs from rfl]
    have : ∀ l : List UInt8, dv ([45] ++ l) = dv l := fun l => by simp [dv]
    rw [this, dv_dec]
  · rw [dv_dec]; omega
/-- the characters of a whole number's text -/
theorem itoa_at (x : Int) (i : Nat) (h : i < (Lib.itoa x).length) : (i = 0 ∧ (Lib.itoa x)[i] = 45 ∧ x < 0) ∨ (48 ≤ (Lib.itoa x)[i].toNat ∧ (Lib.itoa x)[i].toNat ≤ 57) := by
  by_cases hx : x < 0
  · have e : Lib.itoa x = 45 :: Lib.decDigits x.natAbs := by unfold Lib.itoa; rw [if_pos hx]
    simp only [e] at h ⊢
    cases i with
    | zero => exact .inl ⟨rfl, rfl, hx⟩
    | succ i => exact .inr (dec_digits x.natAbs _ (List.getElem_mem _))
  · have e : Lib.itoa x = Lib.decDigits x.toNat := by unfold Lib.itoa; rw [if_neg hx]
    simp only [e] at h ⊢
    exact .inr (dec_digits x.toNat _ (List.getElem_mem _))
theorem itoa_head (x : Int) : ((Lib.itoa x)[0]? = some 45) ↔ x < 0 := by
  by_cases hx : x < 0
  · have e : Lib.itoa x = 45 :: Lib.decDigits x.natAbs := by unfold Lib.itoa; rw [if_pos hx]
    rw [e]; simp [hx]
  · have e : Lib.itoa x = Lib.decDigits x.toNat := by unfold Lib.itoa; rw [if_neg hx]
    rw [e]
    constructor
    · intro h
      have := dec_digits _ 45 (List.mem_of_getElem? h)
      simp at this
    · intro h; exact absurd h hx
theorem itoa_len20 (x : Int) (h1 : -9223372036854775808 ≤ x) (h2 : x ≤ 9223372036854775807) : (Lib.itoa x).length ≤ 20 := by
  have p : (10 : Nat) ^ (18 + 1) = 10000000000000000000 := by decide
  unfold Lib.itoa
  split
  · have := dec_len_pw 18 x.natAbs (by omega)
    simp; omega
  · have := dec_len_pw 18 x.toNat (by omega)
    omega
/-- what is no word, no float and no whole number's text is nothing -/
theorem rp_none (l : List UInt8) (h1 : l ≠ [110, 117, 108, 108]) (h2 : l ≠ [102, 97, 108, 115, 101]) (h3 : l ≠ [116, 114, 117, 101]) (hp : parseSem l = none) (hi : ∀ x : Int, -9223372036854775808 ≤ x → x ≤ 9223372036854775807 → Lib.itoa x ≠ l) : rpSem l = none := by
  unfold rpSem
  rw [if_neg h1, if_neg h2, if_neg h3, hp]
  split
  · rename_i v hv
    have := pi64_le hv
    rw [if_neg (hi v this.1 this.2)]; rfl
  · rfl
theorem rp_flt (l : List UInt8) (f : Nat) (h1 : l ≠ [110, 117, 108, 108]) (h2 : l ≠ [102, 97, 108, 115, 101]) (h3 : l ≠ [116, 114, 117, 101]) (hp : parseSem l = some f) : rpSem l = some (3, 0, f) := by
  obtain ⟨a, b, c⟩ := parseSem_some hp
  unfold rpSem
  rw [if_neg h1, if_neg h2, if_neg h3, hp]
  split
  · rename_i v hv
    rw [if_neg ?_]
    · rfl
    · intro e
      obtain ⟨_, ⟨ch, hm, hc⟩, _⟩ := ftext_facts f a
      rw [b, ← e] at hm
      have := itoa_chars v ch hm
      omega
  · rfl
end Go.Proofs.YtainigcchlgehaaGreatDoor


