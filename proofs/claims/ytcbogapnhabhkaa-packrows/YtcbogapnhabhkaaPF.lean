import Derived.Test.YtcbogapnhabhkaaPD
import Derived.Test.YtcbogapnhabhkaaPE
namespace Go.Proofs.Ytcbogapnhabhkaa
open Go Go.RowKit
set_option linter.unusedVariables false
def okb (k : Nat) : Nat := Flt.canon (if 9223372036854775808 ≤ k then k - 9223372036854775808 else 18446744073709551615 - k)
def ofk (k : Nat) : Option Nat := if Flt.kbits (okb k) = k then some (okb k) else none
theorem canon_lt {a : Nat} (h : a < 18446744073709551616) : Flt.canon a < 18446744073709551616 := by unfold Flt.canon; split <;> omega
theorem okb_lt (k : Nat) (h : k < 18446744073709551616) : okb k < 18446744073709551616 := canon_lt (by split <;> omega)
theorem ofkey_core (k b f K : Nat) (hk : k < 18446744073709551616) (hb : b < 18446744073709551616) (hbe : b = if 9223372036854775808 ≤ k then k - 9223372036854775808 else 18446744073709551615 - k)
    (C1 : ∀ w, Calls Try.prog 63 #[.float .f64 b] w fun e w' => e = .returned (.float .f64 f) ∧ w = w') (C2 : ∀ w, Calls Try.prog 52 #[.float .f64 f] w fun e w' => e = .returned (.int .u64 (K : Int)) ∧ w = w') (w : World) :
    Calls Try.prog 66 #[.int .u64 k] w fun e w' => e = .returned (if K = k then .tuple #[.float .f64 f, .bool true] else .tuple #[.float .f64 0, .bool false]) ∧ w = w' := by
  have h2 := run_frombits
  by_cases hs : 9223372036854775808 ≤ k
  · have h3 : (bits .and .u64 (k : Int) 9223372036854775808 != 0) = true := by rw [Flt.b_and_sign k hk, if_pos hs]; rfl
    have h4 : (bits .andNot .u64 (k : Int) 9223372036854775808).toNat = b := by
      rw [Flt.b_andNot_sign k hk, hbe, if_pos hs, Int.toNat_natCast]; unfold Flt.rung; omega
    clear hbe hs
    by_cases hK : K = k
    · have h5 : ((K : Int) != (k : Int)) = false := by simp [hK]
      rw [if_pos hK]
      clear hK
      go_enter Try.func66, Try.ntmps66
      go_wp2_with fail
      refine (C1 _).mono ?_; rintro e w' ⟨rfl, rfl⟩
      go_wp2_with fail
      refine (C2 _).mono ?_; rintro e w' ⟨rfl, rfl⟩
      go_wp2_with fail
      go_ret2
      exact ⟨rfl, rfl⟩
    · have h5 : ((K : Int) != (k : Int)) = true := by simp; omega
      rw [if_neg hK]
      clear hK
      go_enter Try.func66, Try.ntmps66
      go_wp2_with fail
      refine (C1 _).mono ?_; rintro e w' ⟨rfl, rfl⟩
      go_wp2_with fail
      refine (C2 _).mono ?_; rintro e w' ⟨rfl, rfl⟩
      go_wp2_with fail
      go_ret2
      exact ⟨rfl, rfl⟩
  · have h3 : (bits .and .u64 (k : Int) 9223372036854775808 != 0) = false := by rw [Flt.b_and_sign k hk, if_neg hs]; rfl
    have h4 : (bits .xor .u64 IntKind.u64.max (k : Int)).toNat = b := by
      rw [Flt.u64max, Flt.b_not k hk, hbe, if_neg hs]; omega
    clear hbe hs
    by_cases hK : K = k
    · have h5 : ((K : Int) != (k : Int)) = false := by simp [hK]
      rw [if_pos hK]
      clear hK
      go_enter Try.func66, Try.ntmps66
      go_wp2_with fail
      refine (C1 _).mono ?_; rintro e w' ⟨rfl, rfl⟩
      go_wp2_with fail
      refine (C2 _).mono ?_; rintro e w' ⟨rfl, rfl⟩
      go_wp2_with fail
      go_ret2
      exact ⟨rfl, rfl⟩
    · have h5 : ((K : Int) != (k : Int)) = true := by simp; omega
      rw [if_neg hK]
      clear hK
      go_enter Try.func66, Try.ntmps66
      go_wp2_with fail
      refine (C1 _).mono ?_; rintro e w' ⟨rfl, rfl⟩
      go_wp2_with fail
      refine (C2 _).mono ?_; rintro e w' ⟨rfl, rfl⟩
      go_wp2_with fail
      go_ret2
      exact ⟨rfl, rfl⟩
theorem ofkey_ok (k f : Nat) (hk : k < 18446744073709551616) (h : ofk k = some f) (w : World) : Calls Try.prog 66 #[.int .u64 k] w fun e w' => e = .returned (.tuple #[.float .f64 f, .bool true]) ∧ w = w' := by
  unfold ofk at h
  split at h
  · rename_i hh
    cases h
    have hb : (if 9223372036854775808 ≤ k then k - 9223372036854775808 else 18446744073709551615 - k) < 18446744073709551616 := by split <;> omega
    have := ofkey_core k _ (okb k) _ hk hb rfl (canon_any _ hb) (key_any (okb k) (okb_lt k hk)) w
    rwa [if_pos hh] at this
  · cases h
theorem ofkey_bad (k : Nat) (hk : k < 18446744073709551616) (h : ofk k = none) (w : World) : Calls Try.prog 66 #[.int .u64 k] w fun e w' => e = .returned (.tuple #[.float .f64 0, .bool false]) ∧ w = w' := by
  unfold ofk at h
  split at h
  · cases h
  · rename_i hh
    have hb : (if 9223372036854775808 ≤ k then k - 9223372036854775808 else 18446744073709551615 - k) < 18446744073709551616 := by split <;> omega
    have := ofkey_core k _ (okb k) _ hk hb rfl (canon_any _ hb) (key_any (okb k) (okb_lt k hk)) w
    rwa [if_neg hh] at this
/-- what a reader makes of a float's bytes -/
def fltR (l : List UInt8) : Option (Nat × List UInt8) := if 8 ≤ l.length then (ofk (valB (l.take 8))).map fun f => (f, l.drop 8) else none
theorem val8 (l : List UInt8) : valB (l.take 8) < 18446744073709551616 :=
  Nat.lt_of_lt_of_le (valB_lt _) (pow_le8 _ (by simp; omega))
theorem float_ok (p : Nat) (l r : List UInt8) (f : Nat) (w : World) (hR : Rd p w l) (h : fltR l = some (f, r)) (hl : l.length ≤ 1000000) :
    Calls Try.prog 62 #[.pointer (some ⟨p, 0, none⟩)] w fun e w' => e = .returned (.float .f64 f) ∧ Rd p w' r ∧ w.grownBy w' (some p) := by
  unfold fltR at h
  split at h
  · rename_i h8
    rw [Option.map_eq_some_iff] at h
    obtain ⟨f', hf, he⟩ := h
    cases he
    have h1 := Lib.hid (joined_ok p 8 l w hR h8 (Nat.le_refl _) hl)
    have h2 := Lib.hid (ofkey_ok _ f (val8 l) hf)
    clear hf
    go_enter Try.func62, Try.ntmps62
    go_wp2_with fail
    refine h1.out.mono ?_; rintro e w1 ⟨rfl, hR1, hg1⟩
    go_wp2_with fail
    refine (h2.out _).mono ?_; rintro e w' ⟨rfl, rfl⟩
    go_wp2_with fail
    refine (need_ok _).mono ?_; rintro e w' ⟨rfl, rfl⟩
    go_wp2_with fail
    go_ret
    exact ⟨rfl, hR1, hg1⟩
  · cases h
theorem float_bad (p : Nat) (l : List UInt8) (w : World) (hR : Rd p w l) (h : fltR l = none) (hl : l.length ≤ 1000000) :
    Calls Try.prog 62 #[.pointer (some ⟨p, 0, none⟩)] w fun e w' => e = bad ∧ w.grownBy w' (some p) := by
  unfold fltR at h
  split at h
  · rename_i h8
    rw [Option.map_eq_none_iff] at h
    have h1 := Lib.hid (joined_ok p 8 l w hR h8 (Nat.le_refl _) hl)
    have h2 := Lib.hid (ofkey_bad _ (val8 l) h)
    clear h
    go_enter Try.func62, Try.ntmps62
    go_wp2_with fail
    refine h1.out.mono ?_; rintro e w1 ⟨rfl, hR1, hg1⟩
    go_wp2_with fail
    refine (h2.out _).mono ?_; rintro e w' ⟨rfl, rfl⟩
    go_wp2_with fail
    refine (need_bad _).mono ?_; rintro e w' ⟨rfl, rfl⟩
    exact ⟨rfl, rfl, hg1⟩
  · have h1 := Lib.hid (joined_bad p 8 l w hR (by omega) (by omega) hl)
    go_enter Try.func62, Try.ntmps62
    go_wp2_with fail
    refine h1.out.mono ?_; rintro e w1 ⟨rfl, hg1⟩
    exact ⟨rfl, rfl, hg1⟩
end Go.Proofs.Ytcbogapnhabhkaa
