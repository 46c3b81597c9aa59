import Derived.Test.YtpnbjofddlbagaaDoorWc
namespace Go.Proofs.YtpnbjofddlbagaaDoor
open Go
namespace Flt
/-- the bits that a key is turned back to -/
def okb (k : Nat) : Nat := if 9223372036854775808 ≤ k then k - 9223372036854775808 else 18446744073709551615 - k
theorem okb_lt {k : Nat} (hk : k < 18446744073709551616) : okb k < 18446744073709551616 := by unfold okb; split <;> omega
theorem okb_kbits {a : Nat} (ha : a < 18446744073709551616) : canon (okb (kbits a)) = canon a := by
  cases hn : isNan a
  · unfold kbits
    simp only [hn, Bool.false_eq_true, if_false]
    unfold okb
    congr 1
    (repeat' split) <;> omega
  · rw [kbits_nan hn, canon_nan hn]; decide
theorem kbits_canon (a : Nat) : kbits (canon a) = kbits a := by
  cases hn : isNan a
  · rw [canon_num hn]
  · rw [canon_nan hn, kbits_nan hn]; decide
theorem kbits_okb {k : Nat} (hk : k < 18446744073709551616) (hn : isNan (okb k) = false) : kbits (canon (okb k)) = k := by
  rw [kbits_canon]
  unfold kbits
  simp only [hn, Bool.false_eq_true, if_false]
  unfold okb
  (repeat' split) <;> omega
theorem okb_far {k : Nat} (hk : k < 18446744073709551616) (h : kbits (canon (okb k)) ≠ k) : k < 4503599627370496 ∨ 18442240474082181119 < k := by
  cases hn : isNan (okb k)
  · exact absurd (kbits_okb hk hn) h
  · unfold isNan rung okb at hn
    simp only [decide_eq_true_eq] at hn
    split at hn <;> omega
end Flt
theorem ofkey_core (k b f g : Nat) (c : Bool) (hk : k < 18446744073709551616) (hc : decide (g = k) = c) (hb1 : 9223372036854775808 ≤ k → (b : Int) = k - 9223372036854775808) (hb2 : k < 9223372036854775808 → (b : Int) = 18446744073709551615 - k)
    (HC : ∀ w, Calls Tryd.prog 15 #[.float .f64 b] w fun e w' => e = .returned (.float .f64 f) ∧ w = w') (HK : ∀ w, Calls Tryd.prog 19 #[.float .f64 f] w fun e w' => e = .returned (.int .u64 g) ∧ w = w') (w : World) :
    Calls Tryd.prog 21 #[.int .u64 k] w fun e w' => e = .returned (.tuple #[.float .f64 (if c = true then f else 0), .bool c]) ∧ w = w' := by
  have hfb := run_frombits
  have hne : (((g : Nat) : Int) != (k : Nat)) = !c := by
    rw [← hc]
    by_cases h : g = k
    · subst h; simp
    · simp [h]; omega
  have hnot : bits .xor .u64 IntKind.u64.max (k : Int) = 18446744073709551615 - (k : Int) := by rw [Flt.u64max, Flt.b_not k hk]
  clear hc
  by_cases hs : 9223372036854775808 ≤ k
  · have h1 : (bits .and .u64 (k : Int) 9223372036854775808 != 0) = true := by rw [Flt.b_and_sign k hk, if_pos hs]; rfl
    have h2 : bits .andNot .u64 (k : Int) 9223372036854775808 = (b : Int) := by rw [Flt.b_andNot_sign k hk, hb1 hs]; unfold Flt.rung; omega
    clear hb1 hb2 hs
    cases c
    · go_enter Tryd.func21, Tryd.ntmps21
      go_wp2_with (first | (go_at_call 15; refine (HC _).mono ?_; rintro e w' ⟨rfl, rfl⟩) | (go_at_call 19; refine (HK _).mono ?_; rintro e w' ⟨rfl, rfl⟩))
      all_goals go_ret2
      all_goals exact ⟨rfl, rfl⟩
    · go_enter Tryd.func21, Tryd.ntmps21
      go_wp2_with (first | (go_at_call 15; refine (HC _).mono ?_; rintro e w' ⟨rfl, rfl⟩) | (go_at_call 19; refine (HK _).mono ?_; rintro e w' ⟨rfl, rfl⟩))
      all_goals go_ret2
      all_goals exact ⟨rfl, rfl⟩
  · have h1 : (bits .and .u64 (k : Int) 9223372036854775808 != 0) = false := by rw [Flt.b_and_sign k hk, if_neg hs]; rfl
    have h2 : bits .xor .u64 IntKind.u64.max (k : Int) = (b : Int) := by rw [hnot, hb2 (by omega)]
    clear hb1 hb2 hs hnot
    cases c
    · go_enter Tryd.func21, Tryd.ntmps21
      go_wp2_with fail
      refine (HC _).mono ?_; rintro e w' ⟨rfl, rfl⟩
      go_wp2_with fail
      refine (HK _).mono ?_; rintro e w' ⟨rfl, rfl⟩
      go_wp2_with fail
      go_ret2
      exact ⟨rfl, rfl⟩
    · go_enter Tryd.func21, Tryd.ntmps21
      go_wp2_with fail
      refine (HC _).mono ?_; rintro e w' ⟨rfl, rfl⟩
      go_wp2_with fail
      refine (HK _).mono ?_; rintro e w' ⟨rfl, rfl⟩
      go_wp2_with fail
      go_ret2
      exact ⟨rfl, rfl⟩
theorem ofkey_any (k : Nat) (hk : k < 18446744073709551616) (w : World) :
    Calls Tryd.prog 21 #[.int .u64 k] w fun e w' => e = .returned (.tuple #[.float .f64 (if decide (Flt.kbits (Flt.canon (Flt.okb k)) = k) = true then Flt.canon (Flt.okb k) else 0), .bool (decide (Flt.kbits (Flt.canon (Flt.okb k)) = k))]) ∧ w = w' := by
  have hl := Flt.okb_lt hk
  exact ofkey_core k (Flt.okb k) (Flt.canon (Flt.okb k)) (Flt.kbits (Flt.canon (Flt.okb k))) _ hk rfl (fun h => by unfold Flt.okb; rw [if_pos h]; omega) (fun h => by unfold Flt.okb; rw [if_neg (by omega)]; omega) (canon_any _ hl) (key_any _ (Flt.canon_lt hl)) w
end Go.Proofs.YtpnbjofddlbagaaDoor
