/- The walk of the law NumTexts. -/
import Derived.Test.YtpnbjofddlbagaaDoorWo
import Derived.Test.YtpnbjofddlbagaaDoorWyc
namespace Go.Proofs.YtpnbjofddlbagaaDoor.NumTexts
open Go Go.RowKit
set_option linter.unusedVariables false
theorem of_nat (a : Nat) (w : World) : Calls Tryd.prog 13 #[.int .u64 (a : Int)] w fun e w' => e = .returned (.float .f64 a) ∧ w = w' := of_any (a : Int) w
set_option maxHeartbeats 2000000 in
theorem coreS (a : Nat) (t : List UInt8) (s : ByteArray) (hs : s.size ≤ 50) (f : Nat) (c : Int)
    (TX : ∀ w, Tabs w → Calls Tryd.prog 25 #[.float .f64 a] w fun e w' => e = .returned (.string ⟨t.toArray⟩) ∧ Below w.heap.size w w')
    (RX : ∀ w, Calls Tryd.prog 26 #[.float .f64 a] w fun e w' => e = .returned (.string ⟨t.toArray⟩) ∧ Below w.heap.size w w')
    (PX : ∀ w, Tabs w → Calls Tryd.prog 23 #[.string s] w fun e w' => e = .returned (.tuple #[.float .f64 f, .int .i64 c]) ∧ Below w.heap.size w w')
    (QX : ∀ w, Calls Tryd.prog 24 #[.string s] w fun e w' => e = .returned (.tuple #[.float .f64 f, .int .i64 c]) ∧ w = w')
    (S1 : ∀ w, Calls Tryd.prog 22 #[.float .f64 f, .float .f64 f] w fun e w' => e = .returned (.bool true) ∧ w = w') (w : World) (hT : Tabs w) :
    Calls Tryd.prog 5 #[.int .u64 (a : Int), .string s] w fun e w' => e = .returned (.bool true) ∧ Below w.heap.size w w' := by
  have hmin : min (s.size : Int) 50 = s.size := by omega
  go_enter Tryd.func5, Tryd.ntmps5
  go_wp2_with fail
  refine (shown_any _ hT).mono ?_; rintro e w1 ⟨rfl, hb1⟩
  go_wp2_with fail
  refine (of_nat a _).mono ?_; rintro e w' ⟨rfl, rfl⟩
  go_wp2_with fail
  refine (PX _ (hT.below hb1)).mono ?_; rintro e w2 ⟨rfl, hb2⟩
  have c2 := Below.chain hb1 hb2
  go_wp2_with fail
  refine (QX _).mono ?_; rintro e w' ⟨rfl, rfl⟩
  go_wp2_with fail
  refine (TX _ (hT.below c2)).mono ?_; rintro e w3 ⟨rfl, hb3⟩
  have c3 := Below.chain c2 hb3
  go_wp2_with fail
  refine (RX _).mono ?_; rintro e w4 ⟨rfl, hb4⟩
  have c4 := Below.chain c3 hb4
  go_wp2_with fail
  refine (S1 _).mono ?_; rintro e w' ⟨rfl, rfl⟩
  go_wp2_with fail
  go_ret
  exact ⟨rfl, c4⟩
set_option maxHeartbeats 2000000 in
theorem coreL (a : Nat) (t : List UInt8) (s : ByteArray) (hs : 50 < s.size) (f : Nat) (c : Int)
    (TX : ∀ w, Tabs w → Calls Tryd.prog 25 #[.float .f64 a] w fun e w' => e = .returned (.string ⟨t.toArray⟩) ∧ Below w.heap.size w w')
    (RX : ∀ w, Calls Tryd.prog 26 #[.float .f64 a] w fun e w' => e = .returned (.string ⟨t.toArray⟩) ∧ Below w.heap.size w w')
    (PX : ∀ w, Tabs w → Calls Tryd.prog 23 #[.string (s.extract 0 50)] w fun e w' => e = .returned (.tuple #[.float .f64 f, .int .i64 c]) ∧ Below w.heap.size w w')
    (QX : ∀ w, Calls Tryd.prog 24 #[.string (s.extract 0 50)] w fun e w' => e = .returned (.tuple #[.float .f64 f, .int .i64 c]) ∧ w = w')
    (S1 : ∀ w, Calls Tryd.prog 22 #[.float .f64 f, .float .f64 f] w fun e w' => e = .returned (.bool true) ∧ w = w') (w : World) (hT : Tabs w) :
    Calls Tryd.prog 5 #[.int .u64 (a : Int), .string s] w fun e w' => e = .returned (.bool true) ∧ Below w.heap.size w w' := by
  have hmin : min (s.size : Int) 50 = 50 := by omega
  go_enter Tryd.func5, Tryd.ntmps5
  go_wp2_with fail
  refine (shown_any _ hT).mono ?_; rintro e w1 ⟨rfl, hb1⟩
  go_wp2_with fail
  refine (of_nat a _).mono ?_; rintro e w' ⟨rfl, rfl⟩
  go_wp2_with fail
  refine (PX _ (hT.below hb1)).mono ?_; rintro e w2 ⟨rfl, hb2⟩
  have c2 := Below.chain hb1 hb2
  go_wp2_with fail
  refine (QX _).mono ?_; rintro e w' ⟨rfl, rfl⟩
  go_wp2_with fail
  refine (TX _ (hT.below c2)).mono ?_; rintro e w3 ⟨rfl, hb3⟩
  have c3 := Below.chain c2 hb3
  go_wp2_with fail
  refine (RX _).mono ?_; rintro e w4 ⟨rfl, hb4⟩
  have c4 := Below.chain c3 hb4
  go_wp2_with fail
  refine (S1 _).mono ?_; rintro e w' ⟨rfl, rfl⟩
  go_wp2_with fail
  go_ret
  exact ⟨rfl, c4⟩
theorem ps_form (o : Option Nat) : ∃ (f : Nat) (c : Int), psTuple o = .tuple #[.float .f64 f, .int .i64 c] := by
  cases o with
  | none => exact ⟨0, 2, rfl⟩
  | some g => exact ⟨g, 0, rfl⟩
theorem walk (a : Nat) (s : ByteArray) (ha : a < 18446744073709551616) (hs0 : s.size ≤ maxLen) (w : World) (hT : Tabs w) :
    Calls Tryd.prog 5 #[.int .u64 (a : Int), .string s] w fun e w' => e = .returned (.bool true) ∧ Below w.heap.size w w' := by
  have TX := fun w hT => text_any a ha w hT
  have RX := fun w => rtext_any a ha w
  by_cases hs : s.size ≤ 50
  · obtain ⟨f, c, hfc⟩ := ps_form (parseSem s.data.toList)
    have PX := fun w hT => parse_any s (by omega) w hT
    have QX := fun w => rparse_any s hs w
    rw [hfc] at PX QX
    have S1 := same_any f f
    rw [decide_eq_true rfl] at S1
    exact coreS a _ s hs f c TX RX PX QX S1 w hT
  · have h50 : (s.extract 0 50).size ≤ 50 := by rw [ByteArray.size_extract]; omega
    obtain ⟨f, c, hfc⟩ := ps_form (parseSem (s.extract 0 50).data.toList)
    have PX := fun w hT => parse_any (s.extract 0 50) (by omega) w hT
    have QX := fun w => rparse_any (s.extract 0 50) h50 w
    rw [hfc] at PX QX
    have S1 := same_any f f
    rw [decide_eq_true rfl] at S1
    exact coreL a _ s (by omega) f c TX RX PX QX S1 w hT
end Go.Proofs.YtpnbjofddlbagaaDoor.NumTexts
