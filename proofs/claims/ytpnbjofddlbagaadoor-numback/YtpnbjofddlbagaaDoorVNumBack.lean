/- The walk of the law NumBack. -/
import Derived.Test.YtpnbjofddlbagaaDoorWo
import Derived.Test.YtpnbjofddlbagaaDoorWq
namespace Go.Proofs.YtpnbjofddlbagaaDoor.NumBack
open Go Go.RowKit
set_option linter.unusedVariables false
theorem of_nat (a : Nat) (w : World) : Calls Tryd.prog 13 #[.int .u64 (a : Int)] w fun e w' => e = .returned (.float .f64 a) ∧ w = w' := of_any (a : Int) w
set_option maxHeartbeats 2000000 in
theorem coreSn (a c : Nat) (t : List UInt8) (s : ByteArray) (hs : s.size ≤ 50)
    (TX : ∀ w, Tabs w → Calls Tryd.prog 25 #[.float .f64 a] w fun e w' => e = .returned (.string ⟨t.toArray⟩) ∧ Below w.heap.size w w')
    (PX : ∀ w, Tabs w → Calls Tryd.prog 23 #[.string ⟨t.toArray⟩] w fun e w' => e = .returned (.tuple #[.float .f64 c, .int .i64 0]) ∧ Below w.heap.size w w')
    (CX : ∀ w, Calls Tryd.prog 15 #[.float .f64 a] w fun e w' => e = .returned (.float .f64 c) ∧ w = w') (S1 : ∀ w, Calls Tryd.prog 22 #[.float .f64 c, .float .f64 c] w fun e w' => e = .returned (.bool true) ∧ w = w')
    (P2 : ∀ w, Tabs w → Calls Tryd.prog 23 #[.string s] w fun e w' => e = .returned (.tuple #[.float .f64 0, .int .i64 2]) ∧ Below w.heap.size w w') (S2 : ∀ w, Calls Tryd.prog 22 #[.float .f64 0, .float .f64 0] w fun e w' => e = .returned (.bool true) ∧ w = w') (w : World) (hT : Tabs w) :
    Calls Tryd.prog 6 #[.int .u64 (a : Int), .string s] w fun e w' => e = .returned (.bool true) ∧ Below w.heap.size w w' := by
  have hmin : min (s.size : Int) 50 = s.size := by omega
  go_enter Tryd.func6, Tryd.ntmps6
  go_wp2_with fail
  refine (shown_any _ hT).mono ?_; rintro e w1 ⟨rfl, hb1⟩
  go_wp2_with fail
  refine (of_nat a _).mono ?_; rintro e w' ⟨rfl, rfl⟩
  go_wp2_with fail
  refine (TX _ (hT.below hb1)).mono ?_; rintro e w2 ⟨rfl, hb2⟩
  have c2 := Below.chain hb1 hb2
  go_wp2_with fail
  refine (PX _ (hT.below c2)).mono ?_; rintro e w3 ⟨rfl, hb3⟩
  have c3 := Below.chain c2 hb3
  go_wp2_with fail
  refine (CX _).mono ?_; rintro e w' ⟨rfl, rfl⟩
  go_wp2_with fail
  refine (S1 _).mono ?_; rintro e w' ⟨rfl, rfl⟩
  go_wp2_with fail
  refine (P2 _ (hT.below c3)).mono ?_; rintro e w4 ⟨rfl, hb4⟩
  have c4 := Below.chain c3 hb4
  go_wp2_with fail
  refine (S2 _).mono ?_; rintro e w' ⟨rfl, rfl⟩
  go_wp2_with fail
  go_ret
  exact ⟨rfl, c4⟩
set_option maxHeartbeats 2000000 in
theorem coreSs (a c : Nat) (t : List UInt8) (s : ByteArray) (hs : s.size ≤ 50)
    (TX : ∀ w, Tabs w → Calls Tryd.prog 25 #[.float .f64 a] w fun e w' => e = .returned (.string ⟨t.toArray⟩) ∧ Below w.heap.size w w')
    (PX : ∀ w, Tabs w → Calls Tryd.prog 23 #[.string ⟨t.toArray⟩] w fun e w' => e = .returned (.tuple #[.float .f64 c, .int .i64 0]) ∧ Below w.heap.size w w')
    (CX : ∀ w, Calls Tryd.prog 15 #[.float .f64 a] w fun e w' => e = .returned (.float .f64 c) ∧ w = w') (S1 : ∀ w, Calls Tryd.prog 22 #[.float .f64 c, .float .f64 c] w fun e w' => e = .returned (.bool true) ∧ w = w')
    (g : Nat) (tg : List UInt8) (P2 : ∀ w, Tabs w → Calls Tryd.prog 23 #[.string s] w fun e w' => e = .returned (.tuple #[.float .f64 g, .int .i64 0]) ∧ Below w.heap.size w w')
    (TG : ∀ w, Tabs w → Calls Tryd.prog 25 #[.float .f64 g] w fun e w' => e = .returned (.string ⟨tg.toArray⟩) ∧ Below w.heap.size w w') (hg : (tg == s.toList) = true)
    (CG : ∀ w, Calls Tryd.prog 15 #[.float .f64 g] w fun e w' => e = .returned (.float .f64 g) ∧ w = w') (SG : ∀ w, Calls Tryd.prog 22 #[.float .f64 g, .float .f64 g] w fun e w' => e = .returned (.bool true) ∧ w = w') (w : World) (hT : Tabs w) :
    Calls Tryd.prog 6 #[.int .u64 (a : Int), .string s] w fun e w' => e = .returned (.bool true) ∧ Below w.heap.size w w' := by
  have hmin : min (s.size : Int) 50 = s.size := by omega
  go_enter Tryd.func6, Tryd.ntmps6
  go_wp2_with fail
  refine (shown_any _ hT).mono ?_; rintro e w1 ⟨rfl, hb1⟩
  go_wp2_with fail
  refine (of_nat a _).mono ?_; rintro e w' ⟨rfl, rfl⟩
  go_wp2_with fail
  refine (TX _ (hT.below hb1)).mono ?_; rintro e w2 ⟨rfl, hb2⟩
  have c2 := Below.chain hb1 hb2
  go_wp2_with fail
  refine (PX _ (hT.below c2)).mono ?_; rintro e w3 ⟨rfl, hb3⟩
  have c3 := Below.chain c2 hb3
  go_wp2_with fail
  refine (CX _).mono ?_; rintro e w' ⟨rfl, rfl⟩
  go_wp2_with fail
  refine (S1 _).mono ?_; rintro e w' ⟨rfl, rfl⟩
  go_wp2_with fail
  refine (P2 _ (hT.below c3)).mono ?_; rintro e w4 ⟨rfl, hb4⟩
  have c4 := Below.chain c3 hb4
  go_wp2_with fail
  refine (TG _ (hT.below c4)).mono ?_; rintro e w5 ⟨rfl, hb5⟩
  have c5 := Below.chain c4 hb5
  go_wp2_with fail
  refine (CG _).mono ?_; rintro e w' ⟨rfl, rfl⟩
  go_wp2_with fail
  refine (SG _).mono ?_; rintro e w' ⟨rfl, rfl⟩
  go_wp2_with fail
  go_ret
  exact ⟨rfl, c5⟩
set_option maxHeartbeats 2000000 in
theorem coreLn (a c : Nat) (t : List UInt8) (s : ByteArray) (hs : 50 < s.size)
    (TX : ∀ w, Tabs w → Calls Tryd.prog 25 #[.float .f64 a] w fun e w' => e = .returned (.string ⟨t.toArray⟩) ∧ Below w.heap.size w w')
    (PX : ∀ w, Tabs w → Calls Tryd.prog 23 #[.string ⟨t.toArray⟩] w fun e w' => e = .returned (.tuple #[.float .f64 c, .int .i64 0]) ∧ Below w.heap.size w w')
    (CX : ∀ w, Calls Tryd.prog 15 #[.float .f64 a] w fun e w' => e = .returned (.float .f64 c) ∧ w = w') (S1 : ∀ w, Calls Tryd.prog 22 #[.float .f64 c, .float .f64 c] w fun e w' => e = .returned (.bool true) ∧ w = w')
    (P2 : ∀ w, Tabs w → Calls Tryd.prog 23 #[.string (s.extract 0 50)] w fun e w' => e = .returned (.tuple #[.float .f64 0, .int .i64 2]) ∧ Below w.heap.size w w') (S2 : ∀ w, Calls Tryd.prog 22 #[.float .f64 0, .float .f64 0] w fun e w' => e = .returned (.bool true) ∧ w = w') (w : World) (hT : Tabs w) :
    Calls Tryd.prog 6 #[.int .u64 (a : Int), .string s] w fun e w' => e = .returned (.bool true) ∧ Below w.heap.size w w' := by
  have hmin : min (s.size : Int) 50 = 50 := by omega
  go_enter Tryd.func6, Tryd.ntmps6
  go_wp2_with fail
  refine (shown_any _ hT).mono ?_; rintro e w1 ⟨rfl, hb1⟩
  go_wp2_with fail
  refine (of_nat a _).mono ?_; rintro e w' ⟨rfl, rfl⟩
  go_wp2_with fail
  refine (TX _ (hT.below hb1)).mono ?_; rintro e w2 ⟨rfl, hb2⟩
  have c2 := Below.chain hb1 hb2
  go_wp2_with fail
  refine (PX _ (hT.below c2)).mono ?_; rintro e w3 ⟨rfl, hb3⟩
  have c3 := Below.chain c2 hb3
  go_wp2_with fail
  refine (CX _).mono ?_; rintro e w' ⟨rfl, rfl⟩
  go_wp2_with fail
  refine (S1 _).mono ?_; rintro e w' ⟨rfl, rfl⟩
  go_wp2_with fail
  refine (P2 _ (hT.below c3)).mono ?_; rintro e w4 ⟨rfl, hb4⟩
  have c4 := Below.chain c3 hb4
  go_wp2_with fail
  refine (S2 _).mono ?_; rintro e w' ⟨rfl, rfl⟩
  go_wp2_with fail
  go_ret
  exact ⟨rfl, c4⟩
set_option maxHeartbeats 2000000 in
theorem coreLs (a c : Nat) (t : List UInt8) (s : ByteArray) (hs : 50 < s.size)
    (TX : ∀ w, Tabs w → Calls Tryd.prog 25 #[.float .f64 a] w fun e w' => e = .returned (.string ⟨t.toArray⟩) ∧ Below w.heap.size w w')
    (PX : ∀ w, Tabs w → Calls Tryd.prog 23 #[.string ⟨t.toArray⟩] w fun e w' => e = .returned (.tuple #[.float .f64 c, .int .i64 0]) ∧ Below w.heap.size w w')
    (CX : ∀ w, Calls Tryd.prog 15 #[.float .f64 a] w fun e w' => e = .returned (.float .f64 c) ∧ w = w') (S1 : ∀ w, Calls Tryd.prog 22 #[.float .f64 c, .float .f64 c] w fun e w' => e = .returned (.bool true) ∧ w = w')
    (g : Nat) (tg : List UInt8) (P2 : ∀ w, Tabs w → Calls Tryd.prog 23 #[.string (s.extract 0 50)] w fun e w' => e = .returned (.tuple #[.float .f64 g, .int .i64 0]) ∧ Below w.heap.size w w')
    (TG : ∀ w, Tabs w → Calls Tryd.prog 25 #[.float .f64 g] w fun e w' => e = .returned (.string ⟨tg.toArray⟩) ∧ Below w.heap.size w w') (hg : (tg == (s.extract 0 50).toList) = true)
    (CG : ∀ w, Calls Tryd.prog 15 #[.float .f64 g] w fun e w' => e = .returned (.float .f64 g) ∧ w = w') (SG : ∀ w, Calls Tryd.prog 22 #[.float .f64 g, .float .f64 g] w fun e w' => e = .returned (.bool true) ∧ w = w') (w : World) (hT : Tabs w) :
    Calls Tryd.prog 6 #[.int .u64 (a : Int), .string s] w fun e w' => e = .returned (.bool true) ∧ Below w.heap.size w w' := by
  have hmin : min (s.size : Int) 50 = 50 := by omega
  go_enter Tryd.func6, Tryd.ntmps6
  go_wp2_with fail
  refine (shown_any _ hT).mono ?_; rintro e w1 ⟨rfl, hb1⟩
  go_wp2_with fail
  refine (of_nat a _).mono ?_; rintro e w' ⟨rfl, rfl⟩
  go_wp2_with fail
  refine (TX _ (hT.below hb1)).mono ?_; rintro e w2 ⟨rfl, hb2⟩
  have c2 := Below.chain hb1 hb2
  go_wp2_with fail
  refine (PX _ (hT.below c2)).mono ?_; rintro e w3 ⟨rfl, hb3⟩
  have c3 := Below.chain c2 hb3
  go_wp2_with fail
  refine (CX _).mono ?_; rintro e w' ⟨rfl, rfl⟩
  go_wp2_with fail
  refine (S1 _).mono ?_; rintro e w' ⟨rfl, rfl⟩
  go_wp2_with fail
  refine (P2 _ (hT.below c3)).mono ?_; rintro e w4 ⟨rfl, hb4⟩
  have c4 := Below.chain c3 hb4
  go_wp2_with fail
  refine (TG _ (hT.below c4)).mono ?_; rintro e w5 ⟨rfl, hb5⟩
  have c5 := Below.chain c4 hb5
  go_wp2_with fail
  refine (CG _).mono ?_; rintro e w' ⟨rfl, rfl⟩
  go_wp2_with fail
  refine (SG _).mono ?_; rintro e w' ⟨rfl, rfl⟩
  go_wp2_with fail
  go_ret
  exact ⟨rfl, c5⟩
theorem walk (a : Nat) (s : ByteArray) (ha : a < 18446744073709551616) (hs0 : s.size ≤ maxLen) (w : World) (hT : Tabs w) :
    Calls Tryd.prog 6 #[.int .u64 (a : Int), .string s] w fun e w' => e = .returned (.bool true) ∧ Below w.heap.size w w' := by
  have hl := text_len a ha
  have PX := fun w hT => parse_any ⟨(Flt.text a).toArray⟩ (by show (Flt.text a).toArray.size ≤ _; simp; omega) w hT
  rw [show parseSem (ByteArray.mk (Flt.text a).toArray).data.toList = some (Flt.canon a) from parseSem_text ha] at PX
  have S1 := same_any (Flt.canon a) (Flt.canon a)
  rw [decide_eq_true rfl] at S1
  have S2 := same_any 0 0
  rw [decide_eq_true rfl] at S2
  have key : ∀ (S : ByteArray), S.size ≤ 50 → ∀ g, parseSem S.data.toList = some g → (g < 18446744073709551616 ∧ (Flt.text g == S.toList) = true ∧ Flt.canon g = g) := by
    intro S _ g hg
    obtain ⟨g1, g2, g3⟩ := parseSem_some hg
    exact ⟨g1, by rw [Lib.toList_data, g2]; simp, g3⟩
  by_cases hs : s.size ≤ 50
  · have P2 := fun w hT => parse_any s (by omega) w hT
    cases hp : parseSem s.data.toList with
    | none =>
      rw [hp] at P2
      exact coreSn a _ _ s hs (fun w hT => text_any a ha w hT) PX (canon_any a ha) S1 P2 S2 w hT
    | some g =>
      rw [hp] at P2
      obtain ⟨g1, g2, g3⟩ := key s hs g hp
      have CG := canon_any g g1
      rw [g3] at CG
      have SG := same_any g g
      rw [decide_eq_true rfl] at SG
      exact coreSs a _ _ s hs (fun w hT => text_any a ha w hT) PX (canon_any a ha) S1 g _ P2 (fun w hT => text_any g g1 w hT) g2 CG SG w hT
  · have h50 : (s.extract 0 50).size ≤ 50 := by rw [ByteArray.size_extract]; omega
    have P2 := fun w hT => parse_any (s.extract 0 50) (by omega) w hT
    cases hp : parseSem (s.extract 0 50).data.toList with
    | none =>
      rw [hp] at P2
      exact coreLn a _ _ s (by omega) (fun w hT => text_any a ha w hT) PX (canon_any a ha) S1 P2 S2 w hT
    | some g =>
      rw [hp] at P2
      obtain ⟨g1, g2, g3⟩ := key _ h50 g hp
      have CG := canon_any g g1
      rw [g3] at CG
      have SG := same_any g g
      rw [decide_eq_true rfl] at SG
      exact coreLs a _ _ s (by omega) (fun w hT => text_any a ha w hT) PX (canon_any a ha) S1 g _ P2 (fun w hT => text_any g g1 w hT) g2 CG SG w hT
end Go.Proofs.YtpnbjofddlbagaaDoor.NumBack
