import Derived.Test.YtainigcchlgehaaGreatDoorB6
import Derived.Test.YtainigcchlgehaaGreatDoorA4
namespace Go.Proofs.YtainigcchlgehaaGreatDoor
open Go Go.RowKit
set_option linter.unusedVariables false
theorem rint_00 (N Q R M : Int) (c : Nat) (D : List UInt8) (hD : D.length ≤ 30) (e2 : N.tmod 10 = R) (hs : decide (R < 0) = false) (e5 : wrap64 (-R) = M) (e3 : wrap64 (48 + R) = (c : Int)) (e4 : IntKind.u8.wrap (c : Int) = (c : Int)) (e1 : wrap64 (N.tdiv 10) = Q) (hz : (Q != 0) = false) (w : World) : Calls Tryz.prog 23 #[.int .i64 N] w fun e w' => e = .returned (.string ⟨([UInt8.ofNat c]).toArray⟩) ∧ Below w.heap.size w w' := by
  have hc := conv1
  have HS := Lib.hid (ByteArray.mk_append_mk D [UInt8.ofNat c])
  have f1 : IntKind.i64.wrap (N.tdiv 10) = Q := by rw [IntWalk.i64_left]; exact e1
  have f3 : IntKind.i64.wrap (48 + R) = (c : Int) := by rw [IntWalk.i64_left]; exact e3
  have f5 : IntKind.i64.wrap (-R) = M := by rw [IntWalk.i64_left]; exact e5
  go_enter Tryz.func23, Tryz.ntmps23
  go_wp2_with fail
  go_ret
  exact ⟨rfl, below_a1 _ _⟩
theorem rint_01 (N Q R M : Int) (c : Nat) (D : List UInt8) (hD : D.length ≤ 30) (e2 : N.tmod 10 = R) (hs : decide (R < 0) = false) (e5 : wrap64 (-R) = M) (e3 : wrap64 (48 + R) = (c : Int)) (e4 : IntKind.u8.wrap (c : Int) = (c : Int)) (e1 : wrap64 (N.tdiv 10) = Q) (hz : (Q != 0) = true) (IH : ∀ w, Calls Tryz.prog 23 #[.int .i64 Q] w fun e w' => e = .returned (.string ⟨D.toArray⟩) ∧ Below w.heap.size w w') (w : World) : Calls Tryz.prog 23 #[.int .i64 N] w fun e w' => e = .returned (.string ⟨(D ++ [UInt8.ofNat c]).toArray⟩) ∧ Below w.heap.size w w' := by
  have hc := conv1
  have HS := Lib.hid (ByteArray.mk_append_mk D [UInt8.ofNat c])
  have f1 : IntKind.i64.wrap (N.tdiv 10) = Q := by rw [IntWalk.i64_left]; exact e1
  have f3 : IntKind.i64.wrap (48 + R) = (c : Int) := by rw [IntWalk.i64_left]; exact e3
  have f5 : IntKind.i64.wrap (-R) = M := by rw [IntWalk.i64_left]; exact e5
  go_enter Tryz.func23, Tryz.ntmps23
  go_wp2_with fail
  refine (IH _).mono ?_; rintro e w1 ⟨rfl, hb⟩
  go_wp2_with fail
  go_ret
  exact ⟨ret_str HS.out, Below.chain (below_a1 _ _) hb⟩
theorem rint_10 (N Q R M : Int) (c : Nat) (D : List UInt8) (hD : D.length ≤ 30) (e2 : N.tmod 10 = R) (hs : decide (R < 0) = true) (e5 : wrap64 (-R) = M) (e3 : wrap64 (48 + M) = (c : Int)) (e4 : IntKind.u8.wrap (c : Int) = (c : Int)) (e1 : wrap64 (N.tdiv 10) = Q) (hz : (Q != 0) = false) (w : World) : Calls Tryz.prog 23 #[.int .i64 N] w fun e w' => e = .returned (.string ⟨([UInt8.ofNat c]).toArray⟩) ∧ Below w.heap.size w w' := by
  have hc := conv1
  have HS := Lib.hid (ByteArray.mk_append_mk D [UInt8.ofNat c])
  have f1 : IntKind.i64.wrap (N.tdiv 10) = Q := by rw [IntWalk.i64_left]; exact e1
  have f3 : IntKind.i64.wrap (48 + M) = (c : Int) := by rw [IntWalk.i64_left]; exact e3
  have f5 : IntKind.i64.wrap (-R) = M := by rw [IntWalk.i64_left]; exact e5
  go_enter Tryz.func23, Tryz.ntmps23
  go_wp2_with fail
  go_ret
  exact ⟨rfl, below_a1 _ _⟩
theorem rint_11 (N Q R M : Int) (c : Nat) (D : List UInt8) (hD : D.length ≤ 30) (e2 : N.tmod 10 = R) (hs : decide (R < 0) = true) (e5 : wrap64 (-R) = M) (e3 : wrap64 (48 + M) = (c : Int)) (e4 : IntKind.u8.wrap (c : Int) = (c : Int)) (e1 : wrap64 (N.tdiv 10) = Q) (hz : (Q != 0) = true) (IH : ∀ w, Calls Tryz.prog 23 #[.int .i64 Q] w fun e w' => e = .returned (.string ⟨D.toArray⟩) ∧ Below w.heap.size w w') (w : World) : Calls Tryz.prog 23 #[.int .i64 N] w fun e w' => e = .returned (.string ⟨(D ++ [UInt8.ofNat c]).toArray⟩) ∧ Below w.heap.size w w' := by
  have hc := conv1
  have HS := Lib.hid (ByteArray.mk_append_mk D [UInt8.ofNat c])
  have f1 : IntKind.i64.wrap (N.tdiv 10) = Q := by rw [IntWalk.i64_left]; exact e1
  have f3 : IntKind.i64.wrap (48 + M) = (c : Int) := by rw [IntWalk.i64_left]; exact e3
  have f5 : IntKind.i64.wrap (-R) = M := by rw [IntWalk.i64_left]; exact e5
  go_enter Tryz.func23, Tryz.ntmps23
  go_wp2_with fail
  refine (IH _).mono ?_; rintro e w1 ⟨rfl, hb⟩
  go_wp2_with fail
  go_ret
  exact ⟨ret_str HS.out, Below.chain (below_a1 _ _) hb⟩
theorem rint_any (n : Nat) (h : n ≤ 9223372036854775808) (b : Bool) (hb : b = true ∨ n < 9223372036854775808) (w : World) : Calls Tryz.prog 23 #[.int .i64 (if b = true then -(n : Int) else (n : Int))] w fun e w' => e = .returned (.string ⟨(Lib.decDigits n).toArray⟩) ∧ Below w.heap.size w w' := by
  induction n using Nat.strongRecOn generalizing w with
  | ind n ih =>
    have hc : IntKind.u8.wrap ((48 + n % 10 : Nat) : Int) = ((48 + n % 10 : Nat) : Int) := u8w _ (by omega)
    have hw : ∀ x : Int, -9223372036854775808 ≤ x → x ≤ 9223372036854775807 → wrap64 x = x := fun x h1 h2 => IntWalk.wrap64_in x ⟨h1, h2⟩
    have IH := fun (h10 : ¬ n < 10) => ih (n / 10) (by omega) (by omega) (by omega)
    have hdl := fun (h10 : ¬ n < 10) => Nat.le_trans (Flt.dec_len (m := n / 10) (by omega)) (show _ ≤ 30 by omega)
    have hdd := fun (h10 : ¬ n < 10) => (show Lib.decDigits n = Lib.decDigits (n / 10) ++ [UInt8.ofNat (48 + n % 10)] from by rw [Lib.decDigits, dif_neg h10])
    cases b
    · simp only [Bool.false_eq_true, if_false] at IH ⊢
      have m1 : ((n : Nat) : Int).tmod 10 = ((n % 10 : Nat) : Int) := by rw [Int.tmod_eq_emod_of_nonneg (by omega)]; omega
      have d1 : ((n : Nat) : Int).tdiv 10 = ((n / 10 : Nat) : Int) := by rw [Int.tdiv_eq_ediv_of_nonneg (by omega)]; omega
      by_cases h10 : n < 10
      · rw [Lib.decDigits_one h10]
        have := rint_00 (n : Int) 0 ((n % 10 : Nat) : Int) (-((n % 10 : Nat) : Int)) (48 + n % 10) [] (by simp) m1 (by simp; omega) (hw _ (by omega) (by omega)) (by rw [hw _ (by omega) (by omega)]; omega) hc (by rw [d1, hw _ (by omega) (by omega)]; omega) (by decide) w
        rw [Nat.mod_eq_of_lt h10] at this
        exact this
      · rw [hdd h10]
        exact rint_01 (n : Int) _ ((n % 10 : Nat) : Int) (-((n % 10 : Nat) : Int)) (48 + n % 10) _ (hdl h10) m1 (by simp; omega) (hw _ (by omega) (by omega)) (by rw [hw _ (by omega) (by omega)]; omega) hc (by rw [d1]; exact hw _ (by omega) (by omega)) (by simp; omega) (IH h10) w
    · simp only [if_true] at IH ⊢
      have m1 : (-((n : Nat) : Int)).tmod 10 = -((n % 10 : Nat) : Int) := by rw [Int.neg_tmod, Int.tmod_eq_emod_of_nonneg (by omega)]; omega
      have d1 : (-((n : Nat) : Int)).tdiv 10 = -((n / 10 : Nat) : Int) := by rw [Int.neg_tdiv, Int.tdiv_eq_ediv_of_nonneg (by omega)]; omega
      by_cases hr0 : n % 10 = 0
      · by_cases h10 : n < 10
        · rw [Lib.decDigits_one h10]
          have := rint_00 (-(n : Int)) 0 (-((n % 10 : Nat) : Int)) ((n % 10 : Nat) : Int) (48 + n % 10) [] (by simp) m1 (by simp; omega) (by rw [hw _ (by omega) (by omega)]; omega) (by rw [hw _ (by omega) (by omega)]; omega) hc (by rw [d1, hw _ (by omega) (by omega)]; omega) (by decide) w
          rw [Nat.mod_eq_of_lt h10] at this
          exact this
        · rw [hdd h10]
          exact rint_01 (-(n : Int)) _ (-((n % 10 : Nat) : Int)) ((n % 10 : Nat) : Int) (48 + n % 10) _ (hdl h10) m1 (by simp; omega) (by rw [hw _ (by omega) (by omega)]; omega) (by rw [hw _ (by omega) (by omega)]; omega) hc (by rw [d1]; exact hw _ (by omega) (by omega)) (by simp; omega) (IH h10) w
      · by_cases h10 : n < 10
        · rw [Lib.decDigits_one h10]
          have := rint_10 (-(n : Int)) 0 (-((n % 10 : Nat) : Int)) ((n % 10 : Nat) : Int) (48 + n % 10) [] (by simp) m1 (by simp; omega) (by rw [hw _ (by omega) (by omega)]; omega) (by rw [hw _ (by omega) (by omega)]; omega) hc (by rw [d1, hw _ (by omega) (by omega)]; omega) (by decide) w
          rw [Nat.mod_eq_of_lt h10] at this
          exact this
        · rw [hdd h10]
          exact rint_11 (-(n : Int)) _ (-((n % 10 : Nat) : Int)) ((n % 10 : Nat) : Int) (48 + n % 10) _ (hdl h10) m1 (by simp; omega) (by rw [hw _ (by omega) (by omega)]; omega) (by rw [hw _ (by omega) (by omega)]; omega) hc (by rw [d1]; exact hw _ (by omega) (by omega)) (by simp; omega) (IH h10) w
end Go.Proofs.YtainigcchlgehaaGreatDoor


