import Derived.Test.YtmfjcphjncgigaaHL
import Derived.Laws.BytesArg
namespace Go.Proofs.Ytmfjcphjncgigaa
open Go Go.RowKit
set_option linter.unusedVariables false
theorem u8w (c : Nat) (h : c < 256) : IntKind.u8.wrap (c : Int) = (c : Int) := by simp [IntKind.wrap, IntKind.bits, IntKind.signed]; omega
theorem conv1 (W : World) (b : Nat) (c : Int) (h : W.cell? ⟨b, 0, none⟩ = some (.int .u8 c)) : (convert 102 9 (.slice (some ⟨b, 0, none⟩) 1 1)).run Try.prog W = .ok (.string ⟨#[UInt8.ofNat c.toNat]⟩) W :=
  run_convert_bytes_arg (P := Try.prog) (w := W) 102 5 Try.underlying102 Try.underlying5 b 0 1 1 [c] rfl (fun i hi => by
    have : i = 0 := by omega
    subst this
    exact h) 9 Try.underlying9
theorem ret_str {a b : ByteArray} (h : a = b) : Ending.returned (.string a) = .returned (.string b) := by rw [h]
theorem rint_00 (N Q R M : Int) (c : Nat) (D : List UInt8) (hD : D.length ≤ 30) (e2 : N.tmod 10 = R) (hs : decide (R < 0) = false) (e5 : wrap64 (-R) = M) (e3 : wrap64 (48 + R) = (c : Int)) (e4 : IntKind.u8.wrap (c : Int) = (c : Int)) (e1 : wrap64 (N.tdiv 10) = Q) (hz : (Q != 0) = false) (w : World) : Calls Try.prog 29 #[.int .i64 N] w fun e w' => e = .returned (.string ⟨([UInt8.ofNat c]).toArray⟩) ∧ Below w.heap.size w w' := by
  have hc := conv1
  have HS := Lib.hid (ByteArray.mk_append_mk D [UInt8.ofNat c])
  have f1 : IntKind.i64.wrap (N.tdiv 10) = Q := by rw [IntWalk.i64_left]; exact e1
  have f3 : IntKind.i64.wrap (48 + R) = (c : Int) := by rw [IntWalk.i64_left]; exact e3
  have f5 : IntKind.i64.wrap (-R) = M := by rw [IntWalk.i64_left]; exact e5
  go_enter Try.func29, Try.ntmps29
  go_wp2_with fail
  go_ret
  exact ⟨rfl, below_a1 _ _⟩
theorem rint_01 (N Q R M : Int) (c : Nat) (D : List UInt8) (hD : D.length ≤ 30) (e2 : N.tmod 10 = R) (hs : decide (R < 0) = false) (e5 : wrap64 (-R) = M) (e3 : wrap64 (48 + R) = (c : Int)) (e4 : IntKind.u8.wrap (c : Int) = (c : Int)) (e1 : wrap64 (N.tdiv 10) = Q) (hz : (Q != 0) = true) (IH : ∀ w, Calls Try.prog 29 #[.int .i64 Q] w fun e w' => e = .returned (.string ⟨D.toArray⟩) ∧ Below w.heap.size w w') (w : World) : Calls Try.prog 29 #[.int .i64 N] w fun e w' => e = .returned (.string ⟨(D ++ [UInt8.ofNat c]).toArray⟩) ∧ Below w.heap.size w w' := by
  have hc := conv1
  have HS := Lib.hid (ByteArray.mk_append_mk D [UInt8.ofNat c])
  have f1 : IntKind.i64.wrap (N.tdiv 10) = Q := by rw [IntWalk.i64_left]; exact e1
  have f3 : IntKind.i64.wrap (48 + R) = (c : Int) := by rw [IntWalk.i64_left]; exact e3
  have f5 : IntKind.i64.wrap (-R) = M := by rw [IntWalk.i64_left]; exact e5
  go_enter Try.func29, Try.ntmps29
  go_wp2_with fail
  refine (IH _).mono ?_; rintro e w1 ⟨rfl, hb⟩
  go_wp2_with fail
  go_ret
  exact ⟨ret_str HS.out, Below.chain (below_a1 _ _) hb⟩
theorem rint_nat (n : Nat) (h : n < 10000) (w : World) : Calls Try.prog 29 #[.int .i64 (n : Int)] w fun e w' => e = .returned (.string ⟨(Lib.decDigits n).toArray⟩) ∧ Below w.heap.size w w' := by
  induction n using Nat.strongRecOn generalizing w with
  | ind n ih =>
    have hc : IntKind.u8.wrap ((48 + n % 10 : Nat) : Int) = ((48 + n % 10 : Nat) : Int) := u8w _ (by omega)
    have hw : ∀ x : Int, -9223372036854775808 ≤ x → x ≤ 9223372036854775807 → wrap64 x = x := fun x h1 h2 => IntWalk.wrap64_in x ⟨h1, h2⟩
    have m1 : ((n : Nat) : Int).tmod 10 = ((n % 10 : Nat) : Int) := by rw [Int.tmod_eq_emod_of_nonneg (by omega)]; omega
    have d1 : ((n : Nat) : Int).tdiv 10 = ((n / 10 : Nat) : Int) := by rw [Int.tdiv_eq_ediv_of_nonneg (by omega)]; omega
    by_cases h10 : n < 10
    · rw [Lib.decDigits_one h10]
      have := rint_00 (n : Int) 0 ((n % 10 : Nat) : Int) (-((n % 10 : Nat) : Int)) (48 + n % 10) [] (by simp) m1 (by simp; omega) (hw _ (by omega) (by omega)) (by rw [hw _ (by omega) (by omega)]; omega) hc (by rw [d1, hw _ (by omega) (by omega)]; omega) (by decide) w
      rw [Nat.mod_eq_of_lt h10] at this
      exact this
    · rw [dec_more h10]
      have hl := dec_short 3 (n / 10) (by omega)
      exact rint_01 (n : Int) _ ((n % 10 : Nat) : Int) (-((n % 10 : Nat) : Int)) (48 + n % 10) _ (by omega) m1 (by simp; omega) (hw _ (by omega) (by omega)) (by rw [hw _ (by omega) (by omega)]; omega) hc (by rw [d1]; exact hw _ (by omega) (by omega)) (by simp; omega) (fun w => ih (n / 10) (by omega) (by omega) w) w
end Go.Proofs.Ytmfjcphjncgigaa
