/- The walk of the law PackOrder. -/
import Derived.Test.YtcbogapnhabhkaaPL
import Derived.Test.YtcbogapnhabhkaaPN
namespace Go.Proofs.Ytcbogapnhabhkaa.PackOrder
open Go Go.RowKit
set_option linter.unusedVariables false
theorem walk (a b : Nat) (ha : a < 18446744073709551616) (hb : b < 18446744073709551616) (w : World) :
    Calls Try.prog 7 #[.int .u64 a, .int .u64 b] w fun e w' => e = .returned (.bool true) ∧ Below w.heap.size w w' := by
  have P1 := Lib.hid (put_nil a ha)
  have P2 := Lib.hid (put_nil b hb)
  have hL := numB_less a b ha hb
  have hE := numB_eq a b ha hb
  go_enter Try.func7, Try.ntmps7
  go_wp2_with fail
  refine (shown_any _).mono ?_; rintro e w1 ⟨rfl, hb1⟩
  go_wp2_with fail
  refine (P1.out _).mono ?_; rintro e w2 ⟨v2, rfl, hO2, hb2⟩
  have hS2 := run_string_bs hO2.bs
  go_wp2_with fail
  refine (P2.out _).mono ?_; rintro e w3 ⟨v3, rfl, hO3, hb3⟩
  have hS3 := run_string_bs hO3.bs
  go_wp2_with fail
  go_ret
  exact ⟨rfl, Below.chain (Below.chain hb1 hb2) hb3⟩
end Go.Proofs.Ytcbogapnhabhkaa.PackOrder
