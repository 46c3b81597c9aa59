import Derived.Test.YtpnbjofddlbagaaDoorRows
import Derived.Test.YtpnbjofddlbagaaDoorBits
import Derived.WalkKit
import Derived.WalkSpells
import Derived.WalkLawsBesides
import Derived.Laws.Externs
import Derived.Laws.FloatArith
import Derived.Lib.Hide
namespace Go.Proofs.YtpnbjofddlbagaaDoor
open Go

theorem run_frombits (a : Int) (w : World) : (callFunc 35 #[.int .u64 a]).run Tryd.prog w = .ok (.value (.float .f64 a.toNat)) w := by
  rw [run_callFunc_extern (e := Extern.MathFloatBits.float64frombits) Tryd.func35 (by kernel_rfl) (by kernel_rfl) (by kernel_rfl) (by kernel_rfl)]
  rfl
theorem run_bits (a : Nat) (w : World) : (callFunc 14 #[.float .f64 a]).run Tryd.prog w = .ok (.value (.int .u64 a)) w := by
  rw [run_callFunc_extern (e := Extern.MathFloatBits.float64bits) Tryd.func14 (by kernel_rfl) (by kernel_rfl) (by kernel_rfl) (by kernel_rfl)]
  rfl

namespace Flt
theorem ord_self {a : Nat} (ha : a < 18446744073709551616) : (FloatKind.f64.format.order a a != some Ordering.eq) = isNan a := by
  show (Ieee.double.order a a != some Ordering.eq) = isNan a
  cases h : isNan a
  · rw [order_eq ha ha h h]; simp
  · rw [order_nan_l ha h]; rfl
theorem ord_eq {a b : Nat} (ha : a < 18446744073709551616) (hb : b < 18446744073709551616) : (FloatKind.f64.format.order a b == some Ordering.eq) = (!isNan a && !isNan b && decide (key a = key b)) := by
  show (Ieee.double.order a b == some Ordering.eq) = _
  cases h : isNan a
  · cases h' : isNan b
    · rw [order_eq ha hb h h']
      by_cases h1 : key a < key b
      · rw [if_pos h1]; simp; omega
      · rw [if_neg h1]
        by_cases h2 : key a = key b <;> simp [h2]
    · rw [order_nan_r hb h']; rfl
  · rw [order_nan_l ha h]; rfl
theorem ord_lt {a b : Nat} (ha : a < 18446744073709551616) (hb : b < 18446744073709551616) : (FloatKind.f64.format.order a b == some Ordering.lt) = (!isNan a && !isNan b && decide (key a < key b)) := by
  show (Ieee.double.order a b == some Ordering.lt) = _
  cases h : isNan a
  · cases h' : isNan b
    · rw [order_eq ha hb h h']
      by_cases h1 : key a < key b
      · rw [if_pos h1]; simp [h1]
      · rw [if_neg h1]
        by_cases h2 : key a = key b <;> simp [h2, h1]
    · rw [order_nan_r hb h']; rfl
  · rw [order_nan_l ha h]; rfl
theorem ord_gt {a b : Nat} (ha : a < 18446744073709551616) (hb : b < 18446744073709551616) : (FloatKind.f64.format.order a b == some Ordering.gt) = (!isNan a && !isNan b && decide (key b < key a)) := by
  show (Ieee.double.order a b == some Ordering.gt) = _
  cases h : isNan a
  · cases h' : isNan b
    · rw [order_eq ha hb h h']
      by_cases h1 : key a < key b
      · rw [if_pos h1]; simp; omega
      · rw [if_neg h1]
        by_cases h2 : key a = key b
        · simp [h2]
        · simp [h2]; omega
    · rw [order_nan_r hb h']; rfl
  · rw [order_nan_l ha h]; rfl
def canon (a : Nat) : Nat := if isNan a = true then 9221120237041090561 else a
def copysign (a b : Nat) : Nat := if 9223372036854775808 ≤ b then rung a + 9223372036854775808 else rung a
end Flt

theorem ret_bool {a b : Bool} (h : a = b) : Ending.returned (.bool a) = .returned (.bool b) := by rw [h]
theorem ret_float {a b : Nat} (h : a = b) : Ending.returned (.float .f64 a) = .returned (.float .f64 b) := by rw [h]
theorem ret_int {k : IntKind} {a b : Int} (h : a = b) : Ending.returned (.int k a) = .returned (.int k b) := by rw [h]

theorem of_any (a : Int) (w : World) :
    Calls Tryd.prog 13 #[.int .u64 a] w fun e w' => e = .returned (.float .f64 a.toNat) ∧ w = w' := by
  have h1 := run_frombits
  go_enter Tryd.func13, Tryd.ntmps13
  go_wp2
  go_ret
  exact ⟨rfl, rfl⟩
theorem isnan_any (a : Nat) (ha : a < 18446744073709551616) (w : World) :
    Calls Tryd.prog 36 #[.float .f64 a] w fun e w' => e = .returned (.bool (Flt.isNan a)) ∧ w = w' := by
  go_enter Tryd.func36, Tryd.ntmps36
  go_wp2
  go_ret
  exact ⟨ret_bool (Flt.ord_self ha), rfl⟩
theorem abs_any (a : Nat) (ha : a < 18446744073709551616) (w : World) :
    Calls Tryd.prog 43 #[.float .f64 a] w fun e w' => e = .returned (.float .f64 (Flt.rung a)) ∧ w = w' := by
  have h1 := run_frombits
  have h2 := run_bits
  go_enter Tryd.func43, Tryd.ntmps43
  go_wp2
  go_ret
  exact ⟨ret_float (by rw [Flt.b_andNot_sign a ha]; rfl), rfl⟩
theorem signbit_any (a : Nat) (ha : a < 18446744073709551616) (w : World) :
    Calls Tryd.prog 41 #[.float .f64 a] w fun e w' => e = .returned (.bool (Flt.neg a)) ∧ w = w' := by
  have h2 := run_bits
  go_enter Tryd.func41, Tryd.ntmps41
  go_wp2
  go_ret
  exact ⟨ret_bool (by unfold Flt.neg RowKit.wrap64; rw [Bool.eq_iff_iff]; simp only [decide_eq_true_eq]; omega), rfl⟩
theorem copysign_any (a b : Nat) (ha : a < 18446744073709551616) (hb : b < 18446744073709551616) (w : World) :
    Calls Tryd.prog 52 #[.float .f64 a, .float .f64 b] w fun e w' => e = .returned (.float .f64 (Flt.copysign a b)) ∧ w = w' := by
  have h1 := run_frombits
  have h2 := run_bits
  go_enter Tryd.func52, Tryd.ntmps52
  go_wp2
  go_ret
  refine ⟨ret_float ?_, rfl⟩
  have hr : Flt.rung a < 9223372036854775808 := Nat.mod_lt _ (by decide)
  unfold Flt.copysign
  rw [Flt.b_andNot_sign a ha, Flt.b_and_sign b hb]
  by_cases h : 9223372036854775808 ≤ b
  · rw [if_pos h, if_pos h, Flt.b_or_sign _ hr]; rfl
  · rw [if_neg h, if_neg h, Flt.b_or_zero _ (by omega)]; rfl
theorem canon_any (a : Nat) (ha : a < 18446744073709551616) (w : World) :
    Calls Tryd.prog 15 #[.float .f64 a] w fun e w' => e = .returned (.float .f64 (Flt.canon a)) ∧ w = w' := by
  have h1 := run_frombits
  cases hn : Flt.isNan a
  · have hc : Flt.canon a = a := by unfold Flt.canon; rw [hn]; rfl
    rw [hc]
    clear hc
    go_enter Tryd.func15, Tryd.ntmps15
    go_wp2_with (go_at_call 36; refine (isnan_any _ ha _).mono ?_; rintro e w' ⟨rfl, rfl⟩)
    go_ret
    exact ⟨rfl, rfl⟩
  · have hc : Flt.canon a = 9221120237041090561 := by unfold Flt.canon; rw [hn]; rfl
    rw [hc]
    clear hc
    go_enter Tryd.func15, Tryd.ntmps15
    go_wp2_with (go_at_call 36; refine (isnan_any _ ha _).mono ?_; rintro e w' ⟨rfl, rfl⟩)
    go_ret
    exact ⟨rfl, rfl⟩
theorem same_any (a b : Nat) (w : World) :
    Calls Tryd.prog 22 #[.float .f64 a, .float .f64 b] w fun e w' => e = .returned (.bool (decide (a = b))) ∧ w = w' := by
  have h2 := run_bits
  go_enter Tryd.func22, Tryd.ntmps22
  go_wp2
  go_ret
  exact ⟨ret_bool (by rw [Bool.eq_iff_iff]; simp; omega), rfl⟩
theorem inf_pos (w : World) : Calls Tryd.prog 31 #[.int .i64 1] w fun e w' => e = .returned (.float .f64 9218868437227405312) ∧ w = w' := by
  have h1 := run_frombits
  go_enter Tryd.func31, Tryd.ntmps31
  go_wp2
  go_ret
  exact ⟨rfl, rfl⟩
theorem inf_neg (w : World) : Calls Tryd.prog 31 #[.int .i64 (-1)] w fun e w' => e = .returned (.float .f64 18442240474082181120) ∧ w = w' := by
  have h1 := run_frombits
  go_enter Tryd.func31, Tryd.ntmps31
  go_wp2
  go_ret
  exact ⟨rfl, rfl⟩
theorem nan_any (w : World) : Calls Tryd.prog 34 #[] w fun e w' => e = .returned (.float .f64 9221120237041090561) ∧ w = w' := by
  have h1 := run_frombits
  go_enter Tryd.func34, Tryd.ntmps34
  go_wp2
  go_ret
  exact ⟨rfl, rfl⟩
end Go.Proofs.YtpnbjofddlbagaaDoor
