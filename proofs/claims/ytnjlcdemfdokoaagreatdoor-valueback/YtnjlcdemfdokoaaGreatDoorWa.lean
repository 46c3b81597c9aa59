import Derived.Test.YtnjlcdemfdokoaaGreatDoorRows
import Derived.Test.YtnjlcdemfdokoaaGreatDoorBits
import Derived.WalkKit
import Derived.WalkSpells
import Derived.WalkLawsBesides
import Derived.Laws.Externs
import Derived.Laws.FloatArith
import Derived.Lib.Hide
namespace Go.Proofs.YtnjlcdemfdokoaaGreatDoor
open Go

theorem run_frombits (a : Int) (w : World) : (callFunc 34 #[.int .u64 a]).run Tryz.prog w = .ok (.value (.float .f64 a.toNat)) w := by
  rw [run_callFunc_extern (e := Extern.MathFloatBits.float64frombits) Tryz.func34 (by kernel_rfl) (by kernel_rfl) (by kernel_rfl) (by kernel_rfl)]
  rfl
theorem run_bits (a : Nat) (w : World) : (callFunc 40 #[.float .f64 a]).run Tryz.prog w = .ok (.value (.int .u64 a)) w := by
  rw [run_callFunc_extern (e := Extern.MathFloatBits.float64bits) Tryz.func40 (by kernel_rfl) (by kernel_rfl) (by kernel_rfl) (by kernel_rfl)]
  rfl

namespace Flt
theorem ord_self {a : Nat} (ha : a < 18446744073709551616) : (FloatKind.f64.format.order a a != some Ordering.eq) = isNan a := by
  show (Ieee.double.order a a != some Ordering.eq) = isNan a
  cases h : isNan a
  · rw [order_eq ha ha h h]; simp
  · rw [order_nan_l ha h]; rfl
theorem ord_eq {a b : Nat} (ha : a < 18446744073709551616) (hb : b < 18446744073709551616) : (FloatKind.f64.format.order a b == some Ordering.eq) = (!isNan a && !isNan b && decide (key a = key b)) := by
  show (Ieee.double.order a b == some Ordering.eq) = _
  cases h : isNan a
  · cases h' : isNan b
    · rw [order_eq ha hb h h']
      by_cases h1 : key a < key b
      · rw [if_pos h1]; simp; omega
      · rw [if_neg h1]
        by_cases h2 : key a = key b <;> simp [h2]
    · rw [order_nan_r hb h']; rfl
  · rw [order_nan_l ha h]; rfl
theorem ord_lt {a b : Nat} (ha : a < 18446744073709551616) (hb : b < 18446744073709551616) : (FloatKind.f64.format.order a b == some Ordering.lt) = (!isNan a && !isNan b && decide (key a < key b)) := by
  show (Ieee.double.order a b == some Ordering.lt) = _
  cases h : isNan a
  · cases h' : isNan b
    · rw [order_eq ha hb h h']
      by_cases h1 : key a < key b
      · rw [if_pos h1]; simp [h1]
      · rw [if_neg h1]
        by_cases h2 : key a = key b <;> simp [h2, h1]
    · rw [order_nan_r hb h']; rfl
  · rw [order_nan_l ha h]; rfl
theorem ord_gt {a b : Nat} (ha : a < 18446744073709551616) (hb : b < 18446744073709551616) : (FloatKind.f64.format.order a b == some Ordering.gt) = (!isNan a && !isNan b && decide (key b < key a)) := by
  show (Ieee.double.order a b == some Ordering.gt) = _
  cases h : isNan a
  · cases h' : isNan b
    · rw [order_eq ha hb h h']
      by_cases h1 : key a < key b
      · rw [if_pos h1]; simp; omega
      · rw [if_neg h1]
        by_cases h2 : key a = key b
        · simp [h2]
        · simp [h2]; omega
    · rw [order_nan_r hb h']; rfl
  · rw [order_nan_l ha h]; rfl
def canon (a : Nat) : Nat := if isNan a = true then 9221120237041090561 else a
def copysign (a b : Nat) : Nat := if 9223372036854775808 ≤ b then rung a + 9223372036854775808 else rung a
end Flt

theorem ret_bool {a b : Bool} (h : a = b) : Ending.returned (.bool a) = .returned (.bool b) := by rw [h]
theorem ret_float {a b : Nat} (h : a = b) : Ending.returned (.float .f64 a) = .returned (.float .f64 b) := by rw [h]
theorem ret_int {k : IntKind} {a b : Int} (h : a = b) : Ending.returned (.int k a) = .returned (.int k b) := by rw [h]

theorem isnan_any (a : Nat) (ha : a < 18446744073709551616) (w : World) :
    Calls Tryz.prog 74 #[.float .f64 a] w fun e w' => e = .returned (.bool (Flt.isNan a)) ∧ w = w' := by
  go_enter Tryz.func74, Tryz.ntmps74
  go_wp2
  go_ret
  exact ⟨ret_bool (Flt.ord_self ha), rfl⟩
theorem abs_any (a : Nat) (ha : a < 18446744073709551616) (w : World) :
    Calls Tryz.prog 100 #[.float .f64 a] w fun e w' => e = .returned (.float .f64 (Flt.rung a)) ∧ w = w' := by
  have h1 := run_frombits
  have h2 := run_bits
  go_enter Tryz.func100, Tryz.ntmps100
  go_wp2
  go_ret
  exact ⟨ret_float (by rw [Flt.b_andNot_sign a ha]; rfl), rfl⟩
theorem signbit_any (a : Nat) (ha : a < 18446744073709551616) (w : World) :
    Calls Tryz.prog 98 #[.float .f64 a] w fun e w' => e = .returned (.bool (Flt.neg a)) ∧ w = w' := by
  have h2 := run_bits
  go_enter Tryz.func98, Tryz.ntmps98
  go_wp2
  go_ret
  exact ⟨ret_bool (by unfold Flt.neg RowKit.wrap64; rw [Bool.eq_iff_iff]; simp only [decide_eq_true_eq]; omega), rfl⟩
theorem copysign_any (a b : Nat) (ha : a < 18446744073709551616) (hb : b < 18446744073709551616) (w : World) :
    Calls Tryz.prog 156 #[.float .f64 a, .float .f64 b] w fun e w' => e = .returned (.float .f64 (Flt.copysign a b)) ∧ w = w' := by
  have h1 := run_frombits
  have h2 := run_bits
  go_enter Tryz.func156, Tryz.ntmps156
  go_wp2
  go_ret
  refine ⟨ret_float ?_, rfl⟩
  have hr : Flt.rung a < 9223372036854775808 := Nat.mod_lt _ (by decide)
  unfold Flt.copysign
  rw [Flt.b_andNot_sign a ha, Flt.b_and_sign b hb]
  by_cases h : 9223372036854775808 ≤ b
  · rw [if_pos h, if_pos h, Flt.b_or_sign _ hr]; rfl
  · rw [if_neg h, if_neg h, Flt.b_or_zero _ (by omega)]; rfl
theorem canon_any (a : Nat) (ha : a < 18446744073709551616) (w : World) :
    Calls Tryz.prog 42 #[.float .f64 a] w fun e w' => e = .returned (.float .f64 (Flt.canon a)) ∧ w = w' := by
  have h1 := run_frombits
  cases hn : Flt.isNan a
  · have hc : Flt.canon a = a := by unfold Flt.canon; rw [hn]; rfl
    rw [hc]
    clear hc
    go_enter Tryz.func42, Tryz.ntmps42
    go_wp2_with (go_at_call 74; refine (isnan_any _ ha _).mono ?_; rintro e w' ⟨rfl, rfl⟩)
    go_ret
    exact ⟨rfl, rfl⟩
  · have hc : Flt.canon a = 9221120237041090561 := by unfold Flt.canon; rw [hn]; rfl
    rw [hc]
    clear hc
    go_enter Tryz.func42, Tryz.ntmps42
    go_wp2_with (go_at_call 74; refine (isnan_any _ ha _).mono ?_; rintro e w' ⟨rfl, rfl⟩)
    go_ret
    exact ⟨rfl, rfl⟩
theorem inf_pos (w : World) : Calls Tryz.prog 152 #[.int .i64 1] w fun e w' => e = .returned (.float .f64 9218868437227405312) ∧ w = w' := by
  have h1 := run_frombits
  go_enter Tryz.func152, Tryz.ntmps152
  go_wp2
  go_ret
  exact ⟨rfl, rfl⟩
theorem inf_neg (w : World) : Calls Tryz.prog 152 #[.int .i64 (-1)] w fun e w' => e = .returned (.float .f64 18442240474082181120) ∧ w = w' := by
  have h1 := run_frombits
  go_enter Tryz.func152, Tryz.ntmps152
  go_wp2
  go_ret
  exact ⟨rfl, rfl⟩
theorem nan_any (w : World) : Calls Tryz.prog 33 #[] w fun e w' => e = .returned (.float .f64 9221120237041090561) ∧ w = w' := by
  have h1 := run_frombits
  go_enter Tryz.func33, Tryz.ntmps33
  go_wp2
  go_ret
  exact ⟨rfl, rfl⟩
end Go.Proofs.YtnjlcdemfdokoaaGreatDoor
