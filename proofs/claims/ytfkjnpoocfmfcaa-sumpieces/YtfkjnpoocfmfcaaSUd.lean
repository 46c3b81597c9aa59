import Derived.Test.YtfkjnpoocfmfcaaSUc
import Derived.WalkKit
import Derived.Deep.LoopGhost
namespace Go.Proofs.Ytfkjnpoocfmfcaa
open Go Go.RowKit
open Go.Shelf
set_option linter.unusedVariables false
theorem ba_len (s : ByteArray) : s.data.toList.length = s.size := by rw [Array.length_toList]; rfl
theorem ref_low (s : Nat) (c : UInt8) (hs : s < 18446744073709551616) : bits .xor .u64 (bits .and .u64 (s : Int) 255) (IntKind.u64.wrap (c.toNat : Int)) = ((s % 256 ^^^ c.toNat : Nat) : Int) := by
  have hc := c.toNat_lt
  have e2 : IntKind.u64.wrap (c.toNat : Int) = (c.toNat : Int) := by rw [IntKind.wrap_u64]; omega
  have e1 : bits .and .u64 (s : Int) 255 = ((s % 256 : Nat) : Int) := by
    have := u64_and_nat s 255 hs (by decide)
    rw [show ((255 : Nat) : Int) = 255 from rfl] at this
    rw [this]
    congr 1
    exact Nat.and_two_pow_sub_one_eq_mod s 8
  rw [e2, e1, u64_xor_nat _ _ (by omega) (by omega)]
theorem ref_step (s : Nat) (c : UInt8) (hs : s < 18446744073709551616) : IntKind.u64.wrap (IntKind.u64.wrap ((s : Int) - bits .and .u64 (s : Int) 255) + ((s % 256 ^^^ c.toNat : Nat) : Int)) = ((s ^^^ c.toNat : Nat) : Int) := by
  have hc := c.toNat_lt
  have e1 : bits .and .u64 (s : Int) 255 = ((s % 256 : Nat) : Int) := by
    have := u64_and_nat s 255 hs (by decide)
    rw [show ((255 : Nat) : Int) = 255 from rfl] at this
    rw [this]
    congr 1
    exact Nat.and_two_pow_sub_one_eq_mod s 8
  have hl := low_xor s c
  have hx := xor_lt64 s c.toNat hs (by omega)
  rw [e1, IntKind.wrap_u64, IntKind.wrap_u64, ← hl]
  rw [← hl] at hx
  generalize s % 256 ^^^ c.toNat = y at *
  omega
theorem ref_last (x : Nat) : IntKind.u64.wrap (IntKind.u64.wrap ((x : Int) * 1099511627776) + IntKind.u64.wrap ((x : Int) * 435)) = ((x * 1099511628211 % 18446744073709551616 : Nat) : Int) := by
  rw [IntKind.wrap_u64, IntKind.wrap_u64, IntKind.wrap_u64]
  omega
theorem rmore_any (s0 : Nat) (hs : s0 < 18446744073709551616) (t : ByteArray) (w : World) (hl : t.size ≤ 1000000) :
    Calls Try.prog 10 #[.int .u64 (s0 : Int), .string t] w fun e w' => e = .returned (.int .u64 ((sumS s0 t.data.toList : Nat) : Int)) ∧ w = w' := by
  have HL := Lib.hid (sumS_lt s0 hs)
  go_enter Try.func10, Try.ntmps10
  go_wp2_with fail
  obtain ⟨L, hL⟩ : ∃ L, L = t.size := ⟨_, rfl⟩
  have HLL := Lib.hid hL.symm
  go_loopg [0, 5, 6] L (fun g s0' s5 s6 wr => ∃ k : Nat, g + k = L ∧ s5 = .int .i64 k ∧ s0' = .int .u64 ((sumS s0 (t.data.toList.take k) : Nat) : Int) ∧ wr = w)
  case atStart => exact ⟨0, by omega, rfl, rfl, rfl⟩
  case round =>
    obtain ⟨k, hk, rfl, rfl, rfl⟩ := hrel
    by_cases hlt : k < L
    · have hks : k < t.size := by rw [HLL.out]; exact hlt
      have ik : (k : Int) < (t.size : Int) := by omega
      have ik0 : (0 : Int) ≤ (k : Int) := by omega
      have hs1 := HL.out (t.data.toList.take k)
      have es : sumS s0 (t.data.toList.take (k + 1)) = stepS (sumS s0 (t.data.toList.take k)) t[k] := by
        rw [List.take_succ_eq_append_getElem (by simpa using hks), sumS_snoc]
        rfl
      have HES := Lib.hid es
      have ES := HLL.out
      clear es
      generalize sumS s0 (t.data.toList.take k) = x at *
      have R1 := ref_low x t[k] hs1
      have HR := Lib.hid (ref_step x t[k] hs1)
      clear hL ES
      go_wp2_with fail
      go_roundg (L - (k + 1))
      case rel => exact ⟨k + 1, by have := HLL.out; omega, by go_num, by rw [HES.out, HR.out, ref_last, stepS_eq], rfl⟩
      case measure => omega
    · obtain rfl : k = L := by omega
      have et := congrArg (sumS s0) (List.take_of_length_le (l := t.data.toList) (i := k) (by rw [ba_len, HLL.out]; exact Nat.le_refl _))
      clear hL
      generalize sumS s0 (t.data.toList.take k) = x at *
      have ET := Lib.hid et
      clear et
      have ik : decide ((k : Int) < (t.size : Int)) = false := by rw [HLL.out]; simp
      have ik2 : decide (k < t.size) = false := by rw [HLL.out]; simp
      go_wp2_with fail
      go_ret
      exact ⟨by rw [ET.out]; rfl, rfl⟩
theorem rsum_any (t : ByteArray) (w : World) (hl : t.size ≤ 1000000) :
    Calls Try.prog 8 #[.string t] w fun e w' => e = .returned (.int .u64 ((sumS 14695981039346656037 t.data.toList : Nat) : Int)) ∧ w = w' := by
  have C := rmore_any 14695981039346656037 (by decide) t w hl
  rw [show ((14695981039346656037 : Nat) : Int) = 14695981039346656037 from rfl] at C
  go_enter Try.func8, Try.ntmps8
  go_wp2_with fail
  (with_reducible refine C.mono ?_); rintro e w' ⟨rfl, rfl⟩
  go_wp2_with fail
  go_ret
  exact ⟨rfl, rfl⟩
end Go.Proofs.Ytfkjnpoocfmfcaa
