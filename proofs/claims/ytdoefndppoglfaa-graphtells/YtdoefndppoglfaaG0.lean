import Derived.Test.YtdoefndppoglfaaRows
import Derived.Test.YtdoefndppoglfaaBits
import Derived.Test.YtdoefndppoglfaaFlt
import Derived.WalkKit
import Derived.WalkSpells
import Derived.WalkLawsBesides
import Derived.Laws.Externs
import Derived.Laws.FloatArith
import Derived.Lib.Hide
import Derived.Deep.QuietTactic
import Derived.BigQuiet
import Derived.StillTailTactics
import Derived.Deep.RegionWith
import Derived.BigRegion
import Derived.Lib.Strings
namespace Go.Proofs.Ytdoefndppoglfaa
open Go

theorem run_frombits (a : Int) (w : World) : (callFunc 71 #[.int .u64 a]).run Try.prog w = .ok (.value (.float .f64 a.toNat)) w := by
  rw [run_callFunc_extern (e := Extern.MathFloatBits.float64frombits) Try.func71 (by kernel_rfl) (by kernel_rfl) (by kernel_rfl) (by kernel_rfl)]
  rfl
theorem run_bits (a : Nat) (w : World) : (callFunc 56 #[.float .f64 a]).run Try.prog w = .ok (.value (.int .u64 a)) w := by
  rw [run_callFunc_extern (e := Extern.MathFloatBits.float64bits) Try.func56 (by kernel_rfl) (by kernel_rfl) (by kernel_rfl) (by kernel_rfl)]
  rfl

namespace Flt
theorem ord_self {a : Nat} (ha : a < 18446744073709551616) : (FloatKind.f64.format.order a a != some Ordering.eq) = isNan a := by
  show (Ieee.double.order a a != some Ordering.eq) = isNan a
  cases h : isNan a
  · rw [order_eq ha ha h h]; simp
  · rw [order_nan_l ha h]; rfl
theorem ord_eq {a b : Nat} (ha : a < 18446744073709551616) (hb : b < 18446744073709551616) : (FloatKind.f64.format.order a b == some Ordering.eq) = (!isNan a && !isNan b && decide (key a = key b)) := by
  show (Ieee.double.order a b == some Ordering.eq) = _
  cases h : isNan a
  · cases h' : isNan b
    · rw [order_eq ha hb h h']
      by_cases h1 : key a < key b
      · rw [if_pos h1]; simp; omega
      · rw [if_neg h1]
        by_cases h2 : key a = key b <;> simp [h2]
    · rw [order_nan_r hb h']; rfl
  · rw [order_nan_l ha h]; rfl
theorem ord_lt {a b : Nat} (ha : a < 18446744073709551616) (hb : b < 18446744073709551616) : (FloatKind.f64.format.order a b == some Ordering.lt) = (!isNan a && !isNan b && decide (key a < key b)) := by
  show (Ieee.double.order a b == some Ordering.lt) = _
  cases h : isNan a
  · cases h' : isNan b
    · rw [order_eq ha hb h h']
      by_cases h1 : key a < key b
      · rw [if_pos h1]; simp [h1]
      · rw [if_neg h1]
        by_cases h2 : key a = key b <;> simp [h2, h1]
    · rw [order_nan_r hb h']; rfl
  · rw [order_nan_l ha h]; rfl
theorem ord_gt {a b : Nat} (ha : a < 18446744073709551616) (hb : b < 18446744073709551616) : (FloatKind.f64.format.order a b == some Ordering.gt) = (!isNan a && !isNan b && decide (key b < key a)) := by
  show (Ieee.double.order a b == some Ordering.gt) = _
  cases h : isNan a
  · cases h' : isNan b
    · rw [order_eq ha hb h h']
      by_cases h1 : key a < key b
      · rw [if_pos h1]; simp; omega
      · rw [if_neg h1]
        by_cases h2 : key a = key b
        · simp [h2]
        · simp [h2]; omega
    · rw [order_nan_r hb h']; rfl
  · rw [order_nan_l ha h]; rfl
def canon (a : Nat) : Nat := if isNan a = true then 9221120237041090561 else a
def copysign (a b : Nat) : Nat := if 9223372036854775808 ≤ b then rung a + 9223372036854775808 else rung a
end Flt

theorem ret_bool {a b : Bool} (h : a = b) : Ending.returned (.bool a) = .returned (.bool b) := by rw [h]
theorem ret_float {a b : Nat} (h : a = b) : Ending.returned (.float .f64 a) = .returned (.float .f64 b) := by rw [h]
theorem ret_int {k : IntKind} {a b : Int} (h : a = b) : Ending.returned (.int k a) = .returned (.int k b) := by rw [h]

theorem isnan_any (a : Nat) (ha : a < 18446744073709551616) (w : World) :
    Calls Try.prog 70 #[.float .f64 a] w fun e w' => e = .returned (.bool (Flt.isNan a)) ∧ w = w' := by
  go_enter Try.func70, Try.ntmps70
  go_wp2
  go_ret
  exact ⟨ret_bool (Flt.ord_self ha), rfl⟩
theorem canon_any (a : Nat) (ha : a < 18446744073709551616) (w : World) :
    Calls Try.prog 69 #[.float .f64 a] w fun e w' => e = .returned (.float .f64 (Flt.canon a)) ∧ w = w' := by
  have h1 := run_frombits
  cases hn : Flt.isNan a
  · have hc : Flt.canon a = a := by unfold Flt.canon; rw [hn]; rfl
    rw [hc]
    clear hc
    go_enter Try.func69, Try.ntmps69
    go_wp2_with (go_at_call 70; refine (isnan_any _ ha _).mono ?_; rintro e w' ⟨rfl, rfl⟩)
    go_ret
    exact ⟨rfl, rfl⟩
  · have hc : Flt.canon a = 9221120237041090561 := by unfold Flt.canon; rw [hn]; rfl
    rw [hc]
    clear hc
    go_enter Try.func69, Try.ntmps69
    go_wp2_with (go_at_call 70; refine (isnan_any _ ha _).mono ?_; rintro e w' ⟨rfl, rfl⟩)
    go_ret
    exact ⟨rfl, rfl⟩
end Go.Proofs.Ytdoefndppoglfaa

namespace Go.Proofs.Ytdoefndppoglfaa
open Go
namespace Flt
def kbits (a : Nat) : Nat := if isNan a = true then 18446744073709551615 else if 9223372036854775808 ≤ a then 18446744073709551615 - a else a + 9223372036854775808
def cmp3 (x y : Int) : Int := if x < y then -1 else if y < x then 1 else 0
theorem kbits_nan {a : Nat} (hn : isNan a = true) : kbits a = 18446744073709551615 := by unfold kbits; rw [if_pos hn]
theorem kbits_neg {a : Nat} (hn : isNan a = false) (hs : 9223372036854775808 ≤ a) : kbits a = 18446744073709551615 - a := by unfold kbits; rw [if_neg (by simp [hn]), if_pos hs]
theorem kbits_pos {a : Nat} (hn : isNan a = false) (hs : a < 9223372036854775808) : kbits a = a + 9223372036854775808 := by unfold kbits; rw [if_neg (by simp [hn]), if_neg (by omega)]
theorem u64max : IntKind.u64.max = 18446744073709551615 := by decide
end Flt
theorem ret_tup3 {a a' b b' c c' : Value} (h : a = a') (h2 : b = b') (h3 : c = c') : Ending.returned (.tuple #[a, b, c]) = .returned (.tuple #[a', b', c']) := by rw [h, h2, h3]
theorem ret_tup2 {a a' b b' : Value} (h : a = a') (h2 : b = b') : Ending.returned (.tuple #[a, b]) = .returned (.tuple #[a', b']) := by rw [h, h2]
namespace Flt
def field (a : Nat) : Nat := a / 4503599627370496 % 2048
def frac (a : Nat) : Nat := a % 4503599627370496
theorem isNan_iff (a : Nat) : isNan a = true ↔ field a = 2047 ∧ frac a ≠ 0 := by
  unfold isNan field frac rung
  rw [decide_eq_true_eq]
  omega
end Flt
theorem parts_any (a : Nat) (ha : a < 18446744073709551616) (w : World) :
    Calls Try.prog 60 #[.float .f64 a] w fun e w' => e = .returned (.tuple #[.bool (Flt.neg a), .int .i64 (Flt.field a : Nat), .int .i64 (Flt.frac a : Nat)]) ∧ w = w' := by
  have h2 := run_bits
  go_enter Try.func60, Try.ntmps60
  go_wp2
  go_ret3
  have e0 : (((a : Int) / 9223372036854775808 == 1) : Bool) = Flt.neg a := by unfold Flt.neg; rw [Bool.eq_iff_iff]; simp only [beq_iff_eq, decide_eq_true_eq]; omega
  have e1 : RowKit.wrap64 (bits BinOp.and IntKind.u64 ((a : Int) / 4503599627370496) 2047) = ((Flt.field a : Nat) : Int) := by
    unfold Flt.field
    have h := Flt.b_and_2047 (a / 4503599627370496) (by omega)
    rw [show (((a / 4503599627370496 : Nat) : Int)) = (a : Int) / 4503599627370496 from by omega] at h
    rw [h]; unfold RowKit.wrap64; omega
  have e2 : RowKit.wrap64 (bits BinOp.and IntKind.u64 (a : Int) 4503599627370495) = ((Flt.frac a : Nat) : Int) := by
    unfold Flt.frac
    rw [Flt.b_and_frac a ha]; unfold RowKit.wrap64; omega
  exact ⟨ret_tup3 (by rw [← e0]; rfl) (by rw [← e1]; rfl) (by rw [← e2]; rfl), rfl⟩

theorem rnan_any (a : Nat) (ha : a < 18446744073709551616) (w : World) :
    Calls Try.prog 55 #[.float .f64 a] w fun e w' => e = .returned (.bool (Flt.isNan a)) ∧ w = w' := by
  have HI := Lib.hid (Flt.isNan_iff a)
  by_cases h1 : Flt.field a = 2047
  · have h2 : (((Flt.field a : Nat) : Int) == 2047) = true := by simp; omega
    have H1 := Lib.hid h1
    clear h1
    go_enter Try.func55, Try.ntmps55
    go_wp2_with (go_at_call 60; refine (parts_any _ ha _).mono ?_; rintro e w' ⟨rfl, rfl⟩)
    go_ret
    refine ⟨ret_bool ?_, rfl⟩
    have h1' := H1.out
    rw [Bool.eq_iff_iff, HI.out]
    simp
    omega
  · have h2 : (((Flt.field a : Nat) : Int) == 2047) = false := by simp; omega
    have H1 := Lib.hid h1
    clear h1
    go_enter Try.func55, Try.ntmps55
    go_wp2_with (go_at_call 60; refine (parts_any _ ha _).mono ?_; rintro e w' ⟨rfl, rfl⟩)
    go_ret
    refine ⟨ret_bool ?_, rfl⟩
    have h1' := H1.out
    rw [Bool.eq_iff_iff, HI.out]
    simp
    omega
theorem rbits_any (a : Nat) (ha : a < 18446744073709551616) (w : World) :
    Calls Try.prog 44 #[.float .f64 a] w fun e w' => e = .returned (.int .u64 (Flt.canon a : Nat)) ∧ w = w' := by
  have h1 := run_bits
  cases hn : Flt.isNan a
  · have hc : Flt.canon a = a := by unfold Flt.canon; rw [hn]; rfl
    rw [hc]
    clear hc
    go_enter Try.func44, Try.ntmps44
    go_wp2_with (go_at_call 55; refine (rnan_any _ ha _).mono ?_; rintro e w' ⟨rfl, rfl⟩)
    go_ret
    exact ⟨rfl, rfl⟩
  · have hc : Flt.canon a = 9221120237041090561 := by unfold Flt.canon; rw [hn]; rfl
    rw [hc]
    clear hc
    go_enter Try.func44, Try.ntmps44
    go_wp2_with (go_at_call 55; refine (rnan_any _ ha _).mono ?_; rintro e w' ⟨rfl, rfl⟩)
    go_ret
    exact ⟨rfl, rfl⟩
end Go.Proofs.Ytdoefndppoglfaa

namespace Go.Proofs.Ytdoefndppoglfaa
open Go Go.RowKit
set_option linter.unusedVariables false
/-- a value of package api, as the machine holds it -/
abbrev av (k n : Int) (f : Nat) (s : ByteArray) : Value := .agg #[.int .i64 k, .int .i64 n, .float .f64 f, .string s]
theorem Below.chain {w w' w'' : World} (h : Below w.heap.size w w') (k : Below w'.heap.size w' w'') : Below w.heap.size w w'' := h.trans (k.mono h.size)
theorem below_drewN {n : Nat} {w w' : World} (h : Below n w w') (k : Nat) : Below n w (w'.drewN k) := by
  induction k with
  | zero => exact h
  | succ k ih => exact ih.drew
theorem below_a1 (w : World) (o : Obj) : Below w.heap.size w (w.alloc o) := (Below.refl _ _).alloc (Nat.le_refl _) o
theorem below_a2 (w : World) (o p : Obj) : Below w.heap.size w ((w.alloc o).alloc p) := (below_a1 w o).alloc (by simp) p

theorem ident_core (k n k' n' : Int) (f f' : Nat) (s s' : ByteArray) (a b c d : Bool) (ha : (k == k') = a) (hb : (n == n') = b) (hc : ((f : Int) == (f' : Int)) = c) (hd : (s.toList == s'.toList) = d) (w : World) :
    Calls Try.prog 64 #[.agg #[.int .i64 k, .int .i64 n, .float .f64 f, .string s], .agg #[.int .i64 k', .int .i64 n', .float .f64 f', .string s']] w fun e w' => e = .returned (.bool (a && b && c && d)) ∧ Below w.heap.size w w' := by
  have h2 := run_bits
  have hc' : (f == f') = c := by rw [← hc, Bool.eq_iff_iff]; simp; omega
  cases a
  · go_enter Try.func64, Try.ntmps64
    go_wp2_with fail
    go_quiet (fail)
    go_wp2_with fail
    go_ret
    exact ⟨rfl, below_drewN (below_a2 _ _ _) _⟩
  cases b
  · go_enter Try.func64, Try.ntmps64
    go_wp2_with fail
    go_quiet (fail)
    go_wp2_with fail
    go_ret
    exact ⟨rfl, below_drewN (below_a2 _ _ _) _⟩
  cases c
  · go_enter Try.func64, Try.ntmps64
    go_wp2_with fail
    go_quiet (fail)
    go_wp2_with fail
    go_ret
    exact ⟨rfl, below_drewN (below_a2 _ _ _) _⟩
  · go_enter Try.func64, Try.ntmps64
    go_wp2_with fail
    go_quiet (fail)
    go_wp2_with fail
    go_ret
    refine ⟨?_, below_drewN (below_a2 _ _ _) _⟩
    simp
/-- the same, field by field -/
def idB (k n : Int) (f : Nat) (s : ByteArray) (k' n' : Int) (f' : Nat) (s' : ByteArray) : Bool := (k == k') && (n == n') && (f == f') && (s.toList == s'.toList)
theorem ident_any (k n k' n' : Int) (f f' : Nat) (s s' : ByteArray) (w : World) :
    Calls Try.prog 64 #[.agg #[.int .i64 k, .int .i64 n, .float .f64 f, .string s], .agg #[.int .i64 k', .int .i64 n', .float .f64 f', .string s']] w fun e w' => e = .returned (.bool (idB k n f s k' n' f' s')) ∧ Below w.heap.size w w' := by
  have h := ident_core k n k' n' f f' s s' _ _ _ _ rfl rfl rfl rfl w
  have hc' : ((f : Int) == (f' : Int)) = (f == f') := by rw [Bool.eq_iff_iff]; simp; omega
  rw [hc'] at h
  exact h
end Go.Proofs.Ytdoefndppoglfaa

namespace Go.Proofs.Ytdoefndppoglfaa
open Go Go.RowKit
set_option linter.unusedVariables false
/-- a world in which all blocks of w0 lie as they lay -/
structure Later (w0 : World) where
  w : World
  kept : Below w0.heap.size w0 w
instance later_some (w0 : World) : Nonempty (Later w0) := ⟨⟨w0, Below.refl _ _⟩⟩
theorem later_cell {w0 : World} {a : Addr} {v : Value} (h : w0.cell? a = some v) (x : Later w0) : x.w.cell? a = some v := (x.kept.cell (block_lt_of_cell h)).trans h
theorem later_call {P : Program} {f : FuncId} {args : Array Value} {w0 : World} {x : Later w0} {v : Value} (h : Calls P f args x.w fun e w' => e = .returned v ∧ Below x.w.heap.size x.w w') :
    Calls P f args x.w fun e w'' => e = .returned v ∧ ∃ y : Later w0, w'' = y.w := h.mono fun _ w' ⟨he, hb⟩ => ⟨he, ⟨⟨w', Below.chain x.kept hb⟩, rfl⟩⟩
theorem later_same {P : Program} {f : FuncId} {args : Array Value} {w0 : World} {x : Later w0} {v : Value} (h : Calls P f args x.w fun e w' => e = .returned v ∧ x.w = w') :
    Calls P f args x.w fun e w'' => e = .returned v ∧ ∃ y : Later w0, w'' = y.w := h.mono fun _ _ ⟨he, hb⟩ => ⟨he, ⟨x, hb.symm⟩⟩
theorem wp_region_later {P : Program} {id : Nat} {Q : Exit → Act → World → Prop} {a : Act} {w : World} {l : List Oper} (hm : P.follows .mixedOrders = true) (hB : Region.lexB .any l.toArray = true)
    (h : wpQuiet P l.toArray (fun w' => ∃ x : Later w, w' = x.w) (fun a' => ∀ w', (∃ x : Later w, w' = x.w) → Q .normal a' w') l a) : (Code.region id l.toArray true).wp P Q a w :=
  wp_region_quiet (C := fun w' => ∃ x : Later w, w' = x.w) hm hB ⟨⟨w.drew, (Below.refl _ _).drew⟩, rfl⟩ (by simpa using h)
theorem later4 (w : World) (a b c d : Value) (t : TypeId) (x : Later (w.alloc (.cells #[a, b, c, d] t))) :
    x.w.cell? ⟨w.heap.size, 0, none⟩ = some a ∧ x.w.cell? ⟨w.heap.size, 1, none⟩ = some b ∧ x.w.cell? ⟨w.heap.size, 2, none⟩ = some c ∧ x.w.cell? ⟨w.heap.size, 3, none⟩ = some d :=
  ⟨later_cell (by simp) x, later_cell (by simp) x, later_cell (by simp) x, later_cell (by simp) x⟩

theorem later8 (w : World) (a b c d a' b' c' d' : Value) (t : TypeId) (x : Later ((w.alloc (.cells #[a, b, c, d] t)).alloc (.cells #[a', b', c', d'] t))) :
    (x.w.cell? ⟨w.heap.size, 0, none⟩ = some a ∧ x.w.cell? ⟨w.heap.size, 1, none⟩ = some b ∧ x.w.cell? ⟨w.heap.size, 2, none⟩ = some c ∧ x.w.cell? ⟨w.heap.size, 3, none⟩ = some d) ∧
    x.w.cell? ⟨w.heap.size + 1, 0, none⟩ = some a' ∧ x.w.cell? ⟨w.heap.size + 1, 1, none⟩ = some b' ∧ x.w.cell? ⟨w.heap.size + 1, 2, none⟩ = some c' ∧ x.w.cell? ⟨w.heap.size + 1, 3, none⟩ = some d' :=
  ⟨⟨later_cell (by simp) x, later_cell (by simp) x, later_cell (by simp) x, later_cell (by simp) x⟩, later_cell (by simp) x, later_cell (by simp) x, later_cell (by simp) x, later_cell (by simp) x⟩
theorem run_store_float (a : Addr) (m : Mode) (k : FloatKind) (n : Nat) (w : World) : (store a (.float k n) m).run Try.prog w = stored Try.prog w a (.float k n) m := run_store Try.prog w a _ m rfl
/-- the four cells of a value -/
def Lies (w : World) (b : Nat) (v0 v1 v2 v3 : Value) : Prop := w.cell? ⟨b, 0, none⟩ = some v0 ∧ w.cell? ⟨b, 1, none⟩ = some v1 ∧ w.cell? ⟨b, 2, none⟩ = some v2 ∧ w.cell? ⟨b, 3, none⟩ = some v3
theorem lies_new (w : World) (a b c d : Value) (t : TypeId) : Lies (w.alloc (.cells #[a, b, c, d] t)) w.heap.size a b c d := ⟨by simp, by simp, by simp, by simp⟩
theorem Lies.below {w w' : World} {b : Nat} {v0 v1 v2 v3 : Value} (h : Lies w b v0 v1 v2 v3) (hb : Below w.heap.size w w') : Lies w' b v0 v1 v2 v3 :=
  ⟨(hb.cell (block_lt_of_cell h.1)).trans h.1, (hb.cell (block_lt_of_cell h.2.1)).trans h.2.1, (hb.cell (block_lt_of_cell h.2.2.1)).trans h.2.2.1, (hb.cell (block_lt_of_cell h.2.2.2)).trans h.2.2.2⟩
theorem Lies.alloc {w : World} {b : Nat} {v0 v1 v2 v3 : Value} (h : Lies w b v0 v1 v2 v3) (o : Obj) : Lies (w.alloc o) b v0 v1 v2 v3 := h.below (below_a1 _ _)
theorem Lies.drewN {w : World} {b : Nat} {v0 v1 v2 v3 : Value} (h : Lies w b v0 v1 v2 v3) (n : Nat) : Lies (w.drewN n) b v0 v1 v2 v3 := h.below (below_drewN (Below.refl _ _) n)
/-- a truth as a number -/
def b01 (b : Bool) : Int := if b = true then 1 else 0
theorem load4 {w : World} {b : Nat} {v0 v1 v2 v3 : Value} (h : Lies w b v0 v1 v2 v3) : (loadVar 52 ⟨b, 0, none⟩).run Try.prog w = .ok (.agg #[v0, v1, v2, v3]) w := by
  obtain ⟨h0, h1, h2, h3⟩ := h
  go_simp
theorem ret_v {fn : Func} {p : Tmp} {R : Ending → World → Prop} {a : Act} {w : World} {b : Nat} {v0 v1 v2 v3 : Value} (h : fn.results = #[.cell p 52]) (hp : a.tmps.getD p undef = .pointer (some ⟨b, 0, none⟩)) (hd : a.defers = [])
    (hc : Lies w b v0 v1 v2 v3) (hR : R (.returned (.agg #[v0, v1, v2, v3])) w) : bodyPost Try.prog fn R .ret a w := by
  refine bodyPost_ret ?_ hd hR
  have hp' : a.tmps[p]?.getD undef = .pointer (some ⟨b, 0, none⟩) := by simpa using hp
  simp [results, h, hp', asAddr, load4 hc]
theorem ret_ve {fn : Func} {p q : Tmp} {R : Ending → World → Prop} {a : Act} {w : World} {b : Nat} {v0 v1 v2 v3 e : Value} (h : fn.results = #[.cell p 52, .tmp q]) (hp : a.tmps.getD p undef = .pointer (some ⟨b, 0, none⟩)) (hq : a.tmps.getD q undef = e) (hd : a.defers = [])
    (hc : Lies w b v0 v1 v2 v3) (hR : R (.returned (.tuple #[.agg #[v0, v1, v2, v3], e])) w) : bodyPost Try.prog fn R .ret a w := by
  refine bodyPost_ret ?_ hd hR
  have hp' : a.tmps[p]?.getD undef = .pointer (some ⟨b, 0, none⟩) := by simpa using hp
  have hq' : a.tmps[q]?.getD undef = e := by simpa using hq
  simp [results, h, hp', hq', asAddr, load4 hc]
theorem ret_vnb {fn : Func} {p q r : Tmp} {R : Ending → World → Prop} {a : Act} {w : World} {b : Nat} {v0 v1 v2 v3 e g : Value} (h : fn.results = #[.cell p 52, .tmp q, .tmp r]) (hp : a.tmps.getD p undef = .pointer (some ⟨b, 0, none⟩)) (hq : a.tmps.getD q undef = e) (hr : a.tmps.getD r undef = g) (hd : a.defers = [])
    (hc : Lies w b v0 v1 v2 v3) (hR : R (.returned (.tuple #[.agg #[v0, v1, v2, v3], e, g])) w) : bodyPost Try.prog fn R .ret a w := by
  refine bodyPost_ret ?_ hd hR
  have hp' : a.tmps[p]?.getD undef = .pointer (some ⟨b, 0, none⟩) := by simpa using hp
  have hq' : a.tmps[q]?.getD undef = e := by simpa using hq
  have hr' : a.tmps[r]?.getD undef = g := by simpa using hr
  simp [results, h, hp', hq', hr', asAddr, load4 hc]

theorem truth_any (b : Bool) (w : World) : Calls Try.prog 65 #[.bool b] w fun e w' => e = .returned (.agg #[.int .i64 1, .int .i64 (b01 b), .float .f64 0, .string ⟨#[]⟩]) ∧ Below w.heap.size w w' := by
  cases b
  · have hsf := run_store_float
    go_enter Try.func65, Try.ntmps65
    go_wp2_with fail
    refine ret_v rfl rfl rfl (lies_new _ _ _ _ _ _) ?_
    exact ⟨rfl, below_a1 _ _⟩
  · have hsf := run_store_float
    go_enter Try.func65, Try.ntmps65
    go_wp2_with fail
    refine ret_v rfl rfl rfl (lies_new _ _ _ _ _ _) ?_
    exact ⟨rfl, below_a1 _ _⟩
theorem whole_any (n : Int) (w : World) : Calls Try.prog 66 #[.int .i64 n] w fun e w' => e = .returned (.agg #[.int .i64 2, .int .i64 n, .float .f64 0, .string ⟨#[]⟩]) ∧ Below w.heap.size w w' := by
  have hsf := run_store_float
  go_enter Try.func66, Try.ntmps66
  go_wp2_with fail
  refine ret_v rfl rfl rfl (lies_new _ _ _ _ _ _) ?_
  exact ⟨rfl, below_a1 _ _⟩
theorem vtext_any (s : ByteArray) (w : World) : Calls Try.prog 68 #[.string s] w fun e w' => e = .returned (.agg #[.int .i64 4, .int .i64 0, .float .f64 0, .string s]) ∧ Below w.heap.size w w' := by
  have hsf := run_store_float
  go_enter Try.func68, Try.ntmps68
  go_wp2_with fail
  refine ret_v rfl rfl rfl (lies_new _ _ _ _ _ _) ?_
  exact ⟨rfl, below_a1 _ _⟩
theorem vfloat_any (f : Nat) (hf : f < 18446744073709551616) (w : World) : Calls Try.prog 67 #[.float .f64 f] w fun e w' => e = .returned (.agg #[.int .i64 3, .int .i64 0, .float .f64 (Flt.canon f), .string ⟨#[]⟩]) ∧ Below w.heap.size w w' := by
  have hsf := run_store_float
  go_enter Try.func67, Try.ntmps67
  go_wp2_with fail
  refine (canon_any _ hf _).mono ?_; rintro e w' ⟨rfl, rfl⟩
  go_wp2_with fail
  refine ret_v rfl rfl rfl (lies_new _ _ _ _ _ _) ?_
  exact ⟨rfl, below_a1 _ _⟩
theorem right0 (n : Int) (f : Nat) (s : ByteArray) (w : World) :
    Calls Try.prog 63 #[.agg #[.int .i64 0, .int .i64 n, .float .f64 f, .string s]] w fun e w' => e = .returned (.bool (idB 0 n f s 0 0 0 ⟨#[]⟩)) ∧ Below w.heap.size w w' := by
  go_enter Try.func63, Try.ntmps63
  go_wp2_with fail
  refine (ident_any _ _ _ _ _ _ _ _ _).mono ?_; rintro e w1 ⟨rfl, hb1⟩
  go_wp2_with fail
  go_ret
  exact ⟨rfl, Below.chain (below_a1 _ _) hb1⟩
theorem right1 (n : Int) (f : Nat) (s : ByteArray) (a : Bool) (ha : idB 1 n f s 1 0 0 ⟨#[]⟩ = a) (w : World) :
    Calls Try.prog 63 #[.agg #[.int .i64 1, .int .i64 n, .float .f64 f, .string s]] w fun e w' => e = .returned (.bool (a || idB 1 n f s 1 1 0 ⟨#[]⟩)) ∧ Below w.heap.size w w' := by
  have L := later4 w (.int .i64 1) (.int .i64 n) (.float .f64 f) (.string s) 52
  have T1 := truth_any true
  have T0 := truth_any false
  rw [show b01 true = 1 from rfl] at T1
  rw [show b01 false = 0 from rfl] at T0
  have I0 := ident_any 1 n 1 0 f 0 s ⟨#[]⟩
  rw [ha] at I0
  have I1 := ident_any 1 n 1 1 f 0 s ⟨#[]⟩
  clear ha
  cases a
  · go_enter Try.func63, Try.ntmps63
    go_wp2_with fail
    refine wp_region_later (by kernel_rfl) (by kernel_rfl) ?_
    repeat (go_big_quiet_step (first | with_reducible exact later_call (T0 _) | with_reducible exact later_call (T1 _) | with_reducible exact later_call (I0 _) | with_reducible exact later_call (I1 _)))
    refine wpQuiet_nil ?_
    rintro w' ⟨x, rfl⟩
    go_wp2_with fail
    go_ret
    exact ⟨rfl, Below.chain (below_a1 _ _) x.kept⟩
  · go_enter Try.func63, Try.ntmps63
    go_wp2_with fail
    refine wp_region_later (by kernel_rfl) (by kernel_rfl) ?_
    repeat (go_big_quiet_step (first | with_reducible exact later_call (T0 _) | with_reducible exact later_call (T1 _) | with_reducible exact later_call (I0 _) | with_reducible exact later_call (I1 _)))
    refine wpQuiet_nil ?_
    rintro w' ⟨x, rfl⟩
    go_wp2_with fail
    go_ret
    exact ⟨rfl, Below.chain (below_a1 _ _) x.kept⟩
theorem right2 (n : Int) (f : Nat) (s : ByteArray) (w : World) :
    Calls Try.prog 63 #[.agg #[.int .i64 2, .int .i64 n, .float .f64 f, .string s]] w fun e w' => e = .returned (.bool (idB 2 n f s 2 n 0 ⟨#[]⟩)) ∧ Below w.heap.size w w' := by
  have L := later4 w (.int .i64 2) (.int .i64 n) (.float .f64 f) (.string s) 52
  have T1 := whole_any n
  have I1 := ident_any 2 n 2 n f 0 s ⟨#[]⟩
  go_enter Try.func63, Try.ntmps63
  go_wp2_with fail
  refine wp_region_later (by kernel_rfl) (by kernel_rfl) ?_
  repeat (go_big_quiet_step (first | with_reducible exact later_call (T1 _) | with_reducible exact later_call (I1 _)))
  refine wpQuiet_nil ?_
  rintro w' ⟨x, rfl⟩
  go_wp2_with fail
  go_ret
  exact ⟨rfl, Below.chain (below_a1 _ _) x.kept⟩
theorem right3 (n : Int) (f : Nat) (hf : f < 18446744073709551616) (s : ByteArray) (w : World) :
    Calls Try.prog 63 #[.agg #[.int .i64 3, .int .i64 n, .float .f64 f, .string s]] w fun e w' => e = .returned (.bool (idB 3 n f s 3 0 (Flt.canon f) ⟨#[]⟩)) ∧ Below w.heap.size w w' := by
  have L := later4 w (.int .i64 3) (.int .i64 n) (.float .f64 f) (.string s) 52
  have T1 := vfloat_any f hf
  have I1 := ident_any 3 n 3 0 f (Flt.canon f) s ⟨#[]⟩
  clear hf
  go_enter Try.func63, Try.ntmps63
  go_wp2_with fail
  refine wp_region_later (by kernel_rfl) (by kernel_rfl) ?_
  repeat (go_big_quiet_step (first | with_reducible exact later_call (T1 _) | with_reducible exact later_call (I1 _)))
  refine wpQuiet_nil ?_
  rintro w' ⟨x, rfl⟩
  go_wp2_with fail
  go_ret
  exact ⟨rfl, Below.chain (below_a1 _ _) x.kept⟩
theorem right4 (n : Int) (f : Nat) (s : ByteArray) (w : World) :
    Calls Try.prog 63 #[.agg #[.int .i64 4, .int .i64 n, .float .f64 f, .string s]] w fun e w' => e = .returned (.bool (idB 4 n f s 4 0 0 s)) ∧ Below w.heap.size w w' := by
  have L := later4 w (.int .i64 4) (.int .i64 n) (.float .f64 f) (.string s) 52
  have T1 := vtext_any s
  have I1 := ident_any 4 n 4 0 f 0 s s
  go_enter Try.func63, Try.ntmps63
  go_wp2_with fail
  refine wp_region_later (by kernel_rfl) (by kernel_rfl) ?_
  repeat (go_big_quiet_step (first | with_reducible exact later_call (T1 _) | with_reducible exact later_call (I1 _)))
  refine wpQuiet_nil ?_
  rintro w' ⟨x, rfl⟩
  go_wp2_with fail
  go_ret
  exact ⟨rfl, Below.chain (below_a1 _ _) x.kept⟩
theorem right5 (k n : Int) (f : Nat) (s : ByteArray) (h0 : (k == 0) = false) (h1 : (k == 1) = false) (h2 : (k == 2) = false) (h3 : (k == 3) = false) (h4 : (k == 4) = false) (w : World) :
    Calls Try.prog 63 #[.agg #[.int .i64 k, .int .i64 n, .float .f64 f, .string s]] w fun e w' => e = .returned (.bool false) ∧ Below w.heap.size w w' := by
  go_enter Try.func63, Try.ntmps63
  go_wp2_with fail
  go_ret
  exact ⟨rfl, below_a1 _ _⟩
/-- which values are right -/
def rightB (k n : Int) (f : Nat) (s : ByteArray) : Bool :=
  if k = 0 then decide (n = 0 ∧ f = 0 ∧ s.toList = []) else if k = 1 then decide ((n = 0 ∨ n = 1) ∧ f = 0 ∧ s.toList = []) else if k = 2 then decide (f = 0 ∧ s.toList = [])
  else if k = 3 then decide (n = 0 ∧ f = Flt.canon f ∧ s.toList = []) else if k = 4 then decide (n = 0 ∧ f = 0) else false
theorem nil_list : (⟨#[]⟩ : ByteArray).toList = [] := by rw [Lib.toList_data]
theorem ret_bool' {a b : Bool} (h : a = b) {w w' : World} {e : Ending} (he : e = .returned (.bool a) ∧ Below w.heap.size w w') : e = .returned (.bool b) ∧ Below w.heap.size w w' := h ▸ he
theorem right_any (k n : Int) (f : Nat) (hf : f < 18446744073709551616) (s : ByteArray) (w : World) :
    Calls Try.prog 63 #[.agg #[.int .i64 k, .int .i64 n, .float .f64 f, .string s]] w fun e w' => e = .returned (.bool (rightB k n f s)) ∧ Below w.heap.size w w' := by
  by_cases h0 : k = 0
  · subst h0
    refine (right0 n f s w).mono fun e w' h => ret_bool' ?_ h
    rw [Bool.eq_iff_iff]; simp [rightB, idB]; grind
  by_cases h1 : k = 1
  · subst h1
    refine (right1 n f s _ rfl w).mono fun e w' h => ret_bool' ?_ h
    rw [Bool.eq_iff_iff]; simp [rightB, idB]; grind
  by_cases h2 : k = 2
  · subst h2
    refine (right2 n f s w).mono fun e w' h => ret_bool' ?_ h
    rw [Bool.eq_iff_iff]; simp [rightB, idB]
  by_cases h3 : k = 3
  · subst h3
    refine (right3 n f hf s w).mono fun e w' h => ret_bool' ?_ h
    rw [Bool.eq_iff_iff]; simp [rightB, idB]; grind
  by_cases h4 : k = 4
  · subst h4
    refine (right4 n f s w).mono fun e w' h => ret_bool' ?_ h
    rw [Bool.eq_iff_iff]; simp [rightB, idB]
  · refine (right5 k n f s (by simpa using h0) (by simpa using h1) (by simpa using h2) (by simpa using h3) (by simpa using h4) w).mono fun e w' h => ret_bool' ?_ h
    simp [rightB, h0, h1, h2, h3, h4]
end Go.Proofs.Ytdoefndppoglfaa

namespace Go.Proofs.Ytdoefndppoglfaa
open Go Go.RowKit
set_option linter.unusedVariables false
end Go.Proofs.Ytdoefndppoglfaa

namespace Go.Proofs.Ytdoefndppoglfaa
open Go Go.RowKit
set_option linter.unusedVariables false
theorem rsame_core (k n k' n' : Int) (f f' : Nat) (hf : f < 18446744073709551616) (hf' : f' < 18446744073709551616) (s s' : ByteArray) (a b c d : Bool) (ha : (k == k') = a) (hb : (n == n') = b) (hc : (s.toList == s'.toList) = c) (hd : ((Flt.canon f : Int) == (Flt.canon f' : Int)) = d) (w : World) :
    Calls Try.prog 20 #[.agg #[.int .i64 k, .int .i64 n, .float .f64 f, .string s], .agg #[.int .i64 k', .int .i64 n', .float .f64 f', .string s']] w fun e w' => e = .returned (.bool (a && b && c && d)) ∧ Below w.heap.size w w' := by
  have C1 := rbits_any f hf
  have C2 := rbits_any f' hf'
  have hd' : (Flt.canon f == Flt.canon f') = d := by rw [← hd, Bool.eq_iff_iff]; simp; omega
  have L : ∀ x : Later ((w.alloc (.cells #[.int .i64 k, .int .i64 n, .float .f64 f, .string s] 52)).alloc (.cells #[.int .i64 k', .int .i64 n', .float .f64 f', .string s'] 52)), _ := later8 w _ _ _ _ _ _ _ _ 52
  clear hf hf'
  cases a
  · go_enter Try.func20, Try.ntmps20
    go_wp2_with fail
    refine wp_region_later (by kernel_rfl) (by kernel_rfl) ?_
    repeat (go_big_quiet_step (first | with_reducible exact later_same (C1 _) | with_reducible exact later_same (C2 _)))
    refine wpQuiet_nil ?_
    rintro w' ⟨x, rfl⟩
    go_wp2_with fail
    go_ret
    exact ⟨rfl, Below.chain (below_a2 _ _ _) x.kept⟩
  cases b
  · go_enter Try.func20, Try.ntmps20
    go_wp2_with fail
    refine wp_region_later (by kernel_rfl) (by kernel_rfl) ?_
    repeat (go_big_quiet_step (first | with_reducible exact later_same (C1 _) | with_reducible exact later_same (C2 _)))
    refine wpQuiet_nil ?_
    rintro w' ⟨x, rfl⟩
    go_wp2_with fail
    go_ret
    exact ⟨rfl, Below.chain (below_a2 _ _ _) x.kept⟩
  cases c
  · go_enter Try.func20, Try.ntmps20
    go_wp2_with fail
    refine wp_region_later (by kernel_rfl) (by kernel_rfl) ?_
    repeat (go_big_quiet_step (first | with_reducible exact later_same (C1 _) | with_reducible exact later_same (C2 _)))
    refine wpQuiet_nil ?_
    rintro w' ⟨x, rfl⟩
    go_wp2_with fail
    go_ret
    exact ⟨rfl, Below.chain (below_a2 _ _ _) x.kept⟩
  · go_enter Try.func20, Try.ntmps20
    go_wp2_with fail
    refine wp_region_later (by kernel_rfl) (by kernel_rfl) ?_
    repeat (go_big_quiet_step (first | with_reducible exact later_same (C1 _) | with_reducible exact later_same (C2 _)))
    refine wpQuiet_nil ?_
    rintro w' ⟨x, rfl⟩
    go_wp2_with fail
    go_ret
    refine ⟨?_, Below.chain (below_a2 _ _ _) x.kept⟩
    simp
theorem rsame_any (k n k' n' : Int) (f f' : Nat) (hf : f < 18446744073709551616) (hf' : f' < 18446744073709551616) (s s' : ByteArray) (w : World) :
    Calls Try.prog 20 #[.agg #[.int .i64 k, .int .i64 n, .float .f64 f, .string s], .agg #[.int .i64 k', .int .i64 n', .float .f64 f', .string s']] w fun e w' => e = .returned (.bool (idB k n (Flt.canon f) s k' n' (Flt.canon f') s')) ∧ Below w.heap.size w w' := by
  refine (rsame_core k n k' n' f f' hf hf' s s' _ _ _ _ rfl rfl rfl rfl w).mono fun e w' h => ret_bool' ?_ h
  unfold idB
  rw [Bool.eq_iff_iff]; simp; grind
end Go.Proofs.Ytdoefndppoglfaa

namespace Go.Proofs.Ytdoefndppoglfaa
open Go Go.RowKit
set_option linter.unusedVariables false
theorem rr0 (n : Int) (f : Nat) (s : ByteArray) (p q z e : Bool) (hp : (n == 0) = p) (hq : (n == 1) = q) (hz : ((f : Int) == 0) = z) (he : s.toList.isEmpty = e) (w : World) :
    Calls Try.prog 49 #[.agg #[.int .i64 0, .int .i64 n, .float .f64 f, .string s]] w fun E w' => E = .returned (.bool (p && z && e)) ∧ Below w.heap.size w w' := by
  have he' : (s.toList == []) = e := by rw [← he]; cases s.toList <;> rfl
  have hz' : (f == 0) = z := by rw [← hz, Bool.eq_iff_iff]; simp
  have h2 := run_bits
  cases p <;> cases z <;> cases e
  all_goals
    go_enter Try.func49, Try.ntmps49
    go_wp2_with fail
    go_ret
    first | exact ⟨rfl, below_a1 _ _⟩ | (refine ⟨?_, below_a1 _ _⟩; simp)
theorem rr1 (n : Int) (f : Nat) (s : ByteArray) (p q z e : Bool) (hp : (n == 0) = p) (hq : (n == 1) = q) (hz : ((f : Int) == 0) = z) (he : s.toList.isEmpty = e) (w : World) :
    Calls Try.prog 49 #[.agg #[.int .i64 1, .int .i64 n, .float .f64 f, .string s]] w fun E w' => E = .returned (.bool ((p || q) && z && e)) ∧ Below w.heap.size w w' := by
  have he' : (s.toList == []) = e := by rw [← he]; cases s.toList <;> rfl
  have hz' : (f == 0) = z := by rw [← hz, Bool.eq_iff_iff]; simp
  have h2 := run_bits
  cases p <;> cases q <;> cases z <;> cases e
  all_goals
    go_enter Try.func49, Try.ntmps49
    go_wp2_with fail
    go_ret
    first | exact ⟨rfl, below_a1 _ _⟩ | (refine ⟨?_, below_a1 _ _⟩; simp)
theorem rr2 (n : Int) (f : Nat) (s : ByteArray) (p q z e : Bool) (hp : (n == 0) = p) (hq : (n == 1) = q) (hz : ((f : Int) == 0) = z) (he : s.toList.isEmpty = e) (w : World) :
    Calls Try.prog 49 #[.agg #[.int .i64 2, .int .i64 n, .float .f64 f, .string s]] w fun E w' => E = .returned (.bool (z && e)) ∧ Below w.heap.size w w' := by
  have he' : (s.toList == []) = e := by rw [← he]; cases s.toList <;> rfl
  have hz' : (f == 0) = z := by rw [← hz, Bool.eq_iff_iff]; simp
  have h2 := run_bits
  cases z <;> cases e
  all_goals
    go_enter Try.func49, Try.ntmps49
    go_wp2_with fail
    go_ret
    first | exact ⟨rfl, below_a1 _ _⟩ | (refine ⟨?_, below_a1 _ _⟩; simp)
theorem rr4 (n : Int) (f : Nat) (s : ByteArray) (p q z e : Bool) (hp : (n == 0) = p) (hq : (n == 1) = q) (hz : ((f : Int) == 0) = z) (he : s.toList.isEmpty = e) (w : World) :
    Calls Try.prog 49 #[.agg #[.int .i64 4, .int .i64 n, .float .f64 f, .string s]] w fun E w' => E = .returned (.bool (p && z)) ∧ Below w.heap.size w w' := by
  have he' : (s.toList == []) = e := by rw [← he]; cases s.toList <;> rfl
  have hz' : (f == 0) = z := by rw [← hz, Bool.eq_iff_iff]; simp
  have h2 := run_bits
  cases p <;> cases z
  all_goals
    go_enter Try.func49, Try.ntmps49
    go_wp2_with fail
    go_ret
    first | exact ⟨rfl, below_a1 _ _⟩ | (refine ⟨?_, below_a1 _ _⟩; simp)
theorem rr5 (k : Int) (n : Int) (f : Nat) (s : ByteArray) (p q z e : Bool) (hp : (n == 0) = p) (hq : (n == 1) = q) (hz : ((f : Int) == 0) = z) (he : s.toList.isEmpty = e) (h0 : (k == 0) = false) (h1 : (k == 1) = false) (h2 : (k == 2) = false) (h3 : (k == 3) = false) (h4 : (k == 4) = false) (w : World) :
    Calls Try.prog 49 #[.agg #[.int .i64 k, .int .i64 n, .float .f64 f, .string s]] w fun E w' => E = .returned (.bool (false)) ∧ Below w.heap.size w w' := by
  have he' : (s.toList == []) = e := by rw [← he]; cases s.toList <;> rfl
  have hz' : (f == 0) = z := by rw [← hz, Bool.eq_iff_iff]; simp
  have hrb := run_bits
  cases z
  all_goals
    go_enter Try.func49, Try.ntmps49
    go_wp2_with fail
    go_ret
    first | exact ⟨rfl, below_a1 _ _⟩ | (refine ⟨?_, below_a1 _ _⟩; simp)
theorem rr3 (n : Int) (f : Nat) (s : ByteArray) (p e c z : Bool) (hp : (n == 0) = p) (he : s.toList.isEmpty = e) (hc : ((Flt.canon f : Int) == (f : Int)) = c) (hz : ((f : Int) == 0) = z) (hf : f < 18446744073709551616) (w : World) :
    Calls Try.prog 49 #[.agg #[.int .i64 3, .int .i64 n, .float .f64 f, .string s]] w fun E w' => E = .returned (.bool (p && e && c)) ∧ Below w.heap.size w w' := by
  have he' : (s.toList == []) = e := by rw [← he]; cases s.toList <;> rfl
  have hz' : (f == 0) = z := by rw [← hz, Bool.eq_iff_iff]; simp
  have hc' : (Flt.canon f == f) = c := by rw [← hc, Bool.eq_iff_iff]; simp; omega
  have h2 := run_bits
  have C1 := rbits_any f hf
  have L := later4 w (.int .i64 3) (.int .i64 n) (.float .f64 f) (.string s) 52
  clear hf
  cases p <;> cases e <;> cases c <;> cases z
  all_goals
    go_enter Try.func49, Try.ntmps49
    go_wp2_with fail
    refine wp_region_later (by kernel_rfl) (by kernel_rfl) ?_
    repeat (go_big_quiet_step (first | with_reducible exact later_same (C1 _)))
    refine wpQuiet_nil ?_
    rintro w' ⟨x, rfl⟩
    go_wp2_with fail
    go_ret
    exact ⟨rfl, Below.chain (below_a1 _ _) x.kept⟩
theorem rright_any (k n : Int) (f : Nat) (hf : f < 18446744073709551616) (s : ByteArray) (w : World) :
    Calls Try.prog 49 #[.agg #[.int .i64 k, .int .i64 n, .float .f64 f, .string s]] w fun e w' => e = .returned (.bool (rightB k n f s)) ∧ Below w.heap.size w w' := by
  by_cases h0 : k = 0
  · subst h0
    refine (rr0 n f s _ _ _ _ rfl rfl rfl rfl w).mono fun e w' h => ret_bool' ?_ h
    rw [Bool.eq_iff_iff]; simp [rightB]; grind
  by_cases h1 : k = 1
  · subst h1
    refine (rr1 n f s _ _ _ _ rfl rfl rfl rfl w).mono fun e w' h => ret_bool' ?_ h
    rw [Bool.eq_iff_iff]; simp [rightB]; grind
  by_cases h2 : k = 2
  · subst h2
    refine (rr2 n f s _ _ _ _ rfl rfl rfl rfl w).mono fun e w' h => ret_bool' ?_ h
    rw [Bool.eq_iff_iff]; simp [rightB]
  by_cases h3 : k = 3
  · subst h3
    refine (rr3 n f s _ _ _ _ rfl rfl rfl rfl hf w).mono fun e w' h => ret_bool' ?_ h
    rw [Bool.eq_iff_iff]; simp [rightB]; grind
  by_cases h4 : k = 4
  · subst h4
    refine (rr4 n f s _ _ _ _ rfl rfl rfl rfl w).mono fun e w' h => ret_bool' ?_ h
    rw [Bool.eq_iff_iff]; simp [rightB]
  · refine (rr5 k n f s _ _ _ _ rfl rfl rfl rfl (by simpa using h0) (by simpa using h1) (by simpa using h2) (by simpa using h3) (by simpa using h4) w).mono fun e w' h => ret_bool' ?_ h
    simp [rightB, h0, h1, h2, h3, h4]
end Go.Proofs.Ytdoefndppoglfaa


