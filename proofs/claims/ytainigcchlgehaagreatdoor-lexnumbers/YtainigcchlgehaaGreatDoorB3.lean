import Derived.Test.YtainigcchlgehaaGreatDoorB2
namespace Go.Proofs.YtainigcchlgehaaGreatDoor
open Go Go.RowKit
set_option linter.unusedVariables false
/-- a float that is c, but for which nan -/
def FloatRet (c : Nat) (w : World) (e : Ending) (w' : World) : Prop := ∃ r, e = .returned (.float .f64 r) ∧ Flt.canon r = c ∧ r < 18446744073709551616 ∧ Below w.heap.size w w'
/-- a number that has no room -/
def BadInt (w : World) (e : Ending) (w' : World) : Prop := ∃ N : Int, e = .returned (.tuple #[.int .i64 N, .bool false]) ∧ w = w'
/-- a number as a float -/
def asF (k n : Int) (f : Nat) : Nat := if k = 2 then floatOfInt .f64 n else f
theorem keptF {w0 w1 : World} {a b c r : Nat} {F a0 a1 a2 a3 b0 b1 b2 b3 r0 r1 r2 r3 : Value} (h : w0.cell? ⟨c, 1, none⟩ = some F ∧ w0.cell? ⟨a, 0, none⟩ = some a0 ∧ w0.cell? ⟨a, 1, none⟩ = some a1 ∧ w0.cell? ⟨a, 2, none⟩ = some a2 ∧ w0.cell? ⟨a, 3, none⟩ = some a3 ∧ w0.cell? ⟨b, 0, none⟩ = some b0 ∧ w0.cell? ⟨b, 1, none⟩ = some b1 ∧ w0.cell? ⟨b, 2, none⟩ = some b2 ∧ w0.cell? ⟨b, 3, none⟩ = some b3 ∧ w0.cell? ⟨r, 0, none⟩ = some r0 ∧ w0.cell? ⟨r, 1, none⟩ = some r1 ∧ w0.cell? ⟨r, 2, none⟩ = some r2 ∧ w0.cell? ⟨r, 3, none⟩ = some r3 ∧ w0.frozen? ⟨r, 0, none⟩ = false ∧ w0.frozen? ⟨r, 1, none⟩ = false ∧ w0.frozen? ⟨r, 2, none⟩ = false ∧ w0.frozen? ⟨r, 3, none⟩ = false) (hb : Below w0.heap.size w0 w1) : w1.cell? ⟨c, 1, none⟩ = some F ∧ w1.cell? ⟨a, 0, none⟩ = some a0 ∧ w1.cell? ⟨a, 1, none⟩ = some a1 ∧ w1.cell? ⟨a, 2, none⟩ = some a2 ∧ w1.cell? ⟨a, 3, none⟩ = some a3 ∧ w1.cell? ⟨b, 0, none⟩ = some b0 ∧ w1.cell? ⟨b, 1, none⟩ = some b1 ∧ w1.cell? ⟨b, 2, none⟩ = some b2 ∧ w1.cell? ⟨b, 3, none⟩ = some b3 ∧ w1.cell? ⟨r, 0, none⟩ = some r0 ∧ w1.cell? ⟨r, 1, none⟩ = some r1 ∧ w1.cell? ⟨r, 2, none⟩ = some r2 ∧ w1.cell? ⟨r, 3, none⟩ = some r3 ∧ w1.frozen? ⟨r, 0, none⟩ = false ∧ w1.frozen? ⟨r, 1, none⟩ = false ∧ w1.frozen? ⟨r, 2, none⟩ = false ∧ w1.frozen? ⟨r, 3, none⟩ = false := by
  obtain ⟨h1, h2, h3, h4, h5, h6, h7, h8, h9, h10, h11, h12, h13, f0, f1, f2, f3⟩ := h
  have hr := Lib.lt_of_cell h10
  exact ⟨later_cell h1 ⟨w1, hb⟩, later_cell h2 ⟨w1, hb⟩, later_cell h3 ⟨w1, hb⟩, later_cell h4 ⟨w1, hb⟩, later_cell h5 ⟨w1, hb⟩, later_cell h6 ⟨w1, hb⟩, later_cell h7 ⟨w1, hb⟩, later_cell h8 ⟨w1, hb⟩, later_cell h9 ⟨w1, hb⟩, later_cell h10 ⟨w1, hb⟩, later_cell h11 ⟨w1, hb⟩, later_cell h12 ⟨w1, hb⟩, later_cell h13 ⟨w1, hb⟩,
    (hb.frozen (p := ⟨r, 0, none⟩) hr).trans f0, (hb.frozen (p := ⟨r, 1, none⟩) hr).trans f1, (hb.frozen (p := ⟨r, 2, none⟩) hr).trans f2, (hb.frozen (p := ⟨r, 3, none⟩) hr).trans f3⟩
theorem keptF9 {w0 w1 : World} {a b c : Nat} {F a0 a1 a2 a3 b0 b1 b2 b3 : Value} (h : w0.cell? ⟨c, 1, none⟩ = some F ∧ w0.cell? ⟨a, 0, none⟩ = some a0 ∧ w0.cell? ⟨a, 1, none⟩ = some a1 ∧ w0.cell? ⟨a, 2, none⟩ = some a2 ∧ w0.cell? ⟨a, 3, none⟩ = some a3 ∧ w0.cell? ⟨b, 0, none⟩ = some b0 ∧ w0.cell? ⟨b, 1, none⟩ = some b1 ∧ w0.cell? ⟨b, 2, none⟩ = some b2 ∧ w0.cell? ⟨b, 3, none⟩ = some b3) (hb : Below w0.heap.size w0 w1) : w1.cell? ⟨c, 1, none⟩ = some F ∧ w1.cell? ⟨a, 0, none⟩ = some a0 ∧ w1.cell? ⟨a, 1, none⟩ = some a1 ∧ w1.cell? ⟨a, 2, none⟩ = some a2 ∧ w1.cell? ⟨a, 3, none⟩ = some a3 ∧ w1.cell? ⟨b, 0, none⟩ = some b0 ∧ w1.cell? ⟨b, 1, none⟩ = some b1 ∧ w1.cell? ⟨b, 2, none⟩ = some b2 ∧ w1.cell? ⟨b, 3, none⟩ = some b3 := by
  obtain ⟨h1, h2, h3, h4, h5, h6, h7, h8, h9⟩ := h
  exact ⟨later_cell h1 ⟨w1, hb⟩, later_cell h2 ⟨w1, hb⟩, later_cell h3 ⟨w1, hb⟩, later_cell h4 ⟨w1, hb⟩, later_cell h5 ⟨w1, hb⟩, later_cell h6 ⟨w1, hb⟩, later_cell h7 ⟨w1, hb⟩, later_cell h8 ⟨w1, hb⟩, later_cell h9 ⟨w1, hb⟩⟩
theorem keptF9s {w0 : World} {a b c r : Nat} {F a0 a1 a2 a3 b0 b1 b2 b3 v0 v1 v2 v3 : Value} (h : w0.cell? ⟨c, 1, none⟩ = some F ∧ w0.cell? ⟨a, 0, none⟩ = some a0 ∧ w0.cell? ⟨a, 1, none⟩ = some a1 ∧ w0.cell? ⟨a, 2, none⟩ = some a2 ∧ w0.cell? ⟨a, 3, none⟩ = some a3 ∧ w0.cell? ⟨b, 0, none⟩ = some b0 ∧ w0.cell? ⟨b, 1, none⟩ = some b1 ∧ w0.cell? ⟨b, 2, none⟩ = some b2 ∧ w0.cell? ⟨b, 3, none⟩ = some b3) (ha : r ≠ a) (hb : r ≠ b) (hc : r ≠ c) : ((((w0.setCell ⟨r, 0, none⟩ v0).setCell ⟨r, 1, none⟩ v1).setCell ⟨r, 2, none⟩ v2).setCell ⟨r, 3, none⟩ v3).cell? ⟨c, 1, none⟩ = some F ∧ ((((w0.setCell ⟨r, 0, none⟩ v0).setCell ⟨r, 1, none⟩ v1).setCell ⟨r, 2, none⟩ v2).setCell ⟨r, 3, none⟩ v3).cell? ⟨a, 0, none⟩ = some a0 ∧ ((((w0.setCell ⟨r, 0, none⟩ v0).setCell ⟨r, 1, none⟩ v1).setCell ⟨r, 2, none⟩ v2).setCell ⟨r, 3, none⟩ v3).cell? ⟨a, 1, none⟩ = some a1 ∧ ((((w0.setCell ⟨r, 0, none⟩ v0).setCell ⟨r, 1, none⟩ v1).setCell ⟨r, 2, none⟩ v2).setCell ⟨r, 3, none⟩ v3).cell? ⟨a, 2, none⟩ = some a2 ∧ ((((w0.setCell ⟨r, 0, none⟩ v0).setCell ⟨r, 1, none⟩ v1).setCell ⟨r, 2, none⟩ v2).setCell ⟨r, 3, none⟩ v3).cell? ⟨a, 3, none⟩ = some a3 ∧ ((((w0.setCell ⟨r, 0, none⟩ v0).setCell ⟨r, 1, none⟩ v1).setCell ⟨r, 2, none⟩ v2).setCell ⟨r, 3, none⟩ v3).cell? ⟨b, 0, none⟩ = some b0 ∧ ((((w0.setCell ⟨r, 0, none⟩ v0).setCell ⟨r, 1, none⟩ v1).setCell ⟨r, 2, none⟩ v2).setCell ⟨r, 3, none⟩ v3).cell? ⟨b, 1, none⟩ = some b1 ∧ ((((w0.setCell ⟨r, 0, none⟩ v0).setCell ⟨r, 1, none⟩ v1).setCell ⟨r, 2, none⟩ v2).setCell ⟨r, 3, none⟩ v3).cell? ⟨b, 2, none⟩ = some b2 ∧ ((((w0.setCell ⟨r, 0, none⟩ v0).setCell ⟨r, 1, none⟩ v1).setCell ⟨r, 2, none⟩ v2).setCell ⟨r, 3, none⟩ v3).cell? ⟨b, 3, none⟩ = some b3 := by
  obtain ⟨h1, h2, h3, h4, h5, h6, h7, h8, h9⟩ := h
  exact ⟨setfar hc h1, setfar ha h2, setfar ha h3, setfar ha h4, setfar ha h5, setfar hb h6, setfar hb h7, setfar hb h8, setfar hb h9⟩
end Go.Proofs.YtainigcchlgehaaGreatDoor
namespace Go.Proofs.YtainigcchlgehaaGreatDoor
open Go Go.RowKit
set_option linter.unusedVariables false
/-- has it room in 64 bits -/
def roomB (v : Int) : Bool := decide (-9223372036854775808 ≤ v ∧ v ≤ 9223372036854775807)
/-- v, and whether it has room -/
def IntRet (v : Int) (w : World) (e : Ending) (w' : World) : Prop := ∃ N, e = .returned (.tuple #[.int .i64 N, .bool (roomB v)]) ∧ (roomB v = true → N = v) ∧ w = w'
theorem intRet_mk {v N : Int} {b : Bool} {w : World} (h1 : b = roomB v) (h2 : roomB v = true → N = v) : IntRet v w (.returned (.tuple #[.int .i64 N, .bool b])) w := ⟨N, by rw [h1], h2, rfl⟩
theorem u64w (x : Int) : IntKind.u64.wrap x = x % 18446744073709551616 := by simp [IntKind.wrap, IntKind.bits, IntKind.signed]
/-- what two floats come to, all nans being one -/
def arC (op : BinOp) (x y : Nat) : Nat := match floatBits op .f64 x y with | some r => Flt.canon r | none => 9221120237041090561
theorem run_float_none (op : BinOp) (t : TypeId) (x y : Nat) (ho : op = .add ∨ op = .sub ∨ op = .mul) (h : floatBits op .f64 x y = none) (w : World) :
    ∃ r, (Flt.isNan r = true ∧ r < 18446744073709551616) ∧ (binOp op t (.float .f64 x) (.float .f64 y)).run Tryz.prog w = .ok (.float .f64 r) w.drew := by
  refine ⟨Question.cut (.nanBits .f64 x y) (w.tape w.drawn (.nanBits .f64 x y)), ?_, ?_⟩
  · generalize w.tape w.drawn (.nanBits .f64 x y) = t
    simp only [Question.cut]
    unfold Flt.isNan Flt.rung
    simp only [decide_eq_true_eq, Nat.reducePow, Nat.reduceSub]
    have hu : t % 2 < 2 := Nat.mod_lt _ (by decide)
    have hv : t / 2 % 4503599627370495 < 4503599627370495 := Nat.mod_lt _ (by decide)
    generalize t / 2 % 4503599627370495 = v at hv ⊢
    generalize t % 2 = u at hu ⊢
    have e : u = 0 ∨ u = 1 := by omega
    rcases e with rfl | rfl <;> omega
  · unfold floatBits at h
    rcases ho with rfl | rfl | rfl <;> simp only at h <;> simp [binOp, Op.floatArith, h, Question.forced]
theorem arith_any (op : BinOp) (g : Nat) (ho : op = .add ∨ op = .sub ∨ op = .mul) (x y : Nat)
    (H : ∀ (r : Nat) (w w' : World), (binOp op 39 (.float .f64 x) (.float .f64 y)).run Tryz.prog w = .ok (.float .f64 r) w' → Calls Tryz.prog g #[.float .f64 x, .float .f64 y] w fun e w'' => e = .returned (.float .f64 r) ∧ w' = w'') (w : World) :
    Calls Tryz.prog g #[.float .f64 x, .float .f64 y] w (FloatRet (arC op x y) w) := by
  unfold arC
  cases h : floatBits op .f64 x y with
  | some r =>
    refine (H r w w (run_float_arith (P := Tryz.prog) w op _ .f64 x y r h)).mono ?_
    rintro e w' ⟨rfl, rfl⟩
    have := floatBits_wf h
    exact ⟨r, rfl, rfl, by simpa [Lit.wf] using this, Below.refl _ _⟩
  | none =>
    obtain ⟨r, ⟨h1, h2⟩, h3⟩ := run_float_none op 39 x y ho h w
    refine (H r w w.drew h3).mono ?_
    rintro e w' ⟨rfl, rfl⟩
    exact ⟨r, rfl, Flt.canon_nan h1, h2, (Below.refl _ _).drew⟩
end Go.Proofs.YtainigcchlgehaaGreatDoor
namespace Go.Proofs.YtainigcchlgehaaGreatDoor
open Go Go.RowKit
set_option linter.unusedVariables false
/-- which of the three signs; 0: none -/
def opO (s : ByteArray) : Nat := if s.toList = [43] then 1 else if s.toList = [45] then 2 else if s.toList = [42] then 3 else 0
def iop (i : Nat) (a b : Int) : Int := if i = 1 then a + b else if i = 2 then a - b else a * b
def fop (i : Nat) : BinOp := if i = 1 then .add else if i = 2 then .sub else .mul
/-- what Reckon tells: kind, number, float, error -/
def reckR (op : ByteArray) (k n : Int) (f : Nat) (s : ByteArray) (k' n' : Int) (f' : Nat) (s' : ByteArray) : Int × Int × Nat × Int :=
  if opO op = 0 ∨ rightB k n f s = false ∨ rightB k' n' f' s' = false then (0, 0, 0, 1) else if k = 0 ∨ k' = 0 then (0, 0, 0, 0) else if (numB k && numB k') = false then (0, 0, 0, 4)
  else if k = 3 ∨ k' = 3 then (3, 0, arC (fop (opO op)) (asF k n f) (asF k' n' f'), 0) else if roomB (iop (opO op) n n') = true then (2, iop (opO op) n n', 0, 0) else (0, 0, 0, 7)
theorem ret_vf' {k n k' n' e e' : Int} {g g' : Nat} (h : (k, n, g, e) = (k', n', g', e')) {w w' : World} {x : Ending} (hx : x = .returned (.tuple #[.agg #[.int .i64 k, .int .i64 n, .float .f64 g, .string ⟨#[]⟩], .int .i64 e]) ∧ Below w.heap.size w w') :
    x = .returned (.tuple #[.agg #[.int .i64 k', .int .i64 n', .float .f64 g', .string ⟨#[]⟩], .int .i64 e']) ∧ Below w.heap.size w w' := by
  simp only [Prod.mk.injEq] at h
  obtain ⟨rfl, rfl, rfl, rfl⟩ := h
  exact hx
end Go.Proofs.YtainigcchlgehaaGreatDoor


