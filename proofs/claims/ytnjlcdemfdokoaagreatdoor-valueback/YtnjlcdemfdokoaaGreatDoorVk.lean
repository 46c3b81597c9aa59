import Derived.Test.YtnjlcdemfdokoaaGreatDoorVj
namespace Go.Proofs.YtnjlcdemfdokoaaGreatDoor
open Go Go.RowKit
/-- has it room in 64 bits -/
def roomB (v : Int) : Bool := decide (-9223372036854775808 ≤ v ∧ v ≤ 9223372036854775807)
/-- v, and whether it has room -/
def IntRet (v : Int) (w : World) (e : Ending) (w' : World) : Prop := ∃ N, e = .returned (.tuple #[.int .i64 N, .bool (roomB v)]) ∧ (roomB v = true → N = v) ∧ w = w'
theorem intRet_mk {v N : Int} {b : Bool} {w : World} (h1 : b = roomB v) (h2 : roomB v = true → N = v) : IntRet v w (.returned (.tuple #[.int .i64 N, .bool b])) w := ⟨N, by rw [h1], h2, rfl⟩
theorem addi_any (a b : Int) (a1 : -9223372036854775808 ≤ a) (a2 : a ≤ 9223372036854775807) (b1 : -9223372036854775808 ≤ b) (b2 : b ≤ 9223372036854775807) (w : World) :
    Calls Tryz.prog 89 #[.int .i64 a, .int .i64 b] w (IntRet (a + b) w) := by
  have c : Calls Tryz.prog 89 #[.int .i64 a, .int .i64 b] w fun e w' => e = .returned (.tuple #[.int .i64 (wrap64 (a + b)), .bool (decide (a < wrap64 (a + b)) == decide (0 < b))]) ∧ w = w' := by
    clear a1 a2 b1 b2
    go_enter Tryz.func89, Tryz.ntmps89
    go_wp2_with fail
    go_ret2
    exact ⟨rfl, rfl⟩
  refine c.mono ?_
  rintro e w' ⟨rfl, rfl⟩
  refine intRet_mk ?_ ?_
  · unfold roomB wrap64; rw [Bool.eq_iff_iff, beq_iff_eq, Bool.eq_iff_iff]; simp only [decide_eq_true_eq]; omega
  · unfold roomB wrap64; simp only [decide_eq_true_eq]; omega
theorem subi_any (a b : Int) (a1 : -9223372036854775808 ≤ a) (a2 : a ≤ 9223372036854775807) (b1 : -9223372036854775808 ≤ b) (b2 : b ≤ 9223372036854775807) (w : World) :
    Calls Tryz.prog 91 #[.int .i64 a, .int .i64 b] w (IntRet (a - b) w) := by
  have c : Calls Tryz.prog 91 #[.int .i64 a, .int .i64 b] w fun e w' => e = .returned (.tuple #[.int .i64 (wrap64 (a - b)), .bool (decide (wrap64 (a - b) < a) == decide (0 < b))]) ∧ w = w' := by
    clear a1 a2 b1 b2
    go_enter Tryz.func91, Tryz.ntmps91
    go_wp2_with fail
    go_ret2
    exact ⟨rfl, rfl⟩
  refine c.mono ?_
  rintro e w' ⟨rfl, rfl⟩
  refine intRet_mk ?_ ?_
  · unfold roomB wrap64; rw [Bool.eq_iff_iff, beq_iff_eq, Bool.eq_iff_iff]; simp only [decide_eq_true_eq]; omega
  · unfold roomB wrap64; simp only [decide_eq_true_eq]; omega
theorem u64w (x : Int) : IntKind.u64.wrap x = x % 18446744073709551616 := by simp [IntKind.wrap, IntKind.bits, IntKind.signed]
theorem size_any (a : Int) (h1 : -9223372036854775808 ≤ a) (h2 : a ≤ 9223372036854775807) (w : World) :
    Calls Tryz.prog 120 #[.int .i64 a] w fun e w' => e = .returned (.int .u64 (a.natAbs : Nat)) ∧ w = w' := by
  by_cases h : a < 0
  · go_enter Tryz.func120, Tryz.ntmps120
    go_wp2_with fail
    go_ret
    refine ⟨ret_int ?_, rfl⟩
    rw [u64w, u64w]
    omega
  · have h' : decide (a < 0) = false := by simpa using h
    go_enter Tryz.func120, Tryz.ntmps120
    go_wp2_with fail
    go_ret
    refine ⟨ret_int ?_, rfl⟩
    show a = _
    omega
theorem times_core (a b v : Int) (x y hi lo m : Nat) (p q : Bool) (hp : decide (a < 0) = p) (hq : decide (b < 0) = q) (hhi : Hid (hi = m / 18446744073709551616)) (hlo : Hid (lo = m % 18446744073709551616)) (hv : Hid (v = if p = q then (m : Int) else -(m : Int)))
    (S1 : ∀ w, Calls Tryz.prog 120 #[.int .i64 a] w fun e w' => e = .returned (.int .u64 (x : Int)) ∧ w = w') (S2 : ∀ w, Calls Tryz.prog 120 #[.int .i64 b] w fun e w' => e = .returned (.int .u64 (y : Int)) ∧ w = w')
    (M : ∀ w, Calls Tryz.prog 119 #[.int .u64 (x : Int), .int .u64 (y : Int)] w fun e w' => e = .returned (.tuple #[.int .u64 (hi : Int), .int .u64 (lo : Int)]) ∧ w = w') (h0 : Bool) (h0' : ((hi : Int) == 0) = h0) (w : World) :
    Calls Tryz.prog 93 #[.int .i64 a, .int .i64 b] w (IntRet v w) := by
  have hh : h0 = decide (hi = 0) := by rw [← h0', Bool.eq_iff_iff]; simp
  have HH := Lib.hid hh
  clear hh
  cases p <;> cases q <;> cases h0
  all_goals
    go_enter Tryz.func93, Tryz.ntmps93
    go_wp2_with (first | ((with_reducible refine (S1 _).mono ?_); rintro e w' ⟨rfl, rfl⟩) | ((with_reducible refine (S2 _).mono ?_); rintro e w' ⟨rfl, rfl⟩) | ((with_reducible refine (M _).mono ?_); rintro e w' ⟨rfl, rfl⟩))
    go_ret2
    have e1 := hhi.out
    have e2 := hlo.out
    have e3 := hv.out
    have e4 := HH.out
    simp at e3 e4
    refine intRet_mk ?_ ?_
    · unfold roomB; rw [Bool.eq_iff_iff]; simp; omega
    · unfold roomB wrap64; simp [u64w]; omega
theorem times_any (a b : Int) (a1 : -9223372036854775808 ≤ a) (a2 : a ≤ 9223372036854775807) (b1 : -9223372036854775808 ≤ b) (b2 : b ≤ 9223372036854775807) (w : World) :
    Calls Tryz.prog 93 #[.int .i64 a, .int .i64 b] w (IntRet (a * b) w) := by
  have hm := fun W => Tryz.bits_Mul64 a.natAbs b.natAbs (by omega) (by omega) W
  refine times_core a b (a * b) a.natAbs b.natAbs _ _ (a.natAbs * b.natAbs) _ _ rfl rfl (Lib.hid rfl) (Lib.hid rfl) (Lib.hid ?_) (size_any a a1 a2) (size_any b b1 b2) (fun W => (hm W).mono fun _ _ ⟨x, y⟩ => ⟨x, y.symm⟩) _ rfl w
  by_cases ha : a < 0 <;> by_cases hb : b < 0
  · rw [if_pos (by simp [ha, hb])]
    obtain ⟨x, rfl⟩ : ∃ x : Nat, a = -(x : Int) := ⟨a.natAbs, by omega⟩
    obtain ⟨y, rfl⟩ : ∃ y : Nat, b = -(y : Int) := ⟨b.natAbs, by omega⟩
    simp [Int.neg_mul_neg]
  · rw [if_neg (by simp [ha]; omega)]
    obtain ⟨x, rfl⟩ : ∃ x : Nat, a = -(x : Int) := ⟨a.natAbs, by omega⟩
    obtain ⟨y, rfl⟩ : ∃ y : Nat, b = (y : Int) := ⟨b.natAbs, by omega⟩
    simp [Int.neg_mul]
  · rw [if_neg (by simp [hb]; omega)]
    obtain ⟨x, rfl⟩ : ∃ x : Nat, a = (x : Int) := ⟨a.natAbs, by omega⟩
    obtain ⟨y, rfl⟩ : ∃ y : Nat, b = -(y : Int) := ⟨b.natAbs, by omega⟩
    simp [Int.mul_neg]
  · rw [if_pos (by simp [ha, hb])]
    obtain ⟨x, rfl⟩ : ∃ x : Nat, a = (x : Int) := ⟨a.natAbs, by omega⟩
    obtain ⟨y, rfl⟩ : ∃ y : Nat, b = (y : Int) := ⟨b.natAbs, by omega⟩
    simp
/-- what two floats come to, all nans being one -/
def arC (op : BinOp) (x y : Nat) : Nat := match floatBits op .f64 x y with | some r => Flt.canon r | none => 9221120237041090561
theorem run_float_none (op : BinOp) (t : TypeId) (x y : Nat) (ho : op = .add ∨ op = .sub ∨ op = .mul) (h : floatBits op .f64 x y = none) (w : World) :
    ∃ r, (Flt.isNan r = true ∧ r < 18446744073709551616) ∧ (binOp op t (.float .f64 x) (.float .f64 y)).run Tryz.prog w = .ok (.float .f64 r) w.drew := by
  refine ⟨Question.cut (.nanBits .f64 x y) (w.tape w.drawn (.nanBits .f64 x y)), ?_, ?_⟩
  · generalize w.tape w.drawn (.nanBits .f64 x y) = t
    simp only [Question.cut]
    unfold Flt.isNan Flt.rung
    simp only [decide_eq_true_eq, Nat.reducePow, Nat.reduceSub]
    have hu : t % 2 < 2 := Nat.mod_lt _ (by decide)
    have hv : t / 2 % 4503599627370495 < 4503599627370495 := Nat.mod_lt _ (by decide)
    generalize t / 2 % 4503599627370495 = v at hv ⊢
    generalize t % 2 = u at hu ⊢
    have e : u = 0 ∨ u = 1 := by omega
    rcases e with rfl | rfl <;> omega
  · unfold floatBits at h
    rcases ho with rfl | rfl | rfl <;> simp only at h <;> simp [binOp, Op.floatArith, h, Question.forced]
theorem arith_any (op : BinOp) (g : Nat) (ho : op = .add ∨ op = .sub ∨ op = .mul) (x y : Nat)
    (H : ∀ (r : Nat) (w w' : World), (binOp op 26 (.float .f64 x) (.float .f64 y)).run Tryz.prog w = .ok (.float .f64 r) w' → Calls Tryz.prog g #[.float .f64 x, .float .f64 y] w fun e w'' => e = .returned (.float .f64 r) ∧ w' = w'') (w : World) :
    Calls Tryz.prog g #[.float .f64 x, .float .f64 y] w (FloatRet (arC op x y) w) := by
  unfold arC
  cases h : floatBits op .f64 x y with
  | some r =>
    refine (H r w w (run_float_arith (P := Tryz.prog) w op _ .f64 x y r h)).mono ?_
    rintro e w' ⟨rfl, rfl⟩
    have := floatBits_wf h
    exact ⟨r, rfl, rfl, by simpa [Lit.wf] using this, Below.refl _ _⟩
  | none =>
    obtain ⟨r, ⟨h1, h2⟩, h3⟩ := run_float_none op 26 x y ho h w
    refine (H r w w.drew h3).mono ?_
    rintro e w' ⟨rfl, rfl⟩
    exact ⟨r, rfl, Flt.canon_nan h1, h2, (Below.refl _ _).drew⟩
theorem addf_any (x y : Nat) (w : World) : Calls Tryz.prog 90 #[.float .f64 x, .float .f64 y] w (FloatRet (arC .add x y) w) := by
  refine arith_any .add _ (by simp) x y (fun r w w' h => ?_) w
  go_enter Tryz.func90, Tryz.ntmps90
  go_wp2_with fail
  go_ret
  exact ⟨rfl, rfl⟩
theorem subf_any (x y : Nat) (w : World) : Calls Tryz.prog 92 #[.float .f64 x, .float .f64 y] w (FloatRet (arC .sub x y) w) := by
  refine arith_any .sub _ (by simp) x y (fun r w w' h => ?_) w
  go_enter Tryz.func92, Tryz.ntmps92
  go_wp2_with fail
  go_ret
  exact ⟨rfl, rfl⟩
theorem mulf_any (x y : Nat) (w : World) : Calls Tryz.prog 94 #[.float .f64 x, .float .f64 y] w (FloatRet (arC .mul x y) w) := by
  refine arith_any .mul _ (by simp) x y (fun r w w' h => ?_) w
  go_enter Tryz.func94, Tryz.ntmps94
  go_wp2_with fail
  go_ret
  exact ⟨rfl, rfl⟩
end Go.Proofs.YtnjlcdemfdokoaaGreatDoor
