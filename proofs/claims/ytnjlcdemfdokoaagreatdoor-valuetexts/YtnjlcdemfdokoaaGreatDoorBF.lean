import Derived.Test.YtnjlcdemfdokoaaGreatDoorB9
import Derived.Test.YtnjlcdemfdokoaaGreatDoorB3
namespace Go.Proofs.YtnjlcdemfdokoaaGreatDoor
open Go Go.RowKit
set_option linter.unusedVariables false
/-- v, and whether it has room -/
def IntRetB (v : Int) (w : World) (e : Ending) (w' : World) : Prop := ∃ N, e = .returned (.tuple #[.int .i64 N, .bool (roomB v)]) ∧ (roomB v = true → N = v) ∧ Below w.heap.size w w'
theorem intRetB_mk {v N : Int} {b : Bool} {w w' : World} (h1 : b = roomB v) (h2 : roomB v = true → N = v) (hb : Below w.heap.size w w') : IntRetB v w (.returned (.tuple #[.int .i64 N, .bool b])) w' := ⟨N, by rw [h1], h2, hb⟩
theorem wrap64_eq (x : Int) : wrap64 x = (x + 9223372036854775808) % 18446744073709551616 - 9223372036854775808 := by simp only [wrap64]
theorem wrap64_bd (x : Int) : -9223372036854775808 ≤ wrap64 x ∧ wrap64 x ≤ 9223372036854775807 ∧ ∃ q, wrap64 x = x - q * 18446744073709551616 := by
  rw [wrap64_eq]
  refine ⟨by omega, by omega, (x + 9223372036854775808) / 18446744073709551616, by omega⟩
theorem room_iff (v : Int) : roomB v = true ↔ wrap64 v = v := by
  unfold roomB; rw [decide_eq_true_iff, wrap64_eq]; omega
/-- a product is known by the quotient -/
theorem quo_room (a b : Int) (b0 : b ≠ 0) (b1 : -9223372036854775808 ≤ b) (b2 : b ≤ 9223372036854775807) : (wrap64 (a * b)).tdiv b = a ↔ roomB (a * b) = true := by
  rw [room_iff]
  constructor
  · intro h
    have hd := Int.tmod_add_mul_tdiv (wrap64 (a * b)) b
    rw [h] at hd
    obtain ⟨w1, w2, q, hq⟩ := wrap64_bd (a * b)
    have hl : ((wrap64 (a * b)).tmod b).natAbs < b.natAbs := by
      have := Int.natAbs_tmod (wrap64 (a * b)) b
      rw [this]
      exact Nat.mod_lt _ (by omega)
    have hc : b * a = a * b := Int.mul_comm _ _
    rw [hc] at hd
    generalize a * b = P at *
    generalize wrap64 P = W at *
    generalize W.tmod b = T at *
    omega
  · intro h
    rw [h]
    exact Int.mul_tdiv_cancel _ b0
theorem rtimes_z (a b : Int) (h : (a == 0) = true ∨ ((a == 0) = false ∧ (b == 0) = true)) (w : World) :
    Calls Tryz.prog 58 #[.int .i64 a, .int .i64 b] w fun e w' => e = .returned (.tuple #[.int .i64 0, .bool true]) ∧ Below w.heap.size w w' := by
  rcases h with h | ⟨h, h'⟩
  all_goals
    go_enter Tryz.func58, Tryz.ntmps58
    go_wp2_with fail
    go_ret2
    exact ⟨rfl, Below.refl _ _⟩
theorem rtimes_m (a b : Int) (h0 : (a == 0) = false) (h1 : (b == 0) = false) (h2 : (a == -1) = true) (w : World) :
    Calls Tryz.prog 58 #[.int .i64 a, .int .i64 b] w fun e w' => e = .returned (.tuple #[.int .i64 (wrap64 (-b)), .bool (b != -9223372036854775808)]) ∧ Below w.heap.size w w' := by
  go_enter Tryz.func58, Tryz.ntmps58
  go_wp2_with fail
  go_ret2
  exact ⟨rfl, Below.refl _ _⟩
theorem rtimes_n (a b : Int) (h0 : (a == 0) = false) (h1 : (b == 0) = false) (h2 : (a == -1) = false) (h3 : (b == -1) = true) (w : World) :
    Calls Tryz.prog 58 #[.int .i64 a, .int .i64 b] w fun e w' => e = .returned (.tuple #[.int .i64 (wrap64 (-a)), .bool (a != -9223372036854775808)]) ∧ Below w.heap.size w w' := by
  go_enter Tryz.func58, Tryz.ntmps58
  go_wp2_with fail
  go_ret2
  exact ⟨rfl, Below.refl _ _⟩
theorem rtimes_p (a b P Q : Int) (h0 : (a == 0) = false) (h1 : (b == 0) = false) (h2 : (a == -1) = false) (h3 : (b == -1) = false) (hP : wrap64 (a * b) = P) (hQ : P.tdiv b = Q) (hQ1 : -9223372036854775808 ≤ Q) (hQ2 : Q ≤ 9223372036854775807) (w : World) :
    Calls Tryz.prog 58 #[.int .i64 a, .int .i64 b] w fun e w' => e = .returned (.tuple #[.int .i64 P, .bool (Q == a)]) ∧ Below w.heap.size w w' := by
  have hw : IntKind.i64.wrap Q = Q := IntWalk.i64_in _ (by omega)
  have hw2 : IntKind.i64.wrap (a * b) = P := by rw [IntWalk.i64_left]; exact hP
  have hb : ¬ b = 0 := by simpa using h1
  go_enter Tryz.func58, Tryz.ntmps58
  go_wp2_with fail
  go_quiet (fail)
  go_wp2_with fail
  go_ret2
  exact ⟨rfl, below_drewN (Below.refl _ _) _⟩
theorem rsum_core (a b : Int) (c1 c2 c3 c4 : Bool) (h1 : decide (0 < b) = c1) (h2 : decide (wrap64 (9223372036854775807 - b) < a) = c2) (h3 : decide (b < 0) = c3) (h4 : decide (a < wrap64 (-9223372036854775808 - b)) = c4) (w : World) :
    Calls Tryz.prog 59 #[.int .i64 a, .int .i64 b] w fun e w' => e = .returned (.tuple #[.int .i64 (if (c1 && c2 || c3 && c4) = true then 0 else wrap64 (a + b)), .bool !(c1 && c2 || c3 && c4)]) ∧ w = w' := by
  cases c1 <;> cases c2 <;> cases c3 <;> cases c4
  all_goals
    go_enter Tryz.func59, Tryz.ntmps59
    go_wp2_with fail
    go_ret2
    exact ⟨rfl, rfl⟩
theorem rtimes_any (a b : Int) (a1 : -9223372036854775808 ≤ a) (a2 : a ≤ 9223372036854775807) (b1 : -9223372036854775808 ≤ b) (b2 : b ≤ 9223372036854775807) (w : World) :
    Calls Tryz.prog 58 #[.int .i64 a, .int .i64 b] w (IntRetB (a * b) w) := by
  have r0 : roomB 0 = true := by decide
  by_cases ha : a = 0
  · refine (rtimes_z a b (.inl (by simpa using ha)) w).mono ?_
    rintro e w' ⟨rfl, hb⟩
    exact intRetB_mk (by rw [ha, Int.zero_mul, r0]) (by rw [ha, Int.zero_mul]; simp) hb
  by_cases hb0 : b = 0
  · refine (rtimes_z a b (.inr ⟨by simpa using ha, by simpa using hb0⟩) w).mono ?_
    rintro e w' ⟨rfl, hb⟩
    exact intRetB_mk (by rw [hb0, Int.mul_zero, r0]) (by rw [hb0, Int.mul_zero]; simp) hb
  by_cases hm : a = -1
  · refine (rtimes_m a b (by simpa using ha) (by simpa using hb0) (by simpa using hm) w).mono ?_
    rintro e w' ⟨rfl, hb⟩
    have e1 : a * b = -b := by rw [hm]; omega
    rw [e1]
    refine intRetB_mk ?_ ?_ hb
    · unfold roomB; rw [Bool.eq_iff_iff, bne_iff_ne, decide_eq_true_iff]; omega
    · intro h; exact (room_iff _).1 h
  by_cases hn : b = -1
  · refine (rtimes_n a b (by simpa using ha) (by simpa using hb0) (by simpa using hm) (by simpa using hn) w).mono ?_
    rintro e w' ⟨rfl, hb⟩
    have e1 : a * b = -a := by rw [hn]; omega
    rw [e1]
    refine intRetB_mk ?_ ?_ hb
    · unfold roomB; rw [Bool.eq_iff_iff, bne_iff_ne, decide_eq_true_iff]; omega
    · intro h; exact (room_iff _).1 h
  obtain ⟨p1, p2, _⟩ := wrap64_bd (a * b)
  have hq : -9223372036854775808 ≤ (wrap64 (a * b)).tdiv b ∧ (wrap64 (a * b)).tdiv b ≤ 9223372036854775807 := by
    by_cases h1 : b = 1
    · have e : (wrap64 (a * b)).tdiv b = wrap64 (a * b) := by rw [h1, Int.tdiv_one]
      rw [e]; exact ⟨p1, p2⟩
    · have h2 : 2 ≤ b.natAbs := by omega
      have h3 : (wrap64 (a * b)).natAbs ≤ 9223372036854775808 := by omega
      have h4 : ((wrap64 (a * b)).tdiv b).natAbs ≤ (wrap64 (a * b)).natAbs / 2 := by
        rw [Int.natAbs_tdiv]; exact Nat.div_le_div_left h2 (by decide)
      generalize (wrap64 (a * b)).tdiv b = Q at *
      generalize (wrap64 (a * b)).natAbs = M at *
      clear p1 p2
      omega
  refine (rtimes_p a b _ _ (by simpa using ha) (by simpa using hb0) (by simpa using hm) (by simpa using hn) rfl rfl hq.1 hq.2 w).mono ?_
  rintro e w' ⟨rfl, hb⟩
  refine intRetB_mk ?_ ?_ hb
  · rw [Bool.eq_iff_iff, beq_iff_eq]; exact quo_room a b hb0 b1 b2
  · intro h; exact (room_iff _).1 h
theorem rsum_any (a b : Int) (a1 : -9223372036854775808 ≤ a) (a2 : a ≤ 9223372036854775807) (b1 : -9223372036854775808 ≤ b) (b2 : b ≤ 9223372036854775807) (w : World) :
    Calls Tryz.prog 59 #[.int .i64 a, .int .i64 b] w (IntRetB (a + b) w) := by
  refine (rsum_core a b _ _ _ _ rfl rfl rfl rfl w).mono ?_
  rintro e w' ⟨rfl, rfl⟩
  have key : (decide (0 < b) && decide (wrap64 (9223372036854775807 - b) < a) || decide (b < 0) && decide (a < wrap64 (-9223372036854775808 - b))) = !roomB (a + b) := by
    unfold roomB
    rw [wrap64_eq, wrap64_eq, Bool.eq_iff_iff]
    simp only [Bool.or_eq_true, Bool.and_eq_true, decide_eq_true_eq, Bool.not_eq_true', decide_eq_false_iff_not]
    omega
  rw [key]
  refine intRetB_mk (by simp) ?_ (Below.refl _ _)
  intro h
  rw [h]
  exact (room_iff _).1 h
/-- a step of floats, wherever it runs -/
theorem far (op : BinOp) (ho : op = .add ∨ op = .sub ∨ op = .mul) (x y : Nat) (w : World) : ∃ r w', (binOp op 26 (.float .f64 x) (.float .f64 y)).run Tryz.prog w = .ok (.float .f64 r) w' ∧ Flt.canon r = arC op x y ∧ r < 18446744073709551616 ∧ Below w.heap.size w w' := by
  unfold arC
  cases h : floatBits op .f64 x y with
  | some r =>
    have := floatBits_wf h
    exact ⟨r, w, run_float_arith (P := Tryz.prog) w op _ .f64 x y r h, rfl, by simpa [Lit.wf] using this, Below.refl _ _⟩
  | none =>
    obtain ⟨r, ⟨h1, h2⟩, h3⟩ := run_float_none op 26 x y ho h w
    exact ⟨r, w.drew, h3, Flt.canon_nan h1, h2, (Below.refl _ _).drew⟩
theorem canon2 (r : Nat) : Flt.canon (Flt.canon r) = Flt.canon r := by
  cases hn : Flt.isNan r
  · rw [Flt.canon_num hn, Flt.canon_num hn]
  · rw [Flt.canon_nan hn, Flt.canon_nan (by decide)]
theorem arC_lt (op : BinOp) (x y : Nat) : arC op x y < 18446744073709551616 ∧ Flt.canon (arC op x y) = arC op x y := by
  unfold arC
  cases h : floatBits op .f64 x y with
  | some r =>
    have := floatBits_wf h
    exact ⟨Flt.canon_lt (by simpa [Lit.wf] using this), canon2 r⟩
  | none => exact ⟨by decide, Flt.canon_nan (by decide)⟩
end Go.Proofs.YtnjlcdemfdokoaaGreatDoor
