import Derived.Test.YtnjlcdemfdokoaaGreatDoorWd
namespace Go.Proofs.YtnjlcdemfdokoaaGreatDoor
open Go
theorem val_int {k : IntKind} {a b : Int} (h : a = b) : Value.int k a = Value.int k b := by rw [h]
theorem val_float {a b : Nat} (h : a = b) : Value.float .f64 a = Value.float .f64 b := by rw [h]
theorem eq0_false {a : Nat} (h1 : 0 < a) (h2 : a < 9218868437227405312) : (FloatKind.f64.format.order a 0 == some Ordering.eq) = false := by
  rw [Flt.ord_eq (by omega) (by decide), Flt.key_small (a := a) (by omega), Flt.key_small (a := 0) (by decide)]
  simp; omega
theorem lt0_false {a : Nat} (h2 : a < 9218868437227405312) : (FloatKind.f64.format.order a 0 == some Ordering.lt) = false := by
  rw [Flt.ord_lt (by omega) (by decide), Flt.key_small (a := a) (by omega), Flt.key_small (a := 0) (by decide)]
  simp
set_option maxHeartbeats 400000 in
theorem frexp_core (a r : Nat) (ex : Int) (h1 : 0 < a) (h2 : a < 9218868437227405312) (hr1 : 4503599627370496 ≤ r) (hr2 : r < 9218868437227405312) (hx1 : -52 ≤ ex) (hx2 : ex ≤ 0)
    (HN : ∀ w, Calls Tryz.prog 161 #[.float .f64 a] w fun e w' => e = .returned (.tuple #[.float .f64 r, .int .i64 ex]) ∧ w = w') (w : World) :
    Calls Tryz.prog 143 #[.float .f64 a] w fun e w' => e = .returned (.tuple #[.float .f64 (4602678819172646912 + r % 4503599627370496), .int .i64 (ex + ((r / 4503599627370496 : Nat) : Int) - 1022)]) ∧ w = w' := by
  have h0 := eq0_false h1 h2
  have hi : decide (Flt.rung a = 9218868437227405312) = false := by rw [Flt.rung_small (by omega)]; simp; omega
  have hn : Flt.isNan a = false := Flt.num_small (by omega)
  have HI := isinf0_any a (by omega)
  rw [hi] at HI
  have HM := isnan_any a (by omega)
  rw [hn] at HM
  have hb := run_bits
  have hfb := run_frombits
  obtain ⟨q, hq⟩ : ∃ q : Nat, q = r / 4503599627370496 := ⟨_, rfl⟩
  obtain ⟨f, hf⟩ : ∃ f : Nat, f = r % 4503599627370496 := ⟨_, rfl⟩
  obtain ⟨z, hz⟩ : ∃ z : Nat, z = 4602678819172646912 + f := ⟨_, rfl⟩
  have q1 : 1 ≤ q := by omega
  have q2 : q ≤ 2046 := by omega
  have e1 : (r : Int) / 4503599627370496 = (q : Int) := by omega
  have e2 : bits .and .u64 (q : Int) 2047 = (q : Int) := by rw [Flt.b_and_2047 q (by omega)]; omega
  have e3 : bits .andNot .u64 (r : Int) 9218868437227405312 = (f : Int) := by rw [Flt.b_andNot_exp r (by omega), hf]
  have e4 : bits .or .u64 (f : Int) 4602678819172646912 = (z : Int) := by
    have := Flt.b_or_exp 1022 f (by omega) (by omega)
    rw [show (1022 * 4503599627370496 : Nat) = 4602678819172646912 from by decide] at this
    rw [hz]; exact this
  rw [← hq, ← hf, ← hz]
  clear hq hf hz hi hn h1 h2 hr1 hr2
  go_enter Tryz.func143, Tryz.ntmps143
  go_wp2_with (first | (go_at_call 97; refine (HI _).mono ?_; rintro e w' ⟨rfl, rfl⟩) | (go_at_call 74; refine (HM _).mono ?_; rintro e w' ⟨rfl, rfl⟩) | (go_at_call 161; refine (HN _).mono ?_; rintro e w' ⟨rfl, rfl⟩))
  go_ret2
  exact ⟨ret_tup2 rfl (val_int (show ex + ((q : Int) - 1023 + 1) = ex + (q : Int) - 1022 by omega)), rfl⟩

theorem Flt.bi_and_2047 (q : Nat) (h : q < 2048) : bits .and .i64 (q : Int) 2047 = (q : Int) := by
  have h := bits_mask .i64 63 (by decide) (fun n h0 h1 => by rw [IntKind.wrap_i64]; omega) 11 (by decide) (q : Int) (by omega) (by omega)
  refine h.trans ?_
  omega

set_option maxHeartbeats 400000 in
theorem ldexp_low (a r : Nat) (ex x : Int) (h1 : 0 < a) (h2 : a < 9218868437227405312) (hr1 : 4503599627370496 ≤ r) (hr2 : r < 9218868437227405312) (hx1 : -52 ≤ ex) (hx2 : ex ≤ 0) (hx3 : -40000 ≤ x) (hx4 : x ≤ 40000)
    (HN : ∀ w, Calls Tryz.prog 161 #[.float .f64 a] w fun e w' => e = .returned (.tuple #[.float .f64 r, .int .i64 ex]) ∧ w = w') (ht : x + ex + ((r / 4503599627370496 : Nat) : Int) < -52) (w : World) :
    Calls Tryz.prog 145 #[.float .f64 a, .int .i64 x] w fun e w' => e = .returned (.float .f64 0) ∧ w = w' := by
  have h0 := eq0_false h1 h2
  have hi : decide (Flt.rung a = 9218868437227405312) = false := by rw [Flt.rung_small (by omega)]; simp; omega
  have hn : Flt.isNan a = false := Flt.num_small (by omega)
  have HI := isinf0_any a (by omega)
  rw [hi] at HI
  have HM := isnan_any a (by omega)
  rw [hn] at HM
  have hb := run_bits
  have hfb := run_frombits
  obtain ⟨q, hq⟩ : ∃ q : Nat, q = r / 4503599627370496 := ⟨_, rfl⟩
  obtain ⟨f, hf⟩ : ∃ f : Nat, f = r % 4503599627370496 := ⟨_, rfl⟩
  have q1 : 1 ≤ q := by omega
  have q2 : q ≤ 2046 := by omega
  have f2 : f < 4503599627370496 := by omega
  have e1 : (r : Int) / 4503599627370496 = (q : Int) := by omega
  have e2 : bits .and .i64 (q : Int) 2047 = (q : Int) := Flt.bi_and_2047 q (by omega)
  have e3 : bits .andNot .u64 (r : Int) 9218868437227405312 = (f : Int) := by rw [Flt.b_andNot_exp r (by omega), hf]
  have ht' : x + ex + (q : Int) - 1023 < -1075 := by omega
  have hc : Flt.copysign 0 r = 0 := by unfold Flt.copysign; rw [if_neg (by omega)]; decide
  have HC := copysign_any 0 r (by decide) (by omega)
  rw [hc] at HC
  clear hq hf hi hn h1 h2 hr1 hr2 ht hc
  go_enter Tryz.func145, Tryz.ntmps145
  go_wp2_with (first | (go_at_call 97; refine (HI _).mono ?_; rintro e w' ⟨rfl, rfl⟩) | (go_at_call 74; refine (HM _).mono ?_; rintro e w' ⟨rfl, rfl⟩) | (go_at_call 161; refine (HN _).mono ?_; rintro e w' ⟨rfl, rfl⟩) | (go_at_call 156; refine (HC _).mono ?_; rintro e w' ⟨rfl, rfl⟩))
  go_ret
  exact ⟨rfl, rfl⟩

set_option maxHeartbeats 400000 in
theorem ldexp_high (a r : Nat) (ex x : Int) (h1 : 0 < a) (h2 : a < 9218868437227405312) (hr1 : 4503599627370496 ≤ r) (hr2 : r < 9218868437227405312) (hx1 : -52 ≤ ex) (hx2 : ex ≤ 0) (hx3 : -40000 ≤ x) (hx4 : x ≤ 40000)
    (HN : ∀ w, Calls Tryz.prog 161 #[.float .f64 a] w fun e w' => e = .returned (.tuple #[.float .f64 r, .int .i64 ex]) ∧ w = w') (ht : 2046 < x + ex + ((r / 4503599627370496 : Nat) : Int)) (w : World) :
    Calls Tryz.prog 145 #[.float .f64 a, .int .i64 x] w fun e w' => e = .returned (.float .f64 9218868437227405312) ∧ w = w' := by
  have h0 := eq0_false h1 h2
  have hi : decide (Flt.rung a = 9218868437227405312) = false := by rw [Flt.rung_small (by omega)]; simp; omega
  have hn : Flt.isNan a = false := Flt.num_small (by omega)
  have HI := isinf0_any a (by omega)
  rw [hi] at HI
  have HM := isnan_any a (by omega)
  rw [hn] at HM
  have hb := run_bits
  have hfb := run_frombits
  obtain ⟨q, hq⟩ : ∃ q : Nat, q = r / 4503599627370496 := ⟨_, rfl⟩
  obtain ⟨f, hf⟩ : ∃ f : Nat, f = r % 4503599627370496 := ⟨_, rfl⟩
  have q1 : 1 ≤ q := by omega
  have q2 : q ≤ 2046 := by omega
  have f2 : f < 4503599627370496 := by omega
  have e1 : (r : Int) / 4503599627370496 = (q : Int) := by omega
  have e2 : bits .and .i64 (q : Int) 2047 = (q : Int) := Flt.bi_and_2047 q (by omega)
  have e3 : bits .andNot .u64 (r : Int) 9218868437227405312 = (f : Int) := by rw [Flt.b_andNot_exp r (by omega), hf]
  have ht' : 1023 < x + ex + (q : Int) - 1023 := by omega
  have hl := lt0_false hr2
  have HC := inf_pos
  clear hq hf hi hn h1 h2 hr1 hr2 ht
  go_enter Tryz.func145, Tryz.ntmps145
  go_wp2_with (first | (go_at_call 97; refine (HI _).mono ?_; rintro e w' ⟨rfl, rfl⟩) | (go_at_call 74; refine (HM _).mono ?_; rintro e w' ⟨rfl, rfl⟩) | (go_at_call 161; refine (HN _).mono ?_; rintro e w' ⟨rfl, rfl⟩) | (go_at_call 152; refine (HC _).mono ?_; rintro e w' ⟨rfl, rfl⟩))
  go_ret
  exact ⟨rfl, rfl⟩

theorem Flt.neg_small {a : Nat} (h : a < 9223372036854775808) : Flt.neg a = false := by unfold Flt.neg; simp; omega
theorem Flt.mul_one {z : Nat} (h1 : 0 < z) (h2 : z < 9218868437227405312) : Ieee.double.mul 4607182418800017408 z = some z := by
  have hr : Flt.rung z = z := Flt.rung_small (by omega)
  have rz := Flt.read_fin (a := z) (by omega) (by rw [hr]; omega)
  have ro : Ieee.double.read 4607182418800017408 = .number false 4503599627370496 (-52) := by decide +kernel
  rw [hr, Flt.neg_small (by omega)] at rz
  have h := Flt.mul_exact ro rz z (Flt.xp z) 52 h2 h1 (by omega) (by
    unfold Flt.V
    rw [show (2 : Nat) ^ 52 = 4503599627370496 from by decide, Nat.mul_assoc 4503599627370496, Nat.mul_comm 4503599627370496])
  simp only [Bool.xor_self, Bool.false_eq_true, if_false] at h
  exact h

set_option maxHeartbeats 400000 in
theorem ldexp_mid (a r : Nat) (ex x : Int) (h1 : 0 < a) (h2 : a < 9218868437227405312) (hr1 : 4503599627370496 ≤ r) (hr2 : r < 9218868437227405312) (hx1 : -52 ≤ ex) (hx2 : ex ≤ 0) (hx3 : -40000 ≤ x) (hx4 : x ≤ 40000)
    (HN : ∀ w, Calls Tryz.prog 161 #[.float .f64 a] w fun e w' => e = .returned (.tuple #[.float .f64 r, .int .i64 ex]) ∧ w = w') (ht1 : 1 ≤ x + ex + ((r / 4503599627370496 : Nat) : Int)) (ht2 : x + ex + ((r / 4503599627370496 : Nat) : Int) ≤ 2046) (w : World) :
    Calls Tryz.prog 145 #[.float .f64 a, .int .i64 x] w fun e w' => e = .returned (.float .f64 ((x + ex + ((r / 4503599627370496 : Nat) : Int)).toNat * 4503599627370496 + r % 4503599627370496)) ∧ w = w' := by
  have h0 := eq0_false h1 h2
  have hi : decide (Flt.rung a = 9218868437227405312) = false := by rw [Flt.rung_small (by omega)]; simp; omega
  have hn : Flt.isNan a = false := Flt.num_small (by omega)
  have HI := isinf0_any a (by omega)
  rw [hi] at HI
  have HM := isnan_any a (by omega)
  rw [hn] at HM
  have hb := run_bits
  have hfb := run_frombits
  obtain ⟨q, hq⟩ : ∃ q : Nat, q = r / 4503599627370496 := ⟨_, rfl⟩
  obtain ⟨f, hf⟩ : ∃ f : Nat, f = r % 4503599627370496 := ⟨_, rfl⟩
  have q1 : 1 ≤ q := by omega
  have q2 : q ≤ 2046 := by omega
  have f2 : f < 4503599627370496 := by omega
  have e1 : (r : Int) / 4503599627370496 = (q : Int) := by omega
  have e2 : bits .and .i64 (q : Int) 2047 = (q : Int) := Flt.bi_and_2047 q (by omega)
  have e3 : bits .andNot .u64 (r : Int) 9218868437227405312 = (f : Int) := by rw [Flt.b_andNot_exp r (by omega), hf]
  rw [← hq, ← hf]
  rw [← hq] at ht1 ht2
  obtain ⟨t, ht⟩ : ∃ t : Nat, (t : Int) = x + ex + (q : Int) := ⟨(x + ex + (q : Int)).toNat, by omega⟩
  have t1 : -1022 ≤ x + ex + ((q : Int) - 1023) := by omega
  have t2 : x + ex + ((q : Int) - 1023) ≤ 1023 := by omega
  obtain ⟨z, hz⟩ : ∃ z : Nat, z = (x + ex + (q : Int)).toNat * 4503599627370496 + f := ⟨_, rfl⟩
  have e4 : bits .or .u64 (f : Int) ((x + ex + ((q : Int) - 1023) + 1023) * 4503599627370496) = (z : Int) := by
    have := Flt.b_or_exp t f (by omega) (by omega)
    rw [show (x + ex + ((q : Int) - 1023) + 1023) * 4503599627370496 = ((t * 4503599627370496 : Nat) : Int) from by omega, this, hz]
    omega
  have hm : floatBits .mul .f64 4607182418800017408 z = some z := Flt.mul_one (by omega) (by omega)
  have hrun := fun W => run_float_arith (P := Tryz.prog) W .mul 26 .f64 4607182418800017408 z _ hm
  rw [← hz]
  clear hq hf hi hn h1 h2 hr1 hr2 ht hz hm ht1 ht2
  go_enter Tryz.func145, Tryz.ntmps145
  go_wp2_with (first | (go_at_call 97; refine (HI _).mono ?_; rintro e w' ⟨rfl, rfl⟩) | (go_at_call 74; refine (HM _).mono ?_; rintro e w' ⟨rfl, rfl⟩) | (go_at_call 161; refine (HN _).mono ?_; rintro e w' ⟨rfl, rfl⟩))
  go_ret
  exact ⟨rfl, rfl⟩

/-- 2 to the power of -53, times: there is one answer -/
theorem Flt.mul_tiny {z : Nat} (h2 : z < 9218868437227405312) : ∃ v, Ieee.double.mul 4368491638549381120 z = some v ∧ v < 18446744073709551616 := by
  have hr : Flt.rung z = z := Flt.rung_small (by omega)
  have rz := Flt.read_fin (a := z) (by omega) (by rw [hr]; omega)
  have ro : Ieee.double.read 4368491638549381120 = .number false 4503599627370496 (-105) := by decide +kernel
  have hm : Ieee.double.mul 4368491638549381120 z = some (Ieee.double.write (.number (false ^^ Flt.neg z) (4503599627370496 * Flt.mant (Flt.rung z)) (-105 + (-1074 + (Flt.xp (Flt.rung z) : Nat))))) := by
    unfold Ieee.Format.mul
    rw [ro, rz]
    rfl
  exact ⟨_, hm, Ieee.double.mul_lt hm⟩
def Flt.tiny (z : Nat) : Nat := (Ieee.double.mul 4368491638549381120 z).getD 0

set_option maxHeartbeats 400000 in
theorem ldexp_tiny (a r : Nat) (ex x : Int) (h1 : 0 < a) (h2 : a < 9218868437227405312) (hr1 : 4503599627370496 ≤ r) (hr2 : r < 9218868437227405312) (hx1 : -52 ≤ ex) (hx2 : ex ≤ 0) (hx3 : -40000 ≤ x) (hx4 : x ≤ 40000)
    (HN : ∀ w, Calls Tryz.prog 161 #[.float .f64 a] w fun e w' => e = .returned (.tuple #[.float .f64 r, .int .i64 ex]) ∧ w = w') (ht1 : -52 ≤ x + ex + ((r / 4503599627370496 : Nat) : Int)) (ht2 : x + ex + ((r / 4503599627370496 : Nat) : Int) ≤ 0) (w : World) :
    Calls Tryz.prog 145 #[.float .f64 a, .int .i64 x] w fun e w' => e = .returned (.float .f64 (Flt.tiny ((x + ex + ((r / 4503599627370496 : Nat) : Int) + 53).toNat * 4503599627370496 + r % 4503599627370496))) ∧ w = w' := by
  have h0 := eq0_false h1 h2
  have hi : decide (Flt.rung a = 9218868437227405312) = false := by rw [Flt.rung_small (by omega)]; simp; omega
  have hn : Flt.isNan a = false := Flt.num_small (by omega)
  have HI := isinf0_any a (by omega)
  rw [hi] at HI
  have HM := isnan_any a (by omega)
  rw [hn] at HM
  have hb := run_bits
  have hfb := run_frombits
  obtain ⟨q, hq⟩ : ∃ q : Nat, q = r / 4503599627370496 := ⟨_, rfl⟩
  obtain ⟨f, hf⟩ : ∃ f : Nat, f = r % 4503599627370496 := ⟨_, rfl⟩
  have q1 : 1 ≤ q := by omega
  have q2 : q ≤ 2046 := by omega
  have f2 : f < 4503599627370496 := by omega
  have e1 : (r : Int) / 4503599627370496 = (q : Int) := by omega
  have e2 : bits .and .i64 (q : Int) 2047 = (q : Int) := Flt.bi_and_2047 q (by omega)
  have e3 : bits .andNot .u64 (r : Int) 9218868437227405312 = (f : Int) := by rw [Flt.b_andNot_exp r (by omega), hf]
  rw [← hq, ← hf]
  rw [← hq] at ht1 ht2
  obtain ⟨t, ht⟩ : ∃ t : Nat, (t : Int) = x + ex + (q : Int) + 53 := ⟨(x + ex + (q : Int) + 53).toNat, by omega⟩
  have t1 : -1075 ≤ x + ex + ((q : Int) - 1023) := by omega
  have t2 : x + ex + ((q : Int) - 1023) < -1022 := by omega
  obtain ⟨z, hz⟩ : ∃ z : Nat, z = (x + ex + (q : Int) + 53).toNat * 4503599627370496 + f := ⟨_, rfl⟩
  have e4 : bits .or .u64 (f : Int) ((x + ex + ((q : Int) - 1023) + 53 + 1023) * 4503599627370496) = (z : Int) := by
    have := Flt.b_or_exp t f (by omega) (by omega)
    rw [show (x + ex + ((q : Int) - 1023) + 53 + 1023) * 4503599627370496 = ((t * 4503599627370496 : Nat) : Int) from by omega, this, hz]
    omega
  obtain ⟨v, hv, _⟩ := Flt.mul_tiny (z := z) (by omega)
  have hm : floatBits .mul .f64 4368491638549381120 z = some v := hv
  have hrun := fun W => run_float_arith (P := Tryz.prog) W .mul 26 .f64 4368491638549381120 z _ hm
  have hv' : Flt.tiny z = v := by unfold Flt.tiny; rw [hv]; rfl
  rw [← hz, hv']
  clear hq hf hi hn h1 h2 hr1 hr2 ht hz hm ht1 ht2 hv hv'
  go_enter Tryz.func145, Tryz.ntmps145
  go_wp2_with (first | (go_at_call 97; refine (HI _).mono ?_; rintro e w' ⟨rfl, rfl⟩) | (go_at_call 74; refine (HM _).mono ?_; rintro e w' ⟨rfl, rfl⟩) | (go_at_call 161; refine (HN _).mono ?_; rintro e w' ⟨rfl, rfl⟩))
  go_ret
  exact ⟨rfl, rfl⟩
end Go.Proofs.YtnjlcdemfdokoaaGreatDoor
