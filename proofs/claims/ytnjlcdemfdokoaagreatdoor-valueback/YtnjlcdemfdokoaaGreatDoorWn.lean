import Derived.Test.YtnjlcdemfdokoaaGreatDoorWe
import Derived.Test.YtnjlcdemfdokoaaGreatDoorFlu
namespace Go.Proofs.YtnjlcdemfdokoaaGreatDoor
open Go
theorem trunc_entry (a : Nat) (s : Bool) (m : Nat) (i : Int) (hd : FloatKind.f64.decode a = .number s m i) : Extern.MathFloor.toIntegral "math.archTrunc" .zero #[.float .f64 a] = pure (.float .f64 (FloatKind.f64.encode ((FloatKind.f64.decode a).integral .zero))) := by
  delta Extern.MathFloor.toIntegral
  delta Extern.MathFloor.toIntegral.match_2
  dsimp only
  refine (dif_pos (show #[Value.float FloatKind.f64 a].size = 1 from rfl)).trans ?_
  delta Extern.MathFloor.toIntegral._sparseCasesOn_2 Extern.MathFloor.toIntegral._sparseCasesOn_3
  dsimp only [Array.getLit]
  simp only [List.getElem_toArray, List.getElem_cons_zero]
  rw [hd]
theorem run_trunc {a : Nat} (ha : a < 18446744073709551616) (h : Flt.rung a < 9218868437227405312) (w : World) : (callFunc 157 #[.float .f64 a]).run Tryz.prog w = .ok (.value (.float .f64 (Flt.trunc a))) w := by
  rw [run_callFunc_extern (e := Extern.MathFloor.toIntegral "math.archTrunc" .zero) Tryz.func157 (by kernel_rfl) (by kernel_rfl) (by kernel_rfl) (by kernel_rfl)]
  rw [trunc_entry a _ _ _ (Flt.read_fin ha h), Flt.trunc_eq ha h]
  rfl
theorem Trunc_any (a : Nat) (ha : a < 18446744073709551616) (h : Flt.rung a < 9218868437227405312) (w : World) :
    Calls Tryz.prog 135 #[.float .f64 a] w fun e w' => e = .returned (.float .f64 (Flt.trunc a)) ∧ w = w' := by
  have hr := fun w => run_trunc ha h w
  go_enter Tryz.func135, Tryz.ntmps135
  go_wp2
  go_ret
  exact ⟨rfl, rfl⟩
theorem cmpf_any (a b : Nat) (ha : a < 18446744073709551616) (hb : b < 18446744073709551616) (na : Flt.isNan a = false) (nb : Flt.isNan b = false) (w : World) :
    Calls Tryz.prog 136 #[.float .f64 a, .float .f64 b] w fun e w' => e = .returned (.int .i64 (Flt.cmp3 (Flt.key a) (Flt.key b))) ∧ w = w' := by
  have h1 := Flt.ord_self ha
  have h2 := Flt.ord_self hb
  rw [na] at h1
  rw [nb] at h2
  have h3 := Flt.ord_lt ha hb
  have h4 := Flt.ord_gt ha hb
  rw [na, nb] at h3 h4
  simp only [Bool.not_false, Bool.true_and] at h3 h4
  by_cases t1 : Flt.key a < Flt.key b
  · rw [show Flt.cmp3 (Flt.key a) (Flt.key b) = -1 from by unfold Flt.cmp3; rw [if_pos t1]]
    rw [show decide (Flt.key a < Flt.key b) = true from by simpa using t1] at h3
    clear h4 t1
    go_enter Tryz.func136, Tryz.ntmps136
    go_wp2
    go_ret
    exact ⟨rfl, rfl⟩
  · rw [show decide (Flt.key a < Flt.key b) = false from by simpa using t1] at h3
    by_cases t2 : Flt.key b < Flt.key a
    · rw [show Flt.cmp3 (Flt.key a) (Flt.key b) = 1 from by unfold Flt.cmp3; rw [if_neg t1, if_pos t2]]
      rw [show decide (Flt.key b < Flt.key a) = true from by simpa using t2] at h4
      clear t1 t2
      go_enter Tryz.func136, Tryz.ntmps136
      go_wp2
      go_ret
      exact ⟨rfl, rfl⟩
    · rw [show Flt.cmp3 (Flt.key a) (Flt.key b) = 0 from by unfold Flt.cmp3; rw [if_neg t1, if_neg t2]]
      rw [show decide (Flt.key b < Flt.key a) = false from by simpa using t2] at h4
      clear t1 t2
      go_enter Tryz.func136, Tryz.ntmps136
      go_wp2
      go_ret
      exact ⟨rfl, rfl⟩
theorem against_nan (n : Int) (a : Nat) (ha : a < 18446744073709551616) (hn : Flt.isNan a = true) (w : World) :
    Calls Tryz.prog 116 #[.int .i64 n, .float .f64 a] w fun e w' => e = .returned (.tuple #[.int .i64 0, .bool false]) ∧ w = w' := by
  go_enter Tryz.func116, Tryz.ntmps116
  go_wp2_with (go_at_call 74; refine (isnan_any _ ha _).mono ?_; rintro e w' ⟨rfl, rfl⟩)
  go_ret2
  exact ⟨rfl, rfl⟩
theorem against_high (n : Int) (a : Nat) (ha : a < 18446744073709551616) (hn : Flt.isNan a = false) (hk : 4890909195324358656 ≤ Flt.key a) (w : World) :
    Calls Tryz.prog 116 #[.int .i64 n, .float .f64 a] w fun e w' => e = .returned (.tuple #[.int .i64 (-1), .bool true]) ∧ w = w' := by
  have h1 := Flt.ord_gt ha (show 4890909195324358656 < 18446744073709551616 by decide)
  have h2 := Flt.ord_eq ha (show 4890909195324358656 < 18446744073709551616 by decide)
  rw [hn, Flt.key_small (a := 4890909195324358656) (by decide), show Flt.isNan 4890909195324358656 = false from by decide] at h1 h2
  simp only [Bool.not_false, Bool.true_and] at h1 h2
  have HM := isnan_any a ha
  rw [hn] at HM
  by_cases t : Flt.key a = 4890909195324358656
  · rw [show decide (Flt.key a = ((4890909195324358656 : Nat) : Int)) = true from by simpa using t] at h2
    rw [show decide (((4890909195324358656 : Nat) : Int) < Flt.key a) = false from by simp; omega] at h1
    clear t hk hn
    go_enter Tryz.func116, Tryz.ntmps116
    go_wp2_with (go_at_call 74; refine (HM _).mono ?_; rintro e w' ⟨rfl, rfl⟩)
    go_ret2
    exact ⟨rfl, rfl⟩
  · rw [show decide (((4890909195324358656 : Nat) : Int) < Flt.key a) = true from by simp; omega] at h1
    clear t hk hn h2
    go_enter Tryz.func116, Tryz.ntmps116
    go_wp2_with (go_at_call 74; refine (HM _).mono ?_; rintro e w' ⟨rfl, rfl⟩)
    go_ret2
    exact ⟨rfl, rfl⟩
theorem key_m63 : Flt.key 14114281232179134464 = -4890909195324358656 := by decide
theorem against_low (n : Int) (a : Nat) (ha : a < 18446744073709551616) (hn : Flt.isNan a = false) (hk : Flt.key a < -4890909195324358656) (w : World) :
    Calls Tryz.prog 116 #[.int .i64 n, .float .f64 a] w fun e w' => e = .returned (.tuple #[.int .i64 1, .bool true]) ∧ w = w' := by
  have h1 := Flt.ord_gt ha (show 4890909195324358656 < 18446744073709551616 by decide)
  have h2 := Flt.ord_eq ha (show 4890909195324358656 < 18446744073709551616 by decide)
  have h3 := Flt.ord_lt ha (show 14114281232179134464 < 18446744073709551616 by decide)
  rw [hn, Flt.key_small (a := 4890909195324358656) (by decide), show Flt.isNan 4890909195324358656 = false from by decide] at h1 h2
  rw [hn, key_m63, show Flt.isNan 14114281232179134464 = false from by decide] at h3
  simp only [Bool.not_false, Bool.true_and] at h1 h2 h3
  have HM := isnan_any a ha
  rw [hn] at HM
  rw [show decide (Flt.key a = ((4890909195324358656 : Nat) : Int)) = false from by simp; omega] at h2
  rw [show decide (((4890909195324358656 : Nat) : Int) < Flt.key a) = false from by simp; omega] at h1
  rw [show decide (Flt.key a < -4890909195324358656) = true from by simpa using hk] at h3
  clear hk hn
  go_enter Tryz.func116, Tryz.ntmps116
  go_wp2_with (go_at_call 74; refine (HM _).mono ?_; rintro e w' ⟨rfl, rfl⟩)
  go_ret2
  exact ⟨rfl, rfl⟩
/-- what Against answers of a number that an int64 has room for -/
def agn (n : Int) (a : Nat) : Int := if Flt.cmp3 n (Flt.wholeInt a) = 0 then Flt.cmp3 (Flt.key (Flt.trunc a)) (Flt.key a) else Flt.cmp3 n (Flt.wholeInt a)
theorem whole_bounds {a : Nat} (h1 : -4890909195324358656 ≤ Flt.key a) (h2 : Flt.key a < 4890909195324358656) :
    Flt.rung a < 9218868437227405312 ∧ -9223372036854775808 ≤ Flt.wholeInt a ∧ Flt.wholeInt a ≤ 9223372036854775807 := by
  unfold Flt.key at h1 h2
  unfold Flt.wholeInt Flt.neg
  by_cases hs : 9223372036854775808 ≤ a
  · rw [if_pos hs] at h1 h2
    rw [decide_eq_true hs, if_pos rfl]
    refine ⟨by omega, ?_, by omega⟩
    by_cases e : Flt.rung a = 4890909195324358656
    · rw [e, Flt.whole_63]; omega
    · have := Flt.whole_lt (r := Flt.rung a) (by omega)
      omega
  · rw [if_neg hs] at h1 h2
    rw [decide_eq_false hs, if_neg (by decide)]
    have := Flt.whole_lt (r := Flt.rung a) (by omega)
    exact ⟨by omega, by omega, by omega⟩
theorem against_mid (n : Int) (a : Nat) (ha : a < 18446744073709551616) (hn : Flt.isNan a = false) (k1 : -4890909195324358656 ≤ Flt.key a) (k2 : Flt.key a < 4890909195324358656) (w : World) :
    Calls Tryz.prog 116 #[.int .i64 n, .float .f64 a] w fun e w' => e = .returned (.tuple #[.int .i64 (agn n a), .bool true]) ∧ w = w' := by
  obtain ⟨hr, w1, w2⟩ := whole_bounds k1 k2
  have h1 := Flt.ord_gt ha (show 4890909195324358656 < 18446744073709551616 by decide)
  have h2 := Flt.ord_eq ha (show 4890909195324358656 < 18446744073709551616 by decide)
  have h3 := Flt.ord_lt ha (show 14114281232179134464 < 18446744073709551616 by decide)
  rw [hn, Flt.key_small (a := 4890909195324358656) (by decide), show Flt.isNan 4890909195324358656 = false from by decide] at h1 h2
  rw [hn, key_m63, show Flt.isNan 14114281232179134464 = false from by decide] at h3
  simp only [Bool.not_false, Bool.true_and] at h1 h2 h3
  have HM := isnan_any a ha
  rw [hn] at HM
  rw [show decide (Flt.key a = ((4890909195324358656 : Nat) : Int)) = false from by simp; omega] at h2
  rw [show decide (((4890909195324358656 : Nat) : Int) < Flt.key a) = false from by simp; omega] at h1
  rw [show decide (Flt.key a < -4890909195324358656) = false from by simp; omega] at h3
  have HT := Trunc_any a ha hr
  have tl := Flt.trunc_lt hr
  have wt : Flt.wholeInt (Flt.trunc a) = Flt.wholeInt a := by unfold Flt.wholeInt; rw [Flt.neg_trunc hr, Flt.rung_trunc hr, Flt.whole_wrung]
  have hv := Flt.toInt_i64 tl (by rw [Flt.rung_trunc hr]; exact Flt.wrung_lt hr) (by rw [wt]; exact w1) (by rw [wt]; exact w2)
  rw [wt] at hv
  have hrun := fun W => run_convert_float_int (P := Tryz.prog) W 26 2 .f64 .i64 _ _ (by rw [Tryz.underlying26]; rfl) Tryz.underlying2 hv
  have nt : Flt.isNan (Flt.trunc a) = false := by unfold Flt.isNan; rw [Flt.rung_trunc hr]; have := Flt.wrung_lt hr; simp; omega
  have HC := cmpf_any (Flt.trunc a) a tl ha nt hn
  have HI := cmpi_any n (Flt.wholeInt a)
  unfold agn
  generalize Flt.cmp3 (Flt.key (Flt.trunc a)) (Flt.key a) = c2 at *
  generalize Flt.cmp3 n (Flt.wholeInt a) = c1 at *
  generalize Flt.wholeInt a = wi at *
  generalize Flt.trunc a = ta at *
  clear hr k1 k2 wt hv nt hn w1 w2
  by_cases hc : c1 = 0
  · rw [if_pos hc]
    subst hc
    go_enter Tryz.func116, Tryz.ntmps116
    go_wp2_with (first | (go_at_call 74; refine (HM _).mono ?_; rintro e w' ⟨rfl, rfl⟩) | (go_at_call 135; refine (HT _).mono ?_; rintro e w' ⟨rfl, rfl⟩) | (go_at_call 45; refine (HI _).mono ?_; rintro e w' ⟨rfl, rfl⟩) | (go_at_call 136; refine (HC _).mono ?_; rintro e w' ⟨rfl, rfl⟩))
    go_ret2
    exact ⟨rfl, rfl⟩
  · rw [if_neg hc]
    have hb : (c1 == 0) = false := by simpa using hc
    have hb' : (c1 != 0) = true := by simpa using hc
    clear hc
    go_enter Tryz.func116, Tryz.ntmps116
    go_wp2_with (first | (go_at_call 74; refine (HM _).mono ?_; rintro e w' ⟨rfl, rfl⟩) | (go_at_call 135; refine (HT _).mono ?_; rintro e w' ⟨rfl, rfl⟩) | (go_at_call 45; refine (HI _).mono ?_; rintro e w' ⟨rfl, rfl⟩) | (go_at_call 136; refine (HC _).mono ?_; rintro e w' ⟨rfl, rfl⟩))
    go_ret2
    exact ⟨rfl, rfl⟩
end Go.Proofs.YtnjlcdemfdokoaaGreatDoor
