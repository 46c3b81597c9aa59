import Derived.Test.YtnjlcdemfdokoaaGreatDoorWg
namespace Go.Proofs.YtnjlcdemfdokoaaGreatDoor
open Go Go.RowKit
namespace Flt
/-- the odd significand of a positive finite float, and its exponent -/
def oddM (a : Nat) : Nat := if a = 0 then 0 else nm a / 2 ^ Lib.ctz 64 (nm a)
def oddE (a : Nat) : Int := if a = 0 then 0 else fe a - 53 + (Lib.ctz 64 (nm a) : Nat)
/-- the text of a float -/
def text (a : Nat) : List UInt8 :=
  if isNan a = true then [110, 97, 110] else if a = 9218868437227405312 then [105, 110, 102] else if a = 18442240474082181120 then [45, 105, 110, 102]
  else (if neg a = true then [45] else []) ++ (Lib.decDigits (oddM (rung a)) ++ (112 :: Lib.itoa (oddE (rung a))))
theorem ctz_lt {m : Nat} (h0 : 0 < m) (h : m < 9007199254740992) : Lib.ctz 64 m < 64 := by
  unfold Lib.ctz
  rw [if_neg (by omega)]
  obtain ⟨_, _, hk⟩ := Lib.ctzFrom_spec 64 m h0 (Nat.lt_of_lt_of_le h (by decide))
  exact hk
theorem oddM_lt (a : Nat) : oddM a < 9007199254740992 := by
  unfold oddM
  split
  · decide
  · have := (nm_bounds (a := a) (by omega)).2
    exact Nat.lt_of_le_of_lt (Nat.div_le_self _ _) this
theorem oddE_bounds {a : Nat} (h : a < 9218868437227405312) : -1200 ≤ oddE a ∧ oddE a ≤ 1200 := by
  unfold oddE
  split
  · omega
  · have h1 : 0 < a := by omega
    have ⟨b1, b2⟩ := nm_bounds h1
    have := ctz_lt (m := nm a) (by omega) b2
    have := log2_le52 (mant_pos h1) (mant_lt a)
    unfold fe
    have : xp a ≤ 2046 := by unfold xp; omega
    omega
theorem dec_len {m : Nat} (h : m < 18446744073709551616) : (Lib.decDigits m).length ≤ 20 := by
  by_cases h0 : m = 0
  · subst h0; rw [Lib.decDigits_one (by omega)]; simp
  · rw [Lib.decDigits_length]
    have := Lib.numDigits_eq m (by omega) h; split at this <;> omega
theorem itoa_len {x : Int} (h1 : -9223372036854775808 ≤ x) (h2 : x ≤ 9223372036854775807) : (Lib.itoa x).length ≤ 21 := by
  unfold Lib.itoa
  split
  · have := dec_len (m := x.natAbs) (by omega)
    simp; omega
  · have := dec_len (m := x.toNat) (by omega)
    omega
end Flt
theorem parts_all (a : Nat) (h2 : a < 9218868437227405312) (w : World) (hT : TabAt 2 Lib.deBruijn64tab w) :
    Calls Tryz.prog 99 #[.float .f64 a] w fun e w' => e = .returned (.tuple #[.int .u64 (Flt.oddM a : Nat), .int .i64 (Flt.oddE a)]) ∧ w = w' := by
  by_cases h0 : a = 0
  · subst h0; exact parts0 w
  · unfold Flt.oddM Flt.oddE
    rw [if_neg h0, if_neg h0]
    exact parts_fin a (by omega) h2 w hT
theorem ret_str {a b : ByteArray} (h : a = b) : Ending.returned (.string a) = .returned (.string b) := by rw [h]
theorem text_nan (a : Nat) (ha : a < 18446744073709551616) (hn : Flt.isNan a = true) (w : World) :
    Calls Tryz.prog 62 #[.float .f64 a] w fun e w' => e = .returned (.string ⟨#[110, 97, 110]⟩) ∧ w = w' := by
  go_enter Tryz.func62, Tryz.ntmps62
  go_wp2_with (go_at_call 74; refine (isnan_any _ ha _).mono ?_; rintro e w' ⟨rfl, rfl⟩)
  go_ret
  exact ⟨rfl, rfl⟩
theorem text_inf (w : World) :
    Calls Tryz.prog 62 #[.float .f64 9218868437227405312] w fun e w' => e = .returned (.string ⟨#[105, 110, 102]⟩) ∧ w = w' := by
  have HM := isnan_any 9218868437227405312 (by decide)
  rw [show Flt.isNan 9218868437227405312 = false from by decide] at HM
  have i1 := isinf1_any 9218868437227405312 (by decide)
  rw [show decide (9218868437227405312 = 9218868437227405312) = true from by simp] at i1
  go_enter Tryz.func62, Tryz.ntmps62
  go_wp2_with fail
  refine (HM _).mono ?_; rintro e w' ⟨rfl, rfl⟩
  go_wp2_with fail
  refine (i1 _).mono ?_; rintro e w' ⟨rfl, rfl⟩
  go_wp2_with fail
  go_ret
  exact ⟨rfl, rfl⟩
theorem text_ninf (w : World) :
    Calls Tryz.prog 62 #[.float .f64 18442240474082181120] w fun e w' => e = .returned (.string ⟨#[45, 105, 110, 102]⟩) ∧ w = w' := by
  have HM := isnan_any 18442240474082181120 (by decide)
  rw [show Flt.isNan 18442240474082181120 = false from by decide] at HM
  have i1 := isinf1_any 18442240474082181120 (by decide)
  rw [show decide (18442240474082181120 = 9218868437227405312) = false from by decide] at i1
  have i2 := isinfm_any 18442240474082181120 (by decide)
  rw [show decide (18442240474082181120 = 18442240474082181120) = true from by simp] at i2
  go_enter Tryz.func62, Tryz.ntmps62
  go_wp2_with fail
  refine (HM _).mono ?_; rintro e w' ⟨rfl, rfl⟩
  go_wp2_with fail
  refine (i1 _).mono ?_; rintro e w' ⟨rfl, rfl⟩
  go_wp2_with fail
  refine (i2 _).mono ?_; rintro e w' ⟨rfl, rfl⟩
  go_wp2_with fail
  go_ret
  exact ⟨rfl, rfl⟩
theorem text_core (a r m : Nat) (x : Int) (D I : List UInt8) (s : Bool) (HM : ∀ w, Calls Tryz.prog 74 #[.float .f64 a] w fun e w' => e = .returned (.bool false) ∧ w = w')
    (i1 : ∀ w, Calls Tryz.prog 97 #[.float .f64 a, .int .i64 1] w fun e w' => e = .returned (.bool false) ∧ w = w') (i2 : ∀ w, Calls Tryz.prog 97 #[.float .f64 a, .int .i64 (-1)] w fun e w' => e = .returned (.bool false) ∧ w = w')
    (HS : ∀ w, Calls Tryz.prog 98 #[.float .f64 a] w fun e w' => e = .returned (.bool s) ∧ w = w') (HA : ∀ w, Calls Tryz.prog 100 #[.float .f64 a] w fun e w' => e = .returned (.float .f64 r) ∧ w = w')
    (HP : ∀ w, Tabs w → Calls Tryz.prog 99 #[.float .f64 r] w fun e w' => e = .returned (.tuple #[.int .u64 m, .int .i64 x]) ∧ w = w')
    (HF : ∀ w, Tabs w → Calls Tryz.prog 101 #[.int .u64 m, .int .i64 10] w fun e w' => e = .returned (.string ⟨D.toArray⟩) ∧ Below w.heap.size w w')
    (HI : ∀ w, Tabs w → Calls Tryz.prog 102 #[.int .i64 x] w fun e w' => e = .returned (.string ⟨I.toArray⟩) ∧ Below w.heap.size w w')
    (hD : D.length ≤ 20) (hI : I.length ≤ 21) (w : World) (hT : Tabs w) :
    Calls Tryz.prog 62 #[.float .f64 a] w fun e w' => e = .returned (.string ⟨((if s = true then [45] else []) ++ (D ++ (112 :: I))).toArray⟩) ∧ Below w.heap.size w w' := by
  have hsum : ∀ A B C E : List UInt8, (ByteArray.mk A.toArray ++ ByteArray.mk B.toArray ++ ByteArray.mk C.toArray ++ ByteArray.mk E.toArray) = ByteArray.mk (A ++ (B ++ (C ++ E))).toArray := by
    intro A B C E
    rw [ByteArray.mk_append_mk, ByteArray.mk_append_mk, ByteArray.mk_append_mk]; simp
  have hsum0 := hsum [] D [112] I
  have hsum1 := hsum [45] D [112] I
  have H0 := Lib.hid hsum0
  have H1 := Lib.hid hsum1
  clear hsum hsum0 hsum1
  have HP' := HP w hT
  have HF' := HF w hT
  clear HP HF
  cases s
  · go_enter Tryz.func62, Tryz.ntmps62
    go_wp2_with fail
    refine (HM _).mono ?_; rintro e w' ⟨rfl, rfl⟩
    go_wp2_with fail
    refine (i1 _).mono ?_; rintro e w' ⟨rfl, rfl⟩
    go_wp2_with fail
    refine (i2 _).mono ?_; rintro e w' ⟨rfl, rfl⟩
    go_wp2_with fail
    refine (HS _).mono ?_; rintro e w' ⟨rfl, rfl⟩
    go_wp2_with fail
    refine (HA _).mono ?_; rintro e w' ⟨rfl, rfl⟩
    go_wp2_with fail
    refine HP'.mono ?_; rintro e w' ⟨rfl, rfl⟩
    go_wp2_with fail
    refine HF'.mono ?_; rintro e w1 ⟨rfl, hb1⟩
    go_wp2_with fail
    refine (HI w1 (hT.below hb1)).mono ?_; rintro e w2 ⟨rfl, hb2⟩
    go_wp2_with fail
    go_ret
    exact ⟨ret_str H0.out, Below.chain hb1 hb2⟩
  · go_enter Tryz.func62, Tryz.ntmps62
    go_wp2_with fail
    refine (HM _).mono ?_; rintro e w' ⟨rfl, rfl⟩
    go_wp2_with fail
    refine (i1 _).mono ?_; rintro e w' ⟨rfl, rfl⟩
    go_wp2_with fail
    refine (i2 _).mono ?_; rintro e w' ⟨rfl, rfl⟩
    go_wp2_with fail
    refine (HS _).mono ?_; rintro e w' ⟨rfl, rfl⟩
    go_wp2_with fail
    refine (HA _).mono ?_; rintro e w' ⟨rfl, rfl⟩
    go_wp2_with fail
    refine HP'.mono ?_; rintro e w' ⟨rfl, rfl⟩
    go_wp2_with fail
    refine HF'.mono ?_; rintro e w1 ⟨rfl, hb1⟩
    go_wp2_with fail
    refine (HI w1 (hT.below hb1)).mono ?_; rintro e w2 ⟨rfl, hb2⟩
    go_wp2_with fail
    go_ret
    exact ⟨ret_str H1.out, Below.chain hb1 hb2⟩
theorem text_any (a : Nat) (ha : a < 18446744073709551616) (w : World) (hT : Tabs w) :
    Calls Tryz.prog 62 #[.float .f64 a] w fun e w' => e = .returned (.string ⟨(Flt.text a).toArray⟩) ∧ Below w.heap.size w w' := by
  cases hn : Flt.isNan a
  · by_cases h1 : a = 9218868437227405312
    · subst h1
      exact (text_inf w).mono fun e w' ⟨he, hw⟩ => ⟨he.trans (ret_str (by decide)), hw ▸ Below.refl _ _⟩
    · by_cases h2 : a = 18442240474082181120
      · subst h2
        exact (text_ninf w).mono fun e w' ⟨he, hw⟩ => ⟨he.trans (ret_str (by decide)), hw ▸ Below.refl _ _⟩
      · have HM := isnan_any a ha
        rw [hn] at HM
        have i1 := isinf1_any a ha
        rw [show decide (a = 9218868437227405312) = false from by simpa using h1] at i1
        have i2 := isinfm_any a ha
        rw [show decide (a = 18442240474082181120) = false from by simpa using h2] at i2
        have hr : Flt.rung a < 9218868437227405312 := by
          unfold Flt.isNan at hn
          simp only [decide_eq_false_iff_not, Nat.not_lt] at hn
          unfold Flt.rung at hn ⊢
          omega
        have hx := Flt.oddE_bounds hr
        have hm := Flt.oddM_lt (Flt.rung a)
        have h := text_core a (Flt.rung a) (Flt.oddM (Flt.rung a)) (Flt.oddE (Flt.rung a)) (Lib.decDigits (Flt.oddM (Flt.rung a))) (Lib.itoa (Flt.oddE (Flt.rung a))) (Flt.neg a) HM i1 i2 (signbit_any a ha) (abs_any a ha)
          (fun w hT => parts_all _ hr w hT.tz) (fun w hT => format_any _ (by omega) w hT) (fun w hT => itoa_any _ (by omega) (by omega) w hT) (Flt.dec_len (by omega)) (Flt.itoa_len (by omega) (by omega)) w hT
        unfold Flt.text
        rw [hn, if_neg (by decide), if_neg h1, if_neg h2]
        exact h
  · have e : Flt.text a = [110, 97, 110] := by unfold Flt.text; rw [if_pos hn]
    rw [e]
    exact (text_nan a ha hn w).mono fun e w' ⟨he, hw⟩ => ⟨he, hw ▸ Below.refl _ _⟩
end Go.Proofs.YtnjlcdemfdokoaaGreatDoor
