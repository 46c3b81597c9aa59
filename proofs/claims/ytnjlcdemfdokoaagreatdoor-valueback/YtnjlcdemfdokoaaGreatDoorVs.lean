import Derived.Test.YtnjlcdemfdokoaaGreatDoorVp
import Derived.Test.YtnjlcdemfdokoaaGreatDoorVl
import Derived.Test.YtnjlcdemfdokoaaGreatDoorWo
namespace Go.Proofs.YtnjlcdemfdokoaaGreatDoor
open Go Go.RowKit
set_option linter.unusedVariables false
theorem tl0 : (ByteArray.mk #[]).toList = [] := nil_list
theorem tl1 (a : UInt8) : (ByteArray.mk #[a]).toList = [a] := by rw [Lib.toList_data]
theorem tl2 (a b : UInt8) : (ByteArray.mk #[a, b]).toList = [a, b] := by rw [Lib.toList_data]
theorem right_w (n : Int) : rightB 2 n 0 ⟨#[]⟩ = true := by simp [rightB]
theorem shown_t1 : testR ⟨#[61]⟩ 2 9007199254740993 0 ⟨#[]⟩ 3 0 4845873199050653696 ⟨#[]⟩ = (1, 0, 0) := by
  have e1 : Flt.canon 4845873199050653696 = 4845873199050653696 := Flt.canon_num (by decide)
  have e2 : mOrd 9007199254740993 4845873199050653696 = 1 := by
    unfold mOrd
    rw [if_neg (by decide), ← agn_sv 9007199254740993 (by decide) (by decide)]
    exact agn_a
  have r2 : rightB 3 0 4845873199050653696 ⟨#[]⟩ = true := by simp [rightB, e1]
  unfold testR
  rw [if_neg (by rw [sign1.ix, right_w, r2]; simp), if_neg (by simp), if_neg (by simp [numB]), sign1.ix]
  have e3 : ordI 2 9007199254740993 0 ⟨#[]⟩ 3 0 4845873199050653696 ⟨#[]⟩ = 1 := by simp [ordI, e2]
  rw [e3]
  rfl
theorem shown_t2 : testR ⟨#[60, 62]⟩ 3 0 9221120237041090561 ⟨#[]⟩ 3 0 9221120237041090561 ⟨#[]⟩ = (1, 1, 0) := by
  have e1 : Flt.canon 9221120237041090561 = 9221120237041090561 := Flt.canon_nan (by decide)
  have r2 : rightB 3 0 9221120237041090561 ⟨#[]⟩ = true := by simp [rightB, e1]
  have e2 : fOrd 9221120237041090561 9221120237041090561 = 2 := by unfold fOrd; rw [if_pos (Or.inl (by decide))]
  unfold testR
  rw [if_neg (by rw [sign2.ix, r2]; simp), if_neg (by simp), if_neg (by simp [numB]), sign2.ix]
  have e3 : ordI 3 0 9221120237041090561 ⟨#[]⟩ 3 0 9221120237041090561 ⟨#[]⟩ = 2 := by simp [ordI, e2]
  rw [e3]
  rfl
theorem shown_r : reckR ⟨#[43]⟩ 2 9223372036854775807 0 ⟨#[]⟩ 2 1 0 ⟨#[]⟩ = (0, 0, 0, 7) := by
  unfold reckR
  rw [signO1.ix, right_w, right_w]
  decide
theorem shown_rd : findR [45, 49, 50, 32, 120] (runN 23 [45, 49, 50, 32, 120]) = some (3, 2, -12, 0) := by
  have e : runN 23 [45, 49, 50, 32, 120] = 3 := by decide
  have e2 : rpSem [45, 49, 50] = some (2, -12, 0) := by
    unfold rpSem
    have h1 : Lib.parseIntB 64 [45, 49, 50] = .ok (-12) := by decide
    have h2 : Lib.itoa (-12) = [45, 49, 50] := by
      unfold Lib.itoa
      rw [if_pos (by decide)]
      rw [show (-12 : Int).natAbs = 12 from rfl, Lib.decDigits, Lib.decDigits]
      decide
    rw [if_neg (by decide), if_neg (by decide), if_neg (by decide), h1]
    simp only [h2, if_true]
  rw [e]
  show (match rpSem [45, 49, 50] with | some v => some (3, v) | none => findR [45, 49, 50, 32, 120] 2) = _
  rw [e2]
set_option maxRecDepth 100000 in
theorem shown_any (w : World) (hT : Tabs w) : Calls Tryz.prog 14 #[] w fun e w' => e = .returned (.bool true) ∧ Below w.heap.size w w' := by
  have T1 := fun W => test_any ⟨#[61]⟩ 2 9007199254740993 3 0 0 4845873199050653696 ⟨#[]⟩ ⟨#[]⟩ (by decide) (by decide) (by decide) (by decide) (by decide) (by decide) W
  rw [shown_t1] at T1
  have T2 := fun W => test_any ⟨#[60, 62]⟩ 3 0 3 0 9221120237041090561 9221120237041090561 ⟨#[]⟩ ⟨#[]⟩ (by decide) (by decide) (by decide) (by decide) (by decide) (by decide) W
  rw [shown_t2] at T2
  have T3 := fun W => reck_any ⟨#[43]⟩ 2 9223372036854775807 2 1 0 0 ⟨#[]⟩ ⟨#[]⟩ (by decide) (by decide) (by decide) (by decide) (by decide) (by decide) W
  rw [shown_r] at T3
  have R3 := fun W => right_any 3 0 4609434218613702656 (by decide) ⟨#[]⟩ W
  rw [show rightB 3 0 4609434218613702656 ⟨#[]⟩ = true from by have e1 : Flt.canon 4609434218613702656 = 4609434218613702656 := Flt.canon_num (by decide); simp [rightB, e1]] at R3
  have T4 := fun W hT => tx3 0 4609434218613702656 ⟨#[]⟩ R3 (by decide) W hT
  rw [text_15] at T4
  have T5 := fun W hT => rd_plain ⟨#[45, 49, 50, 32, 120]⟩ (by decide) (by decide) W hT
  simp only [shown_rd, vrTuple] at T5
  have T6 := fun W => right_any 2 3 0 (by decide) ⟨#[]⟩ W
  rw [right_w] at T6
  have Wa := lwhole_any
  have Fa := lfloat_any
  have NA := nan_any
  simp only at T1 T2 T3
  clear R3
  have hsf := run_store_float
  go_enter Tryz.func14, Tryz.ntmps14
  go_wp2_with fail
  refine (Wa _ _).mono ?_; rintro e w1 ⟨rfl, hb1⟩
  have c1 := hb1
  go_wp2_with fail
  refine (Fa _ _).mono ?_; rintro e w2 ⟨rfl, hb2⟩
  have c2 := Below.chain c1 hb2
  go_wp2_with fail
  refine (T1 _).mono ?_; rintro e w3 ⟨rfl, hb3⟩
  have c3 := Below.chain c2 hb3
  have d3 := Below.chain c3 (below_a1 _ (.cells #[.int .i64 1, .int .i64 0, .float .f64 0, .string ⟨#[]⟩] 28))
  go_wp2_with fail
  refine (Wa _ _).mono ?_; rintro e w4 ⟨rfl, hb4⟩
  have a4 := hb4
  go_wp2_with fail
  refine (Wa _ _).mono ?_; rintro e w5 ⟨rfl, hb5⟩
  have a5 := Below.chain a4 hb5
  go_wp2_with fail
  refine (T3 _).mono ?_; rintro e w6 ⟨rfl, hb6⟩
  have a6 := Below.chain (Below.chain a5 hb6) (below_a1 _ (.cells #[.int .i64 0, .int .i64 0, .float .f64 0, .string ⟨#[]⟩] 28))
  go_wp2_with fail
  refine (Fa _ _).mono ?_; rintro e w7 ⟨rfl, hb7⟩
  have a7 := Below.chain a6 hb7
  go_wp2_with fail
  refine (T4 _ (hT.below (Below.chain d3 a7))).mono ?_; rintro e w8 ⟨rfl, hb8⟩
  have a8 := Below.chain a7 hb8
  go_wp2_with fail
  refine (T5 _ (hT.below (Below.chain d3 a8))).mono ?_; rintro e w9 ⟨rfl, hb9⟩
  have a9 := Below.chain a8 hb9
  have b9 := below_a1 w9 (.cells #[.int .i64 2, .int .i64 (-12), .float .f64 0, .string ⟨#[]⟩] 28)
  have e9 := Below.chain a9 b9
  go_wp2_with fail
  refine (NA _).mono ?_; rintro e w' ⟨rfl, rfl⟩
  go_wp2_with fail
  refine (Fa _ _).mono ?_; rintro e w10 ⟨rfl, hb10⟩
  go_wp2_with fail
  refine (NA _).mono ?_; rintro e w' ⟨rfl, rfl⟩
  go_wp2_with fail
  refine (Fa _ _).mono ?_; rintro e w11 ⟨rfl, hb11⟩
  go_wp2_with fail
  refine (T2 _).mono ?_; rintro e w12 ⟨rfl, hb12⟩
  have b12 := Below.chain (Below.chain hb10 hb11) hb12
  obtain ⟨p0, p1, p2, p3⟩ := ((lies1 w3 _ _ _ _).below (Below.chain e9 b12)).alloc (.cells #[.int .i64 1, .int .i64 1, .float .f64 0, .string ⟨#[]⟩] 28)
  obtain ⟨q0, q1, q2, q3⟩ := ((lies1 w9 _ _ _ _).below b12).alloc (.cells #[.int .i64 1, .int .i64 1, .float .f64 0, .string ⟨#[]⟩] 28)
  have f12 := Below.chain (Below.chain d3 (Below.chain e9 b12)) (below_a1 _ (.cells #[.int .i64 1, .int .i64 1, .float .f64 0, .string ⟨#[]⟩] 28))
  go_wp2_with fail
  refine (Wa _ _).mono ?_; rintro e w13 ⟨rfl, hb13⟩
  go_wp2_with fail
  refine (T6 _).mono ?_; rintro e w14 ⟨rfl, hb14⟩
  go_wp2_with fail
  go_ret
  exact ⟨rfl, Below.chain (Below.chain f12 hb13) hb14⟩
end Go.Proofs.YtnjlcdemfdokoaaGreatDoor
