import Derived.Test.YtpnbjofddlbagaaDoorWm
import Derived.Test.YtpnbjofddlbagaaDoorWn
namespace Go.Proofs.YtpnbjofddlbagaaDoor
open Go Go.RowKit
theorem text_15 : Flt.text 4609434218613702656 = [51, 112, 45, 49] := by
  unfold Flt.text
  rw [if_neg (by decide), if_neg (by decide), if_neg (by decide), if_neg (by decide)]
  rw [show Flt.oddM (Flt.rung 4609434218613702656) = 3 from by decide +kernel, show Flt.oddE (Flt.rung 4609434218613702656) = -1 from by decide +kernel]
  rw [Lib.decDigits_one (by decide), show Lib.itoa (-1) = 45 :: Lib.decDigits 1 from Lib.itoa_neg 1 (by decide), Lib.decDigits_one (by decide)]
  rfl
theorem text_10 : Flt.text 4621819117588971520 = [53, 112, 49] := by
  unfold Flt.text
  rw [if_neg (by decide), if_neg (by decide), if_neg (by decide), if_neg (by decide)]
  rw [show Flt.oddM (Flt.rung 4621819117588971520) = 5 from by decide +kernel, show Flt.oddE (Flt.rung 4621819117588971520) = 1 from by decide +kernel]
  rw [Lib.decDigits_one (by decide), show Lib.itoa 1 = Lib.decDigits 1 from Lib.itoa_nonneg 1, Lib.decDigits_one (by decide)]
  rfl
theorem text_n : Flt.text 9221120237041090561 = [110, 97, 110] := by
  unfold Flt.text
  rw [if_pos (by decide)]
theorem parse_a : parseSem [51, 112, 45, 49] = some 4609434218613702656 := by
  have h : readSem [51, 112, 45, 49] = some 4609434218613702656 := by decide +kernel
  unfold parseSem
  rw [h]
  simp only []
  rw [if_pos text_15]
theorem parse_b : parseSem [54, 112, 45, 50] = none := by
  have h : readSem [54, 112, 45, 50] = some 4609434218613702656 := by decide +kernel
  unfold parseSem
  rw [h]
  simp only []
  rw [text_15, if_neg (by decide)]
theorem agn_a : agn 9007199254740993 4845873199050653696 = 1 := by
  have h : Flt.wholeInt 4845873199050653696 = 9007199254740992 := by
    have h1 : Flt.whole (Flt.rung 4845873199050653696) = 9007199254740992 := by
      unfold Flt.whole
      rw [Flt.K_eq]
      decide +kernel
    unfold Flt.wholeInt
    rw [if_neg (by decide), h1]
    rfl
  unfold agn
  rw [h]
  decide
theorem ord_01 : Flt.cmp3 (Flt.kbits 0 : Nat) (Flt.kbits 4607182418800017408 : Nat) = -1 := by decide
set_option maxRecDepth 100000 in
theorem shown_any (w : World) (hT : Tabs w) : Calls Tryd.prog 12 #[] w fun e w' => e = .returned (.bool true) ∧ Below w.heap.size w w' := by
  have P1 := fun w hT => parse_any ⟨#[51, 112, 45, 49]⟩ (by decide) w hT
  have P2 := fun w hT => parse_any ⟨#[54, 112, 45, 50]⟩ (by decide) w hT
  rw [show parseSem (ByteArray.mk #[51, 112, 45, 49]).data.toList = some 4609434218613702656 from parse_a] at P1
  rw [show parseSem (ByteArray.mk #[54, 112, 45, 50]).data.toList = none from parse_b] at P2
  have A := against_mid 9007199254740993 4845873199050653696 (by decide) (by decide) (by decide) (by decide)
  rw [agn_a] at A
  have T1 := fun w hT => text_any 4609434218613702656 (by decide) w hT
  rw [text_15] at T1
  have T2 := fun w hT => text_any 4621819117588971520 (by decide) w hT
  rw [text_10] at T2
  have T3 := fun w hT => text_any 9221120237041090561 (by decide) w hT
  rw [text_n] at T3
  have O := order_any 0 4607182418800017408 (by decide) (by decide)
  rw [ord_01] at O
  have hq : (FloatKind.f64.format.order 4609434218613702656 4609434218613702656 == some Ordering.eq) = true := by decide +kernel
  unfold psTuple at P1 P2
  simp only [] at P1 P2
  go_enter Tryd.func12, Tryd.ntmps12
  go_wp2_with fail
  refine (P1 _ hT).mono ?_; rintro e w1 ⟨rfl, hb1⟩
  go_wp2_with fail
  refine (P2 _ (hT.below hb1)).mono ?_; rintro e w2 ⟨rfl, hb2⟩
  have c2 := Below.chain hb1 hb2
  go_wp2_with fail
  refine (A _).mono ?_; rintro e w3 ⟨rfl, rfl⟩
  go_wp2_with fail
  refine (T1 _ (hT.below c2)).mono ?_; rintro e w4 ⟨rfl, hb4⟩
  have c4 := Below.chain c2 hb4
  go_wp2_with fail
  refine (T2 _ (hT.below c4)).mono ?_; rintro e w5 ⟨rfl, hb5⟩
  have c5 := Below.chain c4 hb5
  go_wp2_with fail
  refine (O _).mono ?_; rintro e w6 ⟨rfl, rfl⟩
  go_wp2_with fail
  refine (nan_any _).mono ?_; rintro e w6 ⟨rfl, rfl⟩
  go_wp2_with fail
  refine (T3 _ (hT.below c5)).mono ?_; rintro e w7 ⟨rfl, hb7⟩
  have c7 := Below.chain c5 hb7
  go_wp2_with fail
  go_ret
  exact ⟨rfl, c7⟩
end Go.Proofs.YtpnbjofddlbagaaDoor
