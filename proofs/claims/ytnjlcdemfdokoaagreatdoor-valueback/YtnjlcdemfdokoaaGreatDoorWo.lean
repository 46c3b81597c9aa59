import Derived.Test.YtnjlcdemfdokoaaGreatDoorWm
import Derived.Test.YtnjlcdemfdokoaaGreatDoorWn
namespace Go.Proofs.YtnjlcdemfdokoaaGreatDoor
open Go Go.RowKit
theorem text_15 : Flt.text 4609434218613702656 = [51, 112, 45, 49] := by
  unfold Flt.text
  rw [if_neg (by decide), if_neg (by decide), if_neg (by decide), if_neg (by decide)]
  rw [show Flt.oddM (Flt.rung 4609434218613702656) = 3 from by decide +kernel, show Flt.oddE (Flt.rung 4609434218613702656) = -1 from by decide +kernel]
  rw [Lib.decDigits_one (by decide), show Lib.itoa (-1) = 45 :: Lib.decDigits 1 from Lib.itoa_neg 1 (by decide), Lib.decDigits_one (by decide)]
  rfl
theorem text_10 : Flt.text 4621819117588971520 = [53, 112, 49] := by
  unfold Flt.text
  rw [if_neg (by decide), if_neg (by decide), if_neg (by decide), if_neg (by decide)]
  rw [show Flt.oddM (Flt.rung 4621819117588971520) = 5 from by decide +kernel, show Flt.oddE (Flt.rung 4621819117588971520) = 1 from by decide +kernel]
  rw [Lib.decDigits_one (by decide), show Lib.itoa 1 = Lib.decDigits 1 from Lib.itoa_nonneg 1, Lib.decDigits_one (by decide)]
  rfl
theorem text_n : Flt.text 9221120237041090561 = [110, 97, 110] := by
  unfold Flt.text
  rw [if_pos (by decide)]
theorem parse_a : parseSem [51, 112, 45, 49] = some 4609434218613702656 := by
  have h : readSem [51, 112, 45, 49] = some 4609434218613702656 := by decide +kernel
  unfold parseSem
  rw [h]
  simp only []
  rw [if_pos text_15]
theorem parse_b : parseSem [54, 112, 45, 50] = none := by
  have h : readSem [54, 112, 45, 50] = some 4609434218613702656 := by decide +kernel
  unfold parseSem
  rw [h]
  simp only []
  rw [text_15, if_neg (by decide)]
theorem agn_a : agn 9007199254740993 4845873199050653696 = 1 := by
  have h : Flt.wholeInt 4845873199050653696 = 9007199254740992 := by
    have h1 : Flt.whole (Flt.rung 4845873199050653696) = 9007199254740992 := by
      unfold Flt.whole
      rw [Flt.K_eq]
      decide +kernel
    unfold Flt.wholeInt
    rw [if_neg (by decide), h1]
    rfl
  unfold agn
  rw [h]
  decide
theorem ord_01 : Flt.cmp3 (Flt.kbits 0 : Nat) (Flt.kbits 4607182418800017408 : Nat) = -1 := by decide
end Go.Proofs.YtnjlcdemfdokoaaGreatDoor
