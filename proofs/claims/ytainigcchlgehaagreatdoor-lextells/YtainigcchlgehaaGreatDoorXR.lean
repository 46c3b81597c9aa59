import Derived.Test.YtainigcchlgehaaGreatDoorXO
import Derived.Test.YtainigcchlgehaaGreatDoorXR0
namespace Go.Proofs.YtainigcchlgehaaGreatDoor
open Go Go.ChangeShapes Go.WideShapes Go.ChangeAt Go.RowKit
open Go.Joins
set_option linter.unusedVariables false
/-! ### the reference: small functions -/
theorem ivp (n : Nat) : (0 ≤ n ∧ n ≤ 47) ∨ (48 ≤ n ∧ n ≤ 57) ∨ (58 ≤ n ∧ n ≤ 64) ∨ (65 ≤ n ∧ n ≤ 90) ∨ (91 ≤ n ∧ n ≤ 94) ∨ (95 ≤ n ∧ n ≤ 95) ∨ (96 ≤ n ∧ n ≤ 96) ∨ (97 ≤ n ∧ n ≤ 122) ∨ (123 ≤ n) := by omega
theorem rpart_any (n : Nat) (w : World) : Calls Tryz.prog 34 #[.int .u8 n] w fun e w' => e = .returned (.bool (okc n)) ∧ w = w' := by
  rcases ivp n with ⟨q1, q2⟩ | ⟨q1, q2⟩ | ⟨q1, q2⟩ | ⟨q1, q2⟩ | ⟨q1, q2⟩ | ⟨q1, q2⟩ | ⟨q1, q2⟩ | ⟨q1, q2⟩ | q1
  · have HB := Lib.hid (show okc n = false by unfold okc; simp; omega)
    have e95 : ((n : Int) == 95) = false := by simp; omega
    have g48 : ¬ (48 : Int) ≤ (n : Int) := by omega
    have l57 : (n : Int) ≤ 57 := by omega
    have g97 : ¬ (97 : Int) ≤ (n : Int) := by omega
    have l122 : (n : Int) ≤ 122 := by omega
    have g65 : ¬ (65 : Int) ≤ (n : Int) := by omega
    have l90 : (n : Int) ≤ 90 := by omega
    clear q1 q2
    go_enter Tryz.func34, Tryz.ntmps34
    go_wp2_with fail
    go_ret
    exact ⟨by rw [HB.out]; rfl, rfl⟩
  · have HB := Lib.hid (show okc n = true by unfold okc; simp; omega)
    have e95 : ((n : Int) == 95) = false := by simp; omega
    have g48 : (48 : Int) ≤ (n : Int) := by omega
    have l57 : (n : Int) ≤ 57 := by omega
    have g97 : ¬ (97 : Int) ≤ (n : Int) := by omega
    have l122 : (n : Int) ≤ 122 := by omega
    have g65 : ¬ (65 : Int) ≤ (n : Int) := by omega
    have l90 : (n : Int) ≤ 90 := by omega
    clear q1 q2
    go_enter Tryz.func34, Tryz.ntmps34
    go_wp2_with fail
    go_ret
    exact ⟨by rw [HB.out]; rfl, rfl⟩
  · have HB := Lib.hid (show okc n = false by unfold okc; simp; omega)
    have e95 : ((n : Int) == 95) = false := by simp; omega
    have g48 : (48 : Int) ≤ (n : Int) := by omega
    have l57 : ¬ (n : Int) ≤ 57 := by omega
    have g97 : ¬ (97 : Int) ≤ (n : Int) := by omega
    have l122 : (n : Int) ≤ 122 := by omega
    have g65 : ¬ (65 : Int) ≤ (n : Int) := by omega
    have l90 : (n : Int) ≤ 90 := by omega
    clear q1 q2
    go_enter Tryz.func34, Tryz.ntmps34
    go_wp2_with fail
    go_ret
    exact ⟨by rw [HB.out]; rfl, rfl⟩
  · have HB := Lib.hid (show okc n = true by unfold okc; simp; omega)
    have e95 : ((n : Int) == 95) = false := by simp; omega
    have g48 : (48 : Int) ≤ (n : Int) := by omega
    have l57 : ¬ (n : Int) ≤ 57 := by omega
    have g97 : ¬ (97 : Int) ≤ (n : Int) := by omega
    have l122 : (n : Int) ≤ 122 := by omega
    have g65 : (65 : Int) ≤ (n : Int) := by omega
    have l90 : (n : Int) ≤ 90 := by omega
    clear q1 q2
    go_enter Tryz.func34, Tryz.ntmps34
    go_wp2_with fail
    go_ret
    exact ⟨by rw [HB.out]; rfl, rfl⟩
  · have HB := Lib.hid (show okc n = false by unfold okc; simp; omega)
    have e95 : ((n : Int) == 95) = false := by simp; omega
    have g48 : (48 : Int) ≤ (n : Int) := by omega
    have l57 : ¬ (n : Int) ≤ 57 := by omega
    have g97 : ¬ (97 : Int) ≤ (n : Int) := by omega
    have l122 : (n : Int) ≤ 122 := by omega
    have g65 : (65 : Int) ≤ (n : Int) := by omega
    have l90 : ¬ (n : Int) ≤ 90 := by omega
    clear q1 q2
    go_enter Tryz.func34, Tryz.ntmps34
    go_wp2_with fail
    go_ret
    exact ⟨by rw [HB.out]; rfl, rfl⟩
  · have HB := Lib.hid (show okc n = true by unfold okc; simp; omega)
    have e95 : ((n : Int) == 95) = true := by simp; omega
    have g48 : (48 : Int) ≤ (n : Int) := by omega
    have l57 : ¬ (n : Int) ≤ 57 := by omega
    have g97 : ¬ (97 : Int) ≤ (n : Int) := by omega
    have l122 : (n : Int) ≤ 122 := by omega
    have g65 : (65 : Int) ≤ (n : Int) := by omega
    have l90 : ¬ (n : Int) ≤ 90 := by omega
    clear q1 q2
    go_enter Tryz.func34, Tryz.ntmps34
    go_wp2_with fail
    go_ret
    exact ⟨by rw [HB.out]; rfl, rfl⟩
  · have HB := Lib.hid (show okc n = false by unfold okc; simp; omega)
    have e95 : ((n : Int) == 95) = false := by simp; omega
    have g48 : (48 : Int) ≤ (n : Int) := by omega
    have l57 : ¬ (n : Int) ≤ 57 := by omega
    have g97 : ¬ (97 : Int) ≤ (n : Int) := by omega
    have l122 : (n : Int) ≤ 122 := by omega
    have g65 : (65 : Int) ≤ (n : Int) := by omega
    have l90 : ¬ (n : Int) ≤ 90 := by omega
    clear q1 q2
    go_enter Tryz.func34, Tryz.ntmps34
    go_wp2_with fail
    go_ret
    exact ⟨by rw [HB.out]; rfl, rfl⟩
  · have HB := Lib.hid (show okc n = true by unfold okc; simp; omega)
    have e95 : ((n : Int) == 95) = false := by simp; omega
    have g48 : (48 : Int) ≤ (n : Int) := by omega
    have l57 : ¬ (n : Int) ≤ 57 := by omega
    have g97 : (97 : Int) ≤ (n : Int) := by omega
    have l122 : (n : Int) ≤ 122 := by omega
    have g65 : (65 : Int) ≤ (n : Int) := by omega
    have l90 : ¬ (n : Int) ≤ 90 := by omega
    clear q1 q2
    go_enter Tryz.func34, Tryz.ntmps34
    go_wp2_with fail
    go_ret
    exact ⟨by rw [HB.out]; rfl, rfl⟩
  · have HB := Lib.hid (show okc n = false by unfold okc; simp; omega)
    have e95 : ((n : Int) == 95) = false := by simp; omega
    have g48 : (48 : Int) ≤ (n : Int) := by omega
    have l57 : ¬ (n : Int) ≤ 57 := by omega
    have g97 : (97 : Int) ≤ (n : Int) := by omega
    have l122 : ¬ (n : Int) ≤ 122 := by omega
    have g65 : (65 : Int) ≤ (n : Int) := by omega
    have l90 : ¬ (n : Int) ≤ 90 := by omega
    clear q1
    go_enter Tryz.func34, Tryz.ntmps34
    go_wp2_with fail
    go_ret
    exact ⟨by rw [HB.out]; rfl, rfl⟩
def keysB : List ByteArray := [⟨#[87, 65, 76, 75]⟩, ⟨#[84, 82, 65, 73, 76]⟩, ⟨#[65, 67, 89, 67, 76, 73, 67]⟩, ⟨#[83, 73, 77, 80, 76, 69]⟩, ⟨#[65, 76, 76]⟩, ⟨#[65, 78, 89]⟩, ⟨#[83, 72, 79, 82, 84, 69, 83, 84]⟩, ⟨#[87, 72, 69, 82, 69]⟩, ⟨#[79, 82]⟩, ⟨#[65, 78, 68]⟩, ⟨#[78, 79, 84]⟩, ⟨#[73, 83]⟩, ⟨#[110, 117, 108, 108]⟩, ⟨#[116, 114, 117, 101]⟩, ⟨#[102, 97, 108, 115, 101]⟩, ⟨#[105, 110, 102]⟩, ⟨#[110, 97, 110]⟩]
def rsigB : List ByteArray := [⟨#[40]⟩, ⟨#[41]⟩, ⟨#[91]⟩, ⟨#[93]⟩, ⟨#[123]⟩, ⟨#[125]⟩, ⟨#[44]⟩, ⟨#[58]⟩, ⟨#[124]⟩, ⟨#[38]⟩, ⟨#[33]⟩, ⟨#[37]⟩, ⟨#[42]⟩, ⟨#[43]⟩, ⟨#[63]⟩, ⟨#[61]⟩, ⟨#[60]⟩, ⟨#[62]⟩, ⟨#[45]⟩, ⟨#[126]⟩, ⟨#[45, 91]⟩, ⟨#[126, 91]⟩, ⟨#[93, 45]⟩, ⟨#[93, 126]⟩, ⟨#[45, 62]⟩, ⟨#[60, 45]⟩, ⟨#[60, 126]⟩, ⟨#[126, 62]⟩, ⟨#[60, 61]⟩, ⟨#[62, 61]⟩, ⟨#[60, 62]⟩, ⟨#[60, 45, 91]⟩, ⟨#[60, 126, 91]⟩, ⟨#[93, 45, 62]⟩, ⟨#[93, 126, 62]⟩, ⟨#[60, 45, 62]⟩]
theorem rkeys_any (w : World) : Calls Tryz.prog 36 #[] w fun e w' => (∃ v, e = .returned v ∧ RwS w' v keysB) ∧ Below w.heap.size w w' := by
  have hS := Ow.lit (E := encS) (e := 9) w w.heap.size keysB (Nat.le_refl _) (by decide) #[.string ⟨#[87, 65, 76, 75]⟩, .string ⟨#[84, 82, 65, 73, 76]⟩, .string ⟨#[65, 67, 89, 67, 76, 73, 67]⟩, .string ⟨#[83, 73, 77, 80, 76, 69]⟩, .string ⟨#[65, 76, 76]⟩, .string ⟨#[65, 78, 89]⟩, .string ⟨#[83, 72, 79, 82, 84, 69, 83, 84]⟩, .string ⟨#[87, 72, 69, 82, 69]⟩, .string ⟨#[79, 82]⟩, .string ⟨#[65, 78, 68]⟩, .string ⟨#[78, 79, 84]⟩, .string ⟨#[73, 83]⟩, .string ⟨#[110, 117, 108, 108]⟩, .string ⟨#[116, 114, 117, 101]⟩, .string ⟨#[102, 97, 108, 115, 101]⟩, .string ⟨#[105, 110, 102]⟩, .string ⟨#[110, 97, 110]⟩] rfl
  have hW := below_a1 w (.cells #[.string ⟨#[87, 65, 76, 75]⟩, .string ⟨#[84, 82, 65, 73, 76]⟩, .string ⟨#[65, 67, 89, 67, 76, 73, 67]⟩, .string ⟨#[83, 73, 77, 80, 76, 69]⟩, .string ⟨#[65, 76, 76]⟩, .string ⟨#[65, 78, 89]⟩, .string ⟨#[83, 72, 79, 82, 84, 69, 83, 84]⟩, .string ⟨#[87, 72, 69, 82, 69]⟩, .string ⟨#[79, 82]⟩, .string ⟨#[65, 78, 68]⟩, .string ⟨#[78, 79, 84]⟩, .string ⟨#[73, 83]⟩, .string ⟨#[110, 117, 108, 108]⟩, .string ⟨#[116, 114, 117, 101]⟩, .string ⟨#[102, 97, 108, 115, 101]⟩, .string ⟨#[105, 110, 102]⟩, .string ⟨#[110, 97, 110]⟩] 9)
  have HS := Lib.hid hS.rw
  have HW := Lib.hid hW
  clear hS hW
  go_enter Tryz.func36, Tryz.ntmps36
  go_wp2_with fail
  go_ret
  exact ⟨⟨_, rfl, HS.out⟩, HW.out⟩
theorem rsigs_any (w : World) : Calls Tryz.prog 38 #[] w fun e w' => (∃ v, e = .returned v ∧ RwS w' v rsigB) ∧ Below w.heap.size w w' := by
  have hS := Ow.lit (E := encS) (e := 9) w w.heap.size rsigB (Nat.le_refl _) (by decide) #[.string ⟨#[40]⟩, .string ⟨#[41]⟩, .string ⟨#[91]⟩, .string ⟨#[93]⟩, .string ⟨#[123]⟩, .string ⟨#[125]⟩, .string ⟨#[44]⟩, .string ⟨#[58]⟩, .string ⟨#[124]⟩, .string ⟨#[38]⟩, .string ⟨#[33]⟩, .string ⟨#[37]⟩, .string ⟨#[42]⟩, .string ⟨#[43]⟩, .string ⟨#[63]⟩, .string ⟨#[61]⟩, .string ⟨#[60]⟩, .string ⟨#[62]⟩, .string ⟨#[45]⟩, .string ⟨#[126]⟩, .string ⟨#[45, 91]⟩, .string ⟨#[126, 91]⟩, .string ⟨#[93, 45]⟩, .string ⟨#[93, 126]⟩, .string ⟨#[45, 62]⟩, .string ⟨#[60, 45]⟩, .string ⟨#[60, 126]⟩, .string ⟨#[126, 62]⟩, .string ⟨#[60, 61]⟩, .string ⟨#[62, 61]⟩, .string ⟨#[60, 62]⟩, .string ⟨#[60, 45, 91]⟩, .string ⟨#[60, 126, 91]⟩, .string ⟨#[93, 45, 62]⟩, .string ⟨#[93, 126, 62]⟩, .string ⟨#[60, 45, 62]⟩] rfl
  have hW := below_a1 w (.cells #[.string ⟨#[40]⟩, .string ⟨#[41]⟩, .string ⟨#[91]⟩, .string ⟨#[93]⟩, .string ⟨#[123]⟩, .string ⟨#[125]⟩, .string ⟨#[44]⟩, .string ⟨#[58]⟩, .string ⟨#[124]⟩, .string ⟨#[38]⟩, .string ⟨#[33]⟩, .string ⟨#[37]⟩, .string ⟨#[42]⟩, .string ⟨#[43]⟩, .string ⟨#[63]⟩, .string ⟨#[61]⟩, .string ⟨#[60]⟩, .string ⟨#[62]⟩, .string ⟨#[45]⟩, .string ⟨#[126]⟩, .string ⟨#[45, 91]⟩, .string ⟨#[126, 91]⟩, .string ⟨#[93, 45]⟩, .string ⟨#[93, 126]⟩, .string ⟨#[45, 62]⟩, .string ⟨#[60, 45]⟩, .string ⟨#[60, 126]⟩, .string ⟨#[126, 62]⟩, .string ⟨#[60, 61]⟩, .string ⟨#[62, 61]⟩, .string ⟨#[60, 62]⟩, .string ⟨#[60, 45, 91]⟩, .string ⟨#[60, 126, 91]⟩, .string ⟨#[93, 45, 62]⟩, .string ⟨#[93, 126, 62]⟩, .string ⟨#[60, 45, 62]⟩] 9)
  have HS := Lib.hid hS.rw
  have HW := Lib.hid hW
  clear hS hW
  go_enter Tryz.func38, Tryz.ntmps38
  go_wp2_with fail
  go_ret
  exact ⟨⟨_, rfl, HS.out⟩, HW.out⟩
end Go.Proofs.YtainigcchlgehaaGreatDoor
