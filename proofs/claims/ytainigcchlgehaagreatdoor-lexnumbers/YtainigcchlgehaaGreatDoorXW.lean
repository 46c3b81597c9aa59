import Derived.Test.YtainigcchlgehaaGreatDoorXT
namespace Go.Proofs.YtainigcchlgehaaGreatDoor
open Go Go.ChangeShapes Go.WideShapes Go.ChangeAt Go.RowKit
open Go.Joins
set_option linter.unusedVariables false
/-! ### what must be in any case -/
def src1 : Bt := [40, 97, 41, 45, 91, 101, 93, 45, 62, 40, 98, 41, 32, 87, 72, 69, 82, 69, 32, 51, 112, 45, 49, 32, 39, 120, 39]
def src2 : Bt := [97, 32, 36]
def toks1 : List Tk := [⟨5, [40], 0⟩, ⟨1, [97], 1⟩, ⟨5, [41], 2⟩, ⟨5, [45, 91], 3⟩, ⟨1, [101], 5⟩, ⟨5, [93, 45, 62], 6⟩, ⟨5, [40], 9⟩, ⟨1, [98], 10⟩, ⟨5, [41], 11⟩, ⟨2, [87, 72, 69, 82, 69], 13⟩, ⟨3, [51, 112, 45, 49], 19⟩, ⟨4, [39, 120, 39], 24⟩]
def isOk : Except Nat (List Tk) → List Tk → Bool
  | .ok r, t => decide (r = t)
  | .error _, _ => false
def isBad : Except Nat (List Tk) → Nat → Bool
  | .ok _, _ => false
  | .error p, q => decide (p = q)
theorem lex1 : lexT src1 0 = .ok toks1 := by
  have h : isOk (lexT src1 0) toks1 = true := by kernel_rfl
  cases hx : lexT src1 0 with
  | error e => rw [hx] at h; cases h
  | ok r => rw [hx] at h; rw [of_decide_eq_true h]
theorem lex2 : lexT src2 0 = .error 2 := by
  have h : isBad (lexT src2 0) 2 = true := by kernel_rfl
  cases hx : lexT src2 0 with
  | error e => rw [hx] at h; rw [of_decide_eq_true h]
  | ok r => rw [hx] at h; cases h
set_option maxHeartbeats 2000000 in
set_option maxRecDepth 100000 in
theorem shown10_any (w : World) (hT : TabsX w) : Calls Tryz.prog 9 #[] w fun e w' => e = .returned (.bool true) ∧ Below w.heap.size w w' := by
  have C1 := lex_any ⟨src1.toArray⟩ (by decide) w hT
  have C2 := fun (u : World) (hu : TabsX u) => lex_any ⟨src2.toArray⟩ (by decide) u hu
  rw [show (⟨src1.toArray⟩ : ByteArray).data.toList = src1 from rfl] at C1
  rw [show (⟨src2.toArray⟩ : ByteArray).data.toList = src2 from rfl] at C2
  unfold LexR at C1 C2
  rw [lex1] at C1
  rw [lex2] at C2
  have H2 := Lib.hid C2
  have H1 := Lib.hid C1
  clear C1 C2
  go_enter Tryz.func9, Tryz.ntmps9
  go_wp2_with fail
  refine H1.out.mono ?_; rintro e w1 ⟨⟨v, rfl, hO⟩, hb1⟩
  obtain ⟨va, vc, rfl⟩ := hO.shape
  have HB1 := Lib.hid hb1
  have HO := Lib.hid hO
  clear hb1 hO
  go_wp2_with fail
  refine (H2.out _ (hT.below HB1.out)).mono ?_; rintro e w2 ⟨rfl, hb2⟩
  have HB2 := Lib.hid (HB1.out.trans (hb2.mono HB1.out.size))
  have HO2 := HO.out.below hb2
  have hR := HO2.rw
  obtain ⟨b, o, rfl, hc⟩ := RwK.at hR 0 (by decide)
  obtain ⟨-, q3, -⟩ := hc 3 (by decide)
  obtain ⟨-, q5, -⟩ := hc 5 (by decide)
  obtain ⟨q9, -, -⟩ := hc 9 (by decide)
  obtain ⟨-, q10, -⟩ := hc 10 (by decide)
  obtain ⟨q11, -, -⟩ := hc 11 (by decide)
  simp only [toks1, List.getElem_cons_succ, List.getElem_cons_zero, Nat.reduceMul] at q3 q5 q9 q10 q11
  have hcap : 12 ≤ vc := by
    obtain ⟨ao, cap, he, h1, -⟩ := hR
    have : toks1.length = 12 := rfl
    cases he
    omega
  have hcapi : (12 : Int) ≤ (vc : Int) := by omega
  have h12 : toks1.length = 12 := rfl
  have CT := Lib.hid (lxtext_any (toks1.take 3) _ (by decide) _ (Rw.head hR 3 (by rw [h12]; omega)))
  rw [h12]
  clear hc hb2 hR HO2 h12
  go_wp2_with fail
  refine CT.out.mono ?_; rintro e w3 ⟨rfl, hb3⟩
  rw [show joinT (toks1.take 3) = [40, 32, 97, 32, 41] from rfl]
  have HB3 := HB2.out.trans (hb3.mono HB2.out.size)
  go_wp2_with fail
  go_ret
  exact ⟨rfl, HB3⟩
end Go.Proofs.YtainigcchlgehaaGreatDoor
