import Derived.Test.YtainigcchlgehaaGreatDoorG1
namespace Go.Proofs.YtainigcchlgehaaGreatDoor
open Go Go.ChangeShapes Go.WideShapes Go.ChangeAt Go.RowKit
open Go.Joins
set_option linter.unusedVariables false
/-- is a text among these? -/
def inB (l : List ByteArray) (s : ByteArray) : Bool := l.any fun x => x.toList == s.toList
theorem inB_take (l : List ByteArray) (s : ByteArray) (i : Nat) (h : i < l.length) : inB (l.take (i + 1)) s = (inB (l.take i) s || (l[i].toList == s.toList)) := by
  unfold inB
  rw [List.take_succ_eq_append_getElem h, List.any_append]; simp
theorem inB_hit (l : List ByteArray) (s : ByteArray) (i : Nat) (h : i < l.length) (hs : (l[i].toList == s.toList) = true) : inB l s = true := by
  unfold inB
  exact List.any_eq_true.2 ⟨l[i], List.getElem_mem h, hs⟩
set_option maxHeartbeats 1000000 in
theorem rin_any (l : List ByteArray) (s : ByteArray) (v : Value) (w : World) (h : RwS w v l) :
    Calls Tryz.prog 35 #[v, .string s] w fun e w' => e = .returned (.bool (inB l s)) ∧ w = w' := by
  have hL : ∃ ao L cap, v = .slice ao L cap ∧ l.length = L ∧ L ≤ 9223372036854775807 := by
    obtain ⟨a, c, e, e1, e2, -⟩ := h
    simp only [maxLen] at e2
    exact ⟨a, _, c, e, rfl, by omega⟩
  obtain ⟨ao, L, cap, rfl, hL, hLm⟩ := hL
  have HR := Lib.hid h
  have HL := Lib.hid hL
  clear h hL
  go_enter Tryz.func35, Tryz.ntmps35
  go_wp2_with fail
  go_loopg [5] L (fun g s5 wr => ∃ i : Nat, g + i = L ∧ s5 = .int .i64 i ∧ inB (l.take i) s = false ∧ wr = w)
  case atStart => exact ⟨0, rfl, rfl, rfl, rfl⟩
  case round =>
    obtain ⟨i, hg, rfl, hy, rfl⟩ := hrel
    by_cases hlt : i < L
    · have ii : (i : Int) < (L : Int) := by omega
      have hi : i < l.length := by rw [HL.out]; exact hlt
      obtain ⟨ao', cap', he, -, -, -, hc⟩ := HR.out
      simp only [Value.slice.injEq] at he
      obtain ⟨rfl, -, rfl⟩ := he
      obtain ⟨b, o, rfl, hcell⟩ := hc i hi
      have q0 : wr.cell? ⟨b, o + i, none⟩ = some (.string l[i]) := by have := hcell 0 (by decide); simpa [encS] using this
      have HT := Lib.hid (inB_take l s i hi)
      have HH := Lib.hid (inB_hit l s i hi)
      clear hc hcell
      generalize l[i] = z at *
      cases hz : z.toList == s.toList
      · rw [hy, hz] at HT
        go_wp2_with fail
        go_roundg (L - (i + 1))
        case rel => exact ⟨i + 1, by omega, by go_num, HT.out, rfl⟩
        case measure => omega
      · have H2 := Lib.hid (HH.out hz)
        go_wp2_with fail
        go_ret
        exact ⟨by rw [H2.out]; rfl, rfl⟩
    · obtain rfl : L = i := by omega
      have ii : ¬ ((L : Int) < (L : Int)) := by omega
      have ht : l.take L = l := List.take_of_length_le (by rw [HL.out]; exact Nat.le_refl _)
      rw [ht] at hy
      have HY := Lib.hid hy
      clear hy ht
      go_wp2_with fail
      go_ret
      exact ⟨by rw [HY.out]; rfl, rfl⟩
end Go.Proofs.YtainigcchlgehaaGreatDoor
