import Derived.Test.YtdoefndppoglfaaH4
import Derived.Test.YtdoefndppoglfaaFR
import Derived.ProofKit
import Derived.Laws.Cover2
import Derived.Deep.Slices
import Derived.WalkLawsBesides
import Derived.Laws.Tables
import Derived.Deep.RegionHeld3
import Derived.StillTailTactics
namespace Go.Proofs.Ytdoefndppoglfaa
open Go Go.ChangeShapes Go.WideShapes Go.ChangeAt Go.RowKit
open Go.Joins
set_option linter.unusedVariables false
theorem info_n : (Try.prog.info? 43).map (fun i => (i.zero, i.size, i.bytes)) = some (some (.agg #[.string ⟨#[]⟩, .slice none 0 0, .slice none 0 0]), 3, 64) := by kernel_rfl
theorem info_d : (Try.prog.info? 45).map (fun i => (i.zero, i.size, i.bytes)) = some (some (.agg #[.string ⟨#[]⟩, .int .i64 0, .int .i64 0, .bool false, .slice none 0 0, .slice none 0 0]), 6, 88) := by kernel_rfl
abbrev OwN := Ow encN 43
abbrev OwD := Ow encD 45
theorem run_eql_nil7 (t e : TypeId) (a : Option Addr) (l c : Nat) (w : World) (h : Try.prog.underlying t = some (.slice e)) : (binOp .eql t (.slice a l c) (.slice none 0 0)).run Try.prog w = .ok (.bool a.isNone) w := by
  simp [binOp, run_equal_slice_nil (P := Try.prog) (w := w) t e a l c h]
theorem cloneS_any (l : List ByteArray) (v : Value) (w : World) (h : Rw encS w v l) (hl : l.length * 16 ≤ 140737488351232) :
    Calls Try.prog 47 #[v] w fun e w' => ∃ v', e = .returned v' ∧ Ow encS 9 w' w.heap.size v' l ∧ Below w.heap.size w w' := by
  obtain ⟨ao, cap, rfl⟩ := h.shape
  have hq := fun a l c w => run_eql_nil7 40 9 a l c w Try.underlying40
  cases ao with
  | none =>
    obtain ⟨ao', cap', he, _, _, h4, _⟩ := h
    cases he
    have h0 := h4 rfl
    have hm : l = [] := List.eq_nil_of_length_eq_zero (by omega)
    subst hm
    subst h0
    go_enter Try.func47, Try.ntmps47
    go_wp2_with fail
    go_ret
    exact ⟨_, rfl, World.ownsRow_nil _ _ _ _, Below.refl _ _⟩
  | some a =>
    have hL := Lib.hid (Ow.lit (E := encS) (e := 9) w w.heap.size [] (Nat.le_refl _) (by simp) #[] rfl)
    have hb' := Lib.hid (h.keep (below_a1 w (.cells #[] 9)))
    have hB := below_a1 w (.cells #[] 9)
    have hl' : ([] ++ l).length = l.length := rfl
    clear h
    go_enter Try.func47, Try.ntmps47
    go_wp2_with (at_builtin; refine wpList_append_wide (E := encS) rfl _ _ _ rfl Try.underlying40 info_str rfl (by decide) (by decide) rfl rfl hL.out hb'.out (by simp; omega) (by simp) ?_; intro v3 w3 hO3 hg3 _)
    go_ret
    exact ⟨_, rfl, hO3, hB.grown hg3 hB.size hL.out.row⟩
theorem cloneP_any (l : List Pr) (v : Value) (w : World) (h : Rw encP w v l) (hl : l.length * 56 ≤ 140737488351232) :
    Calls Try.prog 52 #[v] w fun e w' => ∃ v', e = .returned v' ∧ Ow encP 69 w' w.heap.size v' l ∧ Below w.heap.size w w' := by
  obtain ⟨ao, cap, rfl⟩ := h.shape
  have hq := fun a l c w => run_eql_nil7 41 69 a l c w Try.underlying41
  cases ao with
  | none =>
    obtain ⟨ao', cap', he, _, _, h4, _⟩ := h
    cases he
    have h0 := h4 rfl
    have hm : l = [] := List.eq_nil_of_length_eq_zero (by omega)
    subst hm
    subst h0
    go_enter Try.func52, Try.ntmps52
    go_wp2_with fail
    go_ret
    exact ⟨_, rfl, World.ownsRow_nil _ _ _ _, Below.refl _ _⟩
  | some a =>
    have hL := Lib.hid (Ow.lit (E := encP) (e := 69) w w.heap.size [] (Nat.le_refl _) (by simp) #[] rfl)
    have hb' := Lib.hid (h.keep (below_a1 w (.cells #[] 69)))
    have hB := below_a1 w (.cells #[] 69)
    have hl' : ([] ++ l).length = l.length := rfl
    clear h
    go_enter Try.func52, Try.ntmps52
    go_wp2_with (at_builtin; refine wpList_append_wide (E := encP) rfl _ _ _ rfl Try.underlying41 info_p rfl (by decide) (by decide) rfl rfl hL.out hb'.out (by simp; omega) (by simp) ?_; intro v3 w3 hO3 hg3 _)
    go_ret
    exact ⟨_, rfl, hO3, hB.grown hg3 hB.size hL.out.row⟩
theorem cloneN_any (l : List Nx) (v : Value) (w : World) (h : Rw encN w v l) (hl : l.length * 64 ≤ 140737488351232) :
    Calls Try.prog 50 #[v] w fun e w' => ∃ v', e = .returned v' ∧ Ow encN 43 w' w.heap.size v' l ∧ Below w.heap.size w w' := by
  obtain ⟨ao, cap, rfl⟩ := h.shape
  have hq := fun a l c w => run_eql_nil7 22 43 a l c w Try.underlying22
  cases ao with
  | none =>
    obtain ⟨ao', cap', he, _, _, h4, _⟩ := h
    cases he
    have h0 := h4 rfl
    have hm : l = [] := List.eq_nil_of_length_eq_zero (by omega)
    subst hm
    subst h0
    go_enter Try.func50, Try.ntmps50
    go_wp2_with fail
    go_ret
    exact ⟨_, rfl, World.ownsRow_nil _ _ _ _, Below.refl _ _⟩
  | some a =>
    have hL := Lib.hid (Ow.lit (E := encN) (e := 43) w w.heap.size [] (Nat.le_refl _) (by simp) #[] rfl)
    have hb' := Lib.hid (h.keep (below_a1 w (.cells #[] 43)))
    have hB := below_a1 w (.cells #[] 43)
    have hl' : ([] ++ l).length = l.length := rfl
    clear h
    go_enter Try.func50, Try.ntmps50
    go_wp2_with (at_builtin; refine wpList_append_wide (E := encN) rfl _ _ _ rfl Try.underlying22 info_n rfl (by decide) (by decide) rfl rfl hL.out hb'.out (by simp; omega) (by simp) ?_; intro v3 w3 hO3 hg3 _)
    go_ret
    exact ⟨_, rfl, hO3, hB.grown hg3 hB.size hL.out.row⟩
theorem cloneD_any (l : List Dx) (v : Value) (w : World) (h : Rw encD w v l) (hl : l.length * 88 ≤ 140737488351232) :
    Calls Try.prog 51 #[v] w fun e w' => ∃ v', e = .returned v' ∧ Ow encD 45 w' w.heap.size v' l ∧ Below w.heap.size w w' := by
  obtain ⟨ao, cap, rfl⟩ := h.shape
  have hq := fun a l c w => run_eql_nil7 23 45 a l c w Try.underlying23
  cases ao with
  | none =>
    obtain ⟨ao', cap', he, _, _, h4, _⟩ := h
    cases he
    have h0 := h4 rfl
    have hm : l = [] := List.eq_nil_of_length_eq_zero (by omega)
    subst hm
    subst h0
    go_enter Try.func51, Try.ntmps51
    go_wp2_with fail
    go_ret
    exact ⟨_, rfl, World.ownsRow_nil _ _ _ _, Below.refl _ _⟩
  | some a =>
    have hL := Lib.hid (Ow.lit (E := encD) (e := 45) w w.heap.size [] (Nat.le_refl _) (by simp) #[] rfl)
    have hb' := Lib.hid (h.keep (below_a1 w (.cells #[] 45)))
    have hB := below_a1 w (.cells #[] 45)
    have hl' : ([] ++ l).length = l.length := rfl
    clear h
    go_enter Try.func51, Try.ntmps51
    go_wp2_with (at_builtin; refine wpList_append_wide (E := encD) rfl _ _ _ rfl Try.underlying23 info_d rfl (by decide) (by decide) rfl rfl hL.out hb'.out (by simp; omega) (by simp) ?_; intro v3 w3 hO3 hg3 _)
    go_ret
    exact ⟨_, rfl, hO3, hB.grown hg3 hB.size hL.out.row⟩
end Go.Proofs.Ytdoefndppoglfaa
