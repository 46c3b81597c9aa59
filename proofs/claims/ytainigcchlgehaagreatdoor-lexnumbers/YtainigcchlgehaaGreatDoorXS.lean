import Derived.Test.YtainigcchlgehaaGreatDoorXA
import Derived.Test.YtainigcchlgehaaGreatDoorAL
import Derived.Laws.Rows
import Derived.Lib.LaidTab
namespace Go.Proofs.YtainigcchlgehaaGreatDoor
open Go Go.ChangeShapes Go.WideShapes Go.ChangeAt Go.RowKit
set_option linter.unusedVariables false
/-- a table of texts, as the row lists it -/
def strData {H : Type} (ss : List Bt) : DataW H := .agg (ss.map fun s => .lit (.string s))
theorem cells_of_strs {H : Type} {enc : TypeId × Value → H} {P : Program} {w : World} {base : Nat} {sp : Nat → Bool} {held : Bool} {fuel : Nat} {t e : TypeId} {n : Nat} {cs : List Value} {ss : List Bt} {p : List MemPlace}
    (ht : P.underlying t = some (.array n e)) (he : P.underlying e = some .string) (hce : P.cellsOf e = 1) (hct : P.cellsOf t = n)
    (h : DataW.trod enc P w base sp held fuel t cs = some (strData ss, p)) : cs = ss.map fun s => Value.string ⟨s.toArray⟩ := by
  cases fuel with
  | zero => simp [DataW.trod] at h
  | succ fuel =>
    simp only [DataW.trod, ht, hce, hct, Nat.mul_one] at h
    split at h
    · obtain ⟨xs, hm, hx⟩ := Option.map_eq_some_iff.1 h
      have hxs : xs.map (·.1) = ss.map fun s => (DataW.lit (.string s) : DataW H) := by
        have := congrArg Prod.fst hx
        simpa [strData] using this
      have hxl : xs.length = n := by simpa using Lib.mapM_length hm
      have hzl : ss.length = n := by
        have := congrArg List.length hxs
        simp at this
        omega
      apply List.ext_getElem?
      intro i
      by_cases hi : i < n
      · obtain ⟨b, hb, hf⟩ := Lib.mapM_at hm i i (by simp [hi])
        obtain ⟨z, hc, rfl, _⟩ := DataW.trod_string he hf
        have h1 : cs[i]? = some (.string z) := by
          have := congrArg (·[0]?) hc
          simpa [List.getElem?_take, List.getElem?_drop] using this
        have h2 : (xs.map (·.1))[i]? = some (DataW.lit (.string z.data.toList) : DataW H) := by simp [hb]
        rw [hxs] at h2
        simp only [List.getElem?_map, Option.map_eq_some_iff, DataW.lit.injEq, Lit.string.injEq] at h2
        obtain ⟨z', hz', e'⟩ := h2
        simp [h1, hz', e']
      · rw [List.getElem?_eq_none (by omega), List.getElem?_eq_none (by simp; omega)]
    · cases h
/-- the signs' table, as it lies -/
def SigAt (w : World) : Prop := ∀ (j : Nat) s, signsL[j]? = some s → w.cell? ⟨0, j, none⟩ = some (.string ⟨s.toArray⟩)
theorem SigAt.below {w w' : World} (h : SigAt w) (hb : Below w.heap.size w w') : SigAt w' := fun j s hs => by
  have h1 := h j s hs
  exact (hb.cell (p := ⟨0, j, none⟩) (Lib.lt_of_cell h1)).trans h1
theorem gS : Tryz.prog.globalNamed "bridleway/lex.signs" = some 0 := by kernel_rfl
theorem gtS : (Tryz.prog.globals[0]?).map (·.type) = some 85 := by kernel_rfl
theorem cS : Tryz.prog.cellsOf 85 = 36 := by kernel_rfl
theorem sig_of {W : World} {rest : List (String × DataW Unit)} (h : laidMet Tryz.prog (("bridleway/lex.signs", strData signsL) :: rest) W) : SigAt W := by
  obtain ⟨ps, ⟨g', t', cs, fuel, p, q, hg', ht', hvar, hd, _, _⟩, _⟩ := h
  obtain rfl := Option.some.inj (gS.symm.trans hg')
  obtain rfl := Option.some.inj (gtS.symm.trans ht')
  have e := cells_of_strs (ss := signsL) Tryz.underlying85 Tryz.underlying9 c9 cS hd
  intro j s hs
  have := World.var?_cell gS hvar j
  rw [this, ← Array.getElem?_toList, e, List.getElem?_map, hs]; rfl
structure TabsX (w : World) : Prop where
  tabs : Tabs w
  sig : SigAt w
theorem TabsX.below {w w' : World} (h : TabsX w) (hb : Below w.heap.size w w') : TabsX w' := ⟨h.tabs.below hb, h.sig.below hb⟩
theorem of_laidX {W : World} (h : laidMetH Tryz.prog listed W) : TabsX W := by
  refine ⟨of_laid h, ?_⟩
  rw [MakeChecks.laidMetH_plain _ _ _ (by kernel_rfl)] at h
  exact sig_of h.tail.tail.tail.tail.tail.tail
/-- the table, as a value -/
def signsV : Array Value := (signsL.map fun s => Value.string ⟨s.toArray⟩).toArray
theorem sig_load {w : World} (h : SigAt w) : (loadVar 85 ⟨0, 0, none⟩).run Tryz.prog w = .ok (.agg signsV) w := by
  have hl : (loadCells ⟨0, 0, none⟩ (signsL.map fun s => Value.string ⟨s.toArray⟩).length).run Tryz.prog w = .ok signsV w :=
    run_loadCells_list (P := Tryz.prog) w ⟨0, 0, none⟩ _ (fun j v hv => by
      rw [List.getElem?_map, Option.map_eq_some_iff] at hv
      obtain ⟨s, hs, rfl⟩ := hv
      have hadd : (⟨0, 0, none⟩ : Addr).add j = ⟨0, j, none⟩ := by unfold Addr.add; split <;> simp_all
      rw [hadd]; exact h j s hs)
  have hagg : (isAgg 85).run Tryz.prog w = .ok true w := by
    unfold isAgg
    rw [Sem.run_bind, run_underlying Tryz.underlying85 w]
    rfl
  have hlen : (signsL.map fun s => Value.string ⟨s.toArray⟩).length = 36 := by rw [List.length_map]; rfl
  rw [hlen] at hl
  have hs := Tryz.sizeOf85
  simp [loadVar, Sem.run_bind, hagg, hs, hl]
end Go.Proofs.YtainigcchlgehaaGreatDoor
