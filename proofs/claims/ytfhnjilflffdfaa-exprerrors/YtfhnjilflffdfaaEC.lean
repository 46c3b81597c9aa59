import Derived.Test.YtfhnjilflffdfaaET
import Derived.Test.YtfhnjilflffdfaaE2
import Derived.Deep.LoopGhost
namespace Go.Proofs.Ytfhnjilflffdfaa
open Go Go.RowKit
set_option linter.unusedVariables false
theorem wrap_add (a b : Int) : wrap64 (wrap64 a + wrap64 b) = wrap64 (a + b) := by simp only [wrap64]; omega
theorem wrap_wrap (a : Int) : wrap64 (wrap64 a) = wrap64 a := by simp only [wrap64]; omega
theorem szL_app (l m : List Ex) : szL (l ++ m) = szL l + szL m := by
  induction l with
  | nil => rw [szL]; simp
  | cons x l ih => rw [List.cons_append, szL, szL, ih]; omega
set_option maxHeartbeats 1000000 in
theorem count_any : ∀ (t : Ex) (cs : List Value) (w : World), Tr w t cs →
    Calls Try.prog 15 #[.agg cs.toArray] w fun e w' => e = .returned (.int .i64 (wrap64 (t.sz : Nat))) ∧ Below w.heap.size w w' := by
  refine fun t => ex_ind (P := fun t => ∀ (cs : List Value) (w : World), Tr w t cs → Calls Try.prog 15 #[.agg cs.toArray] w fun e w' => e = .returned (.int .i64 (wrap64 (t.sz : Nat))) ∧ Below w.heap.size w w') ?_ t
  intro kind name v kids ih cs w h
  obtain ⟨ao, cap, rfl, hv, hcap, hm, hn, hk⟩ := h.inv
  have HK := Lib.hid h
  have IH := Lib.hid ih
  have HZ := Lib.hid (show (Ex.node kind name v kids).sz = 1 + szL kids by rw [Ex.sz])
  simp only [maxLen] at hm
  clear hk h ih
  generalize (Ex.node kind name v kids).sz = Z at *
  generalize hL : kids.length = L at *
  have HL := Lib.hid hL
  clear hL
  go_enter Try.func15, Try.ntmps15
  go_wp2_with fail
  have c0 := below_a1 w (.cells #[.int .i64 kind, .string name, .int .i64 v.k, .int .i64 v.n, .float .f64 v.f, .string v.s, .slice ao L cap] 27)
  go_loopg [3, 4] L (fun g s3 s4 wr => ∃ (i : Nat), g + i = L ∧ s4 = .int .i64 i ∧ s3 = .int .i64 (wrap64 ((1 + szL (kids.take i) : Nat) : Int)) ∧ wr.cell? ⟨w.heap.size, 6, none⟩ = some (.slice ao L cap) ∧ Below w.heap.size w wr)
  case atStart => exact ⟨0, rfl, rfl, by rw [List.take_zero, szL]; simp [wrap64], by simp, c0⟩
  case round =>
    obtain ⟨i, hg, rfl, rfl, hcell, hb⟩ := hrel
    by_cases hlt : i < L
    · have ii : (i : Int) < (L : Int) := by omega
      have hT := HK.out.keep hb
      obtain ⟨ao', cap', he, -, -, -, -, hk⟩ := hT.inv
      have hi : i < kids.length := by rw [HL.out]; exact hlt
      obtain ⟨b, o, d0, d1, d2, d3, d4, d5, d6, ha, q0, q1, q2, q3, q4, q5, q6, hTi⟩ := hk i hi
      simp only [List.cons.injEq, Value.slice.injEq, and_true, true_and] at he
      obtain ⟨rfl, -, rfl⟩ := he
      subst ha
      have C := Lib.hid (IH.out _ (List.getElem_mem hi) _ _ hTi)
      have HS := Lib.hid (show wrap64 (wrap64 ((1 + szL (kids.take i) : Nat) : Int) + wrap64 ((kids[i].sz : Nat) : Int)) = wrap64 ((1 + szL (kids.take (i + 1)) : Nat) : Int) by
        rw [wrap_add, List.take_succ_eq_append_getElem hi, szL_app, szL, szL]
        congr 1
        omega)
      clear hT hTi hk
      generalize wrap64 ((kids[i].sz : Nat) : Int) = z at *
      generalize wrap64 ((1 + szL (kids.take i) : Nat) : Int) = y at *
      go_wp2_with fail
      (with_reducible refine C.out.mono ?_); rintro e w2 ⟨rfl, hb2⟩
      go_wp2_with fail
      go_roundg (L - (i + 1))
      case rel => exact ⟨i + 1, by omega, by go_num, by rw [← HS.out], (hb2.cell (block_lt_of_cell hcell)).trans hcell, Below.chain hb hb2⟩
      case measure => omega
    · obtain rfl : L = i := by omega
      have ht : kids.take L = kids := List.take_of_length_le (by rw [HL.out]; exact Nat.le_refl _)
      rw [ht, ← HZ.out]
      go_wp2_with fail
      go_ret
      exact ⟨rfl, hb⟩
end Go.Proofs.Ytfhnjilflffdfaa
