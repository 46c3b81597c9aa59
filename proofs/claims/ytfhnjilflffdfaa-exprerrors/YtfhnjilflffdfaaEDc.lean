import Derived.Test.YtfhnjilflffdfaaEU
import Derived.Deep.LoopGhost
namespace Go.Proofs.Ytfhnjilflffdfaa
open Go Go.RowKit
set_option linter.unusedVariables false
theorem deepL_app (l m : List Ex) : deepL (l ++ m) = max (deepL l) (deepL m) := by
  induction l with
  | nil => rw [deepL]; simp
  | cons x l ih => rw [List.cons_append, deepL, deepL, ih]; omega
theorem deep_node (kind : Int) (name : ByteArray) (v : Vl) (kids : List Ex) : deep (.node kind name v kids) = 1 + deepL kids := by rw [deep]
theorem deepL_take (l : List Ex) (i : Nat) (h : i < l.length) : deepL (l.take (i + 1)) = max (deepL (l.take i)) (deep l[i]) := by
  rw [List.take_succ_eq_append_getElem h, deepL_app, deepL, deepL]; omega
theorem deepL_le (l : List Ex) (i : Nat) : deepL (l.take i) ≤ deepL l := by
  have := deepL_app (l.take i) (l.drop i)
  rw [List.take_append_drop] at this
  omega
theorem deep_pos (t : Ex) : 1 ≤ deep t := by cases t with | node k n v kids => rw [deep]; omega
set_option maxHeartbeats 1000000 in
theorem depth_any : ∀ (t : Ex) (x : Xc) (m : Nat) (w : World), Tx w t x → 1 ≤ m → m ≤ 51 →
    Calls Try.prog 27 #[xv x, .int .i64 m] w fun e w' => e = .returned (.int .i64 ((min (deep t) m : Nat) : Int)) ∧ Below w.heap.size w w' := by
  refine fun t => ex_ind (P := fun t => ∀ (x : Xc) (m : Nat) (w : World), Tx w t x → 1 ≤ m → m ≤ 51 → Calls Try.prog 27 #[xv x, .int .i64 m] w fun e w' => e = .returned (.int .i64 ((min (deep t) m : Nat) : Int)) ∧ Below w.heap.size w w') ?_ t
  intro kind name v kids ih x m w h m1 m2
  obtain ⟨ao, cap, he, hv, hcap, hm, hn, hk⟩ := Tr.inv h
  obtain ⟨k0, n0, ⟨a1, a2, a3, a4⟩, ao', len', cap'⟩ := x
  simp only [encX, List.cons.injEq, Value.int.injEq, Value.string.injEq, Value.float.injEq, Value.slice.injEq, and_true, true_and] at he
  obtain ⟨rfl, rfl, e1, e2, e3, e4, rfl, rfl, rfl⟩ := he
  subst e1 e2 e3 e4
  have HK := Lib.hid h
  have IH := Lib.hid ih
  have HZ := Lib.hid (deep_node k0 n0 v kids)
  simp only [maxLen] at hm
  clear hk h ih
  generalize deep (Ex.node k0 n0 v kids) = Z at *
  generalize hL : kids.length = L at *
  have HL := Lib.hid hL
  clear hL
  have im : ((m : Int) - 1) = ((m - 1 : Nat) : Int) := by omega
  go_enter Try.func27, Try.ntmps27
  go_wp2_with fail
  have c0 := below_a1 w (.cells #[.int .i64 k0, .string n0, .int .i64 v.k, .int .i64 v.n, .float .f64 v.f, .string v.s, .slice ao' L cap'] 27)
  go_loopg [5, 6] L (fun g s5 s6 wr => ∃ (i y : Nat), g + i = L ∧ s6 = .int .i64 i ∧ s5 = .int .i64 y ∧ y = min (deepL (kids.take i)) (m - 1) ∧ wr.cell? ⟨w.heap.size, 6, none⟩ = some (.slice ao' L cap') ∧ Below w.heap.size w wr)
  case atStart => exact ⟨0, 0, rfl, rfl, rfl, by rw [List.take_zero, deepL]; omega, by simp, c0⟩
  case round =>
    obtain ⟨i, y, hg, rfl, rfl, hy, hcell, hb⟩ := hrel
    by_cases hlt : i < L
    · have ii : (i : Int) < (L : Int) := by omega
      by_cases hm1 : y < m - 1
      · have iy : (y : Int) < (m : Int) - 1 := by omega
        have hT := HK.out.keep hb
        obtain ⟨ao', cap'', he, -, -, -, -, hk⟩ := Tr.inv hT
        have hi : i < kids.length := by rw [HL.out]; exact hlt
        obtain ⟨b, o, d0, d1, d2, d3, d4, d5, d6, ha, q0, q1, q2, q3, q4, q5, q6, hTi⟩ := hk i hi
        simp only [encX, List.cons.injEq, Value.slice.injEq, and_true, true_and] at he
        obtain ⟨rfl, -, rfl⟩ := he
        subst ha
        obtain ⟨z, hz⟩ := hTi.shape
        simp only [encX, List.cons.injEq, and_true] at hz
        obtain ⟨rfl, rfl, rfl, rfl, rfl, rfl, rfl⟩ := hz
        have C := Lib.hid (IH.out _ (List.getElem_mem hi) z (m - 1) _ hTi (by omega) (by omega))
        have HS := Lib.hid (show max y (min (deep kids[i]) (m - 1)) = min (deepL (kids.take (i + 1))) (m - 1) by
          rw [deepL_take kids i hi, hy]; omega)
        clear hT hTi hk hy
        generalize min (deep kids[i]) (m - 1) = u at *
        have imx : (if (y : Int) < (u : Int) then (u : Int) else (y : Int)) = ((max y u : Nat) : Int) := by split <;> omega
        go_wp2_with fail
        (with_reducible refine C.out.mono ?_); rintro e w2 ⟨rfl, hb2⟩
        go_wp2_with fail
        · go_roundg (L - (i + 1))
          case rel => exact ⟨i + 1, u, by omega, by go_num, rfl, by have := HS.out; omega, (hb2.cell (block_lt_of_cell hcell)).trans hcell, Below.chain hb hb2⟩
          case measure => omega
        · go_roundg (L - (i + 1))
          case rel => exact ⟨i + 1, y, by omega, by go_num, rfl, by have := HS.out; omega, (hb2.cell (block_lt_of_cell hcell)).trans hcell, Below.chain hb hb2⟩
          case measure => omega
      · have iy : ¬ ((y : Int) < (m : Int) - 1) := by omega
        have hr : min Z m = y + 1 := by
          have h1 := deepL_le kids i
          rw [HZ.out]; omega

        go_wp2_with fail
        go_ret
        exact ⟨rfl, hb⟩
    · obtain rfl : L = i := by omega
      have ii : ¬ ((L : Int) < (L : Int)) := by omega
      have hr : min Z m = y + 1 := by
        have ht : kids.take L = kids := List.take_of_length_le (by rw [HL.out]; exact Nat.le_refl _)
        rw [HZ.out, hy, ht]; omega

      go_wp2_with fail
      go_ret
      exact ⟨rfl, hb⟩
theorem xdepth_any (t : Ex) (x : Xc) (w : World) (h : Tx w t x) : Calls Try.prog 16 #[xv x] w fun e w' => e = .returned (.int .i64 ((min (deep t) 51 : Nat) : Int)) ∧ Below w.heap.size w w' := by
  have c0 := below_a1 w (.cells #[.int .i64 x.kind, .string x.name, .int .i64 x.v.k, .int .i64 x.v.n, .float .f64 x.v.f, .string x.v.s, .slice x.ao x.len x.cap] 27)
  have C := Lib.hid (depth_any t x 51 _ (h.keep c0) (by decide) (by decide))
  clear h
  generalize min (deep t) 51 = r at *
  go_enter Try.func16, Try.ntmps16
  go_wp2_with fail
  refine C.out.mono ?_; rintro e w2 ⟨rfl, hb2⟩
  go_wp2_with fail
  go_ret
  exact ⟨rfl, Below.chain c0 hb2⟩
end Go.Proofs.Ytfhnjilflffdfaa
