import Derived.Test.YtblehbcehfmnkaaLB
namespace Go.Proofs.Ytblehbcehfmnkaa
open Go Go.RowKit
set_option linter.unusedVariables false
theorem Ts.head {n : Nat} {w : World} {ao : Option Addr} {len cap : Nat} {l : List Int} (h : Ts n w (.slice ao len cap) l) (c : Nat) (hc : c ≤ l.length) : Ts n w (.slice ao c cap) (l.take c) := by
  obtain ⟨ao', cap', he, k2, k3, k4, k5⟩ := h
  cases he
  have hlen : (l.take c).length = c := by simp; omega
  refine ⟨ao, cap, by rw [hlen], by omega, k3, k4, fun j u hj => ?_⟩
  have hj' : j < c := by have := (List.getElem?_eq_some_iff.1 hj).1; omega
  rw [List.getElem?_take, if_pos hj'] at hj
  exact k5 j u hj
theorem pair_ts (w : World) (x y : Int) : Ts (w.alloc (.cells #[.int .i64 x, .int .i64 y] 27)).heap.size (w.alloc (.cells #[.int .i64 x, .int .i64 y] 27)) (.slice (some ⟨w.heap.size, 0, none⟩) 2 2) [x, y] :=
  (Own.lit w w.heap.size [x, y] (Nat.le_refl _) (by simp) _ rfl).ts
theorem pair_ts' (w : World) (o : Obj) (x y : Int) : Ts ((w.alloc o).alloc (.cells #[.int .i64 x, .int .i64 y] 27)).heap.size ((w.alloc o).alloc (.cells #[.int .i64 x, .int .i64 y] 27)) (.slice (some ⟨w.heap.size + 1, 0, none⟩) 2 2) [x, y] := by
  have h := pair_ts (w.alloc o) x y
  have e : (w.alloc o).heap.size = w.heap.size + 1 := by simp
  rw [e] at h; exact h
theorem one_ts (w : World) (x : Int) : Ts (w.alloc (.cells #[.int .i64 x] 27)).heap.size (w.alloc (.cells #[.int .i64 x] 27)) (.slice (some ⟨w.heap.size, 0, none⟩) 1 1) [x] :=
  (Own.lit w w.heap.size [x] (Nat.le_refl _) (by simp) _ rfl).ts
set_option maxHeartbeats 1000000 in
theorem shown_any (w : World) : Calls Try.prog 9 #[] w fun e w' => e = .returned (.bool true) ∧ Below w.heap.size w w' := by
  have A1 := Lib.hid (fun w => show Calls Try.prog 15 _ _ fun e w' => e = .returned (.int .i64 2) ∧ _ = w' from and_any [1, 2] _ _ _ (pair_ts w 1 2))
  have A2 := Lib.hid (fun w o => show Calls Try.prog 15 _ _ fun e w' => e = .returned (.int .i64 0) ∧ _ = w' from and_any [0, 2] _ _ _ (pair_ts' w o 0 2))
  have A3 := Lib.hid (fun w => show Calls Try.prog 17 _ _ fun e w' => e = .returned (.int .i64 0) ∧ _ = w' from or_any [] _ _ w (Ts.nil 0 _))
  have A4 := Lib.hid (fun w => show Calls Try.prog 15 _ _ fun e w' => e = .returned (.int .i64 1) ∧ _ = w' from and_any [] _ _ w (Ts.nil 0 _))
  go_enter Try.func9, Try.ntmps9
  go_wp2_with fail
  refine (of_any 1 1 0 ⟨#[]⟩ _).mono ?_; rintro e w1 ⟨rfl, hb1⟩
  rw [show ofR 1 1 = .tuple #[.int .i64 1, .int .i64 0] from rfl]
  go_wp2_with fail
  refine (of_any 2 1 0 ⟨#[]⟩ _).mono ?_; rintro e w2 ⟨rfl, hb2⟩
  rw [show ofR 2 1 = .tuple #[.int .i64 2, .int .i64 4] from rfl]
  go_wp2_with fail
  (with_reducible refine (A1.out _).mono ?_); rintro e w3 ⟨rfl, rfl⟩
  go_wp2_with fail
  (with_reducible refine (A2.out _ _).mono ?_); rintro e w3 ⟨rfl, rfl⟩
  go_wp2_with fail
  (with_reducible refine (A3.out _).mono ?_); rintro e w3 ⟨rfl, rfl⟩
  go_wp2_with fail
  (with_reducible refine (A4.out _).mono ?_); rintro e w3 ⟨rfl, rfl⟩
  go_wp2_with fail
  go_ret
  exact ⟨rfl, (Below.chain (Below.chain hb1 hb2) (below_a1 _ _)).alloc (by have := hb1.size; have := hb2.size; simp; omega) _⟩
set_option maxHeartbeats 1000000 in
theorem truths_any (l : List Int) (v : Value) (w : World) (h : Ts w.heap.size w v l) :
    Calls Try.prog 12 #[v] w fun e w' => ∃ v1 v2, e = .returned (.tuple #[v1, v2]) ∧ Own w' w.heap.size v1 (l.take 100) ∧ Ts w'.heap.size w' v2 (l.take 100) ∧ Below w.heap.size w w' := by
  obtain ⟨ao, cap, rfl, h2, h3, h4, h5⟩ := id h
  obtain ⟨m, hm⟩ : ∃ m, m = min l.length 100 := ⟨_, rfl⟩
  have hmc : (m : Int) ≤ (cap : Int) := by omega
  have HH := Lib.hid (h.head m (by omega))
  have htk : l.take 100 = l.take m := by
    rw [hm]
    by_cases h : l.length ≤ 100
    · rw [List.take_of_length_le h, List.take_of_length_le (by omega)]
    · rw [Nat.min_eq_right (by omega)]
  rw [htk]
  have H5 := Lib.hid (show ∀ j u, (l.take m)[j]? = some u → ∃ a, ao = some a ∧ a.block < w.heap.size ∧ w.cell? (a.add j) = some (.int .i64 u) from fun j u hj => by
    have hj' : j < m := by have := (List.getElem?_eq_some_iff.1 hj).1; simp at this; omega
    rw [List.getElem?_take, if_pos hj'] at hj
    exact h5 j u hj)
  simp only [maxLen] at h3
  have hml : (l.take m).length = m := by simp; omega
  have HML := Lib.hid hml
  have hm100 : m ≤ 100 := by omega
  clear h5 hml htk h
  generalize l.take m = t at *
  generalize l.length = L at *
  by_cases h100 : (100 : Int) < (L : Int)
  · obtain rfl : m = 100 := by omega
    clear hm
    go_enter Try.func12, Try.ntmps12
    go_wp2_with fail
    go_loopg [4, 5] 100 (fun g s4 s5 wr => ∃ i : Nat, g + i = 100 ∧ s5 = .int .i64 i ∧ Own wr w.heap.size s4 (t.take i) ∧ Below w.heap.size w wr)
    case atStart => exact ⟨0, rfl, rfl, Own.nil _ _, Below.refl _ _⟩
    case round =>
      obtain ⟨i, hg, rfl, hO, hb⟩ := hrel
      by_cases hlt : i < 100
      · have hi : i < t.length := by rw [HML.out]; exact hlt
        obtain ⟨a, rfl, hab, hcell⟩ := H5.out i t[i] (List.getElem?_eq_getElem hi)
        have hcr : wr.cell? (a.add i) = some (.int .i64 t[i]) := (hb.cell (by rw [add_block]; exact hab)).trans hcell
        have ii : (i : Int) < (100 : Int) := by omega
        have HT := Lib.hid (List.take_succ_eq_append_getElem hi)
        generalize t[i] = x at *
        have hlen : (t.take i).length ≤ 100 := by simp; omega
        obtain ⟨av, cv, rfl⟩ := hO.shape
        have hrow := hO.row
        generalize t.take i = ti at *
        have hzb := hb.size
        have HO := Lib.hid (hO.below (below_a1 _ (.cells #[.int .i64 x] 27)))
        have HR := Lib.hid hrow
        generalize hn : ti.length = n at *
        have HN := Lib.hid hn
        clear hn hO hrow
        go_wp2_with (at_builtin; refine wpList_append_ts rfl _ _ rfl (m := [x]) rfl rfl HO.out (one_ts wr x) (by have := HN.out; simp; omega) (by simp; omega) ?_; intro v2 w2 hO2 hg2)
        go_roundg (100 - (i + 1))
        case rel => exact ⟨i + 1, by omega, by go_num, by rw [HT.out]; exact hO2, (hb.alloc hb.size _).trans (below_of_grown hg2 (by simp; omega) HR.out)⟩
        case measure => omega
      · obtain rfl : 100 = i := by omega
        have ht : t.take 100 = t := List.take_of_length_le (by rw [HML.out]; exact Nat.le_refl _)
        rw [ht] at hO
        go_wp2_with fail
        go_ret2
        exact ⟨_, _, rfl, hO, HH.out.later hb, hb⟩
  · obtain rfl : L = m := by omega
    clear hm
    go_enter Try.func12, Try.ntmps12
    go_wp2_with fail
    go_loopg [4, 5] L (fun g s4 s5 wr => ∃ i : Nat, g + i = L ∧ s5 = .int .i64 i ∧ Own wr w.heap.size s4 (t.take i) ∧ Below w.heap.size w wr)
    case atStart => exact ⟨0, rfl, rfl, Own.nil _ _, Below.refl _ _⟩
    case round =>
      obtain ⟨i, hg, rfl, hO, hb⟩ := hrel
      by_cases hlt : i < L
      · have hi : i < t.length := by rw [HML.out]; exact hlt
        obtain ⟨a, rfl, hab, hcell⟩ := H5.out i t[i] (List.getElem?_eq_getElem hi)
        have hcr : wr.cell? (a.add i) = some (.int .i64 t[i]) := (hb.cell (by rw [add_block]; exact hab)).trans hcell
        have ii : (i : Int) < (L : Int) := by omega
        have HT := Lib.hid (List.take_succ_eq_append_getElem hi)
        generalize t[i] = x at *
        have hlen : (t.take i).length ≤ 100 := by simp; omega
        obtain ⟨av, cv, rfl⟩ := hO.shape
        have hrow := hO.row
        generalize t.take i = ti at *
        have hzb := hb.size
        have HO := Lib.hid (hO.below (below_a1 _ (.cells #[.int .i64 x] 27)))
        have HR := Lib.hid hrow
        generalize hn : ti.length = n at *
        have HN := Lib.hid hn
        clear hn hO hrow
        go_wp2_with (at_builtin; refine wpList_append_ts rfl _ _ rfl (m := [x]) rfl rfl HO.out (one_ts wr x) (by have := HN.out; simp; omega) (by simp; omega) ?_; intro v2 w2 hO2 hg2)
        go_roundg (L - (i + 1))
        case rel => exact ⟨i + 1, by omega, by go_num, by rw [HT.out]; exact hO2, (hb.alloc hb.size _).trans (below_of_grown hg2 (by simp; omega) HR.out)⟩
        case measure => omega
      · obtain rfl : L = i := by omega
        have ht : t.take L = t := List.take_of_length_le (by rw [HML.out]; exact Nat.le_refl _)
        rw [ht] at hO
        go_wp2_with fail
        go_ret2
        exact ⟨_, _, rfl, hO, HH.out.later hb, hb⟩
end Go.Proofs.Ytblehbcehfmnkaa
