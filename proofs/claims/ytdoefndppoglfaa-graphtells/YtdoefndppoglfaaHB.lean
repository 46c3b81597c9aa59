import Derived.Test.YtdoefndppoglfaaHA
namespace Go.Proofs.Ytdoefndppoglfaa
open Go Go.ChangeShapes Go.WideShapes Go.ChangeAt Go.RowKit
open Go.Joins
set_option linter.unusedVariables false
theorem info_s7 : (Try.prog.info? 64).map (fun i => (i.zero, i.size, i.bytes)) = some (some (.agg #[.int .i64 0, .int .i64 0]), 2, 16) := by kernel_rfl
abbrev OwT := Ow encT 64
theorem outL_take {dir : Int} {l : List Ld} {i : Nat} (h : i < l.length) : outL dir (l.take (i + 1)) = outL dir (l.take i) ++ (if bitB dir l[i].2.2 = true then [(l[i].1, l[i].2.1)] else []) := by
  rw [List.take_succ_eq_append_getElem h, outL_app]
  congr 1
  unfold outL
  by_cases hb : bitB dir l[i].2.2 = true
  · simp [hb]
  · simp [hb]
theorem outL_len (dir : Int) (l : List Ld) : (outL dir l).length ≤ l.length := by
  unfold outL
  rw [List.length_map]
  exact List.length_filter_le ..
theorem RwL.at {w : World} {ao : Option Addr} {n cap : Nat} {l : List Ld} (h : RwL w (.slice ao n cap) l) (i : Nat) (hi : i < l.length) :
    ∃ b o, ao = some ⟨b, o, none⟩ ∧ w.cell? ⟨b, o + i * 3, none⟩ = some (.int .i64 l[i].1) ∧ w.cell? ⟨b, o + i * 3 + 1, none⟩ = some (.int .i64 l[i].2.1) ∧ w.cell? ⟨b, o + i * 3 + 2, none⟩ = some (.int .i64 l[i].2.2) := by
  obtain ⟨ao', cap', he, -, -, -, h5⟩ := h
  cases he
  obtain ⟨b, o, ha, hc⟩ := h5 i hi
  exact ⟨b, o, ha, hc 0 (by omega), hc 1 (by omega), hc 2 (by omega)⟩
set_option maxRecDepth 100000 in
set_option maxHeartbeats 4000000 in
/-- Out: all that lead from a node -/
theorem out7_any {g : Gd} {p : Nat} {w : World} (h : Ix w p g) (hm : g.edges.length ≤ 1000) (node dir : Int) :
    Calls Try.prog 14 #[pv p, .int .i64 node, .int .i64 dir] w fun e w' => ∃ v, e = .returned v ∧ OwT w' w.heap.size v (outG g node dir) ∧ Below w.heap.size w w' := by
  obtain ⟨x, m1, m2, ls, hv, -, -, -, ⟨rows, r1, rn, rr⟩, hn⟩ := h
  have c4 := hv.cell 4
  obtain ⟨la, ln, lc⟩ := ls
  dsimp only at hn
  subst hn
  simp only [List.getElem?_toArray, List.getElem?_cons_zero, List.getElem?_cons_succ, Sl.v] at c4
  have C1 := Lib.hid (isplace_any node g.nodes.length w)
  by_cases hN : 0 ≤ node ∧ node < g.nodes.length
  · obtain ⟨k, rfl⟩ : ∃ k : Nat, node = (k : Int) := ⟨node.toNat, by omega⟩
    have hp : placeB (k : Int) g.nodes.length = true := by simp [placeB]; omega
    rw [hp] at C1
    have hk : k < rows.length := by rw [rn]; omega
    have hO := outL_outG g k dir hN
    have hrow := rr k hk
    obtain ⟨ao', cap', he, -, -, -, h5⟩ := r1
    dsimp only [Sl.v] at he
    rw [rn] at he
    cases he
    obtain ⟨b, o, rfl, hc⟩ := h5 k hk
    have q0 := hc 0 (by omega)
    simp only [encR, List.getElem?_cons_zero, Nat.mul_one, Nat.add_zero] at q0
    have HRow := Lib.hid hrow
    have hi1 : (k : Int) < (g.nodes.length : Int) := hN.2
    have hi0 : (0 : Int) ≤ (k : Int) := hN.1
    have HLen := Lib.hid (show (rowOf (seqN g.edges g.edges.length) k).length ≤ 2000 by
      have := rowOf_len (seqN g.edges g.edges.length) k
      have := seqN_len g.edges g.edges.length
      omega)
    have HO := Lib.hid hO
    have hsz := block_lt_of_cell q0
    clear hp hN h5 hc rr hO hrow hm hv
    generalize rows[k]'_ = row at *
    clear hk rn
    obtain ⟨ra, rl, rc⟩ := row
    generalize rowOf (seqN g.edges g.edges.length) k = l at *
    dsimp only [Sl.v] at HRow q0
    have HL := Lib.hid (show l.length = rl from by
      obtain ⟨_, _, e, -⟩ := HRow.out
      cases e; rfl)
    have hrl : rl ≤ 2000 := by have := HLen.out; rw [HL.out] at this; exact this
    generalize outG g k dir = res at *
    generalize g.nodes.length = N at *
    go_enter Try.func14, Try.ntmps14
    go_wp2_with fail
    (with_reducible refine C1.out.mono ?_); rintro e w2 ⟨rfl, rfl⟩
    go_wp2_with fail
    go_loopg [7, 9, 26] rl (fun gg s7 s9 s26 wr => ∃ i : Nat, gg + i = rl ∧ s26 = .int .i64 i ∧ OwT wr w2.heap.size s7 (outL dir (l.take i)) ∧ Below w2.heap.size w2 wr)
    case atStart => exact ⟨0, rfl, rfl, Ow.nil _ _, Below.refl _ _⟩
    case round =>
      obtain ⟨i, hg, rfl, hOw, hb⟩ := hrel
      by_cases hlt : i < rl
      · have ii : (i : Int) < (rl : Int) := by omega
        have hi : i < l.length := by rw [HL.out]; exact hlt
        obtain ⟨b', o', rfl, z0, z1, z2⟩ := RwL.at (HRow.out.keep hb) i hi
        have HT := Lib.hid (outL_take (dir := dir) hi)
        have HLn := Lib.hid (show (outL dir (l.take i)).length ≤ 2000 by
          have := outL_len dir (l.take i)
          rw [List.length_take] at this
          have := HLen.out
          omega)
        have HOw := Lib.hid hOw
        have HRr := Lib.hid hOw.row
        have HB := Lib.hid hb
        clear hOw hb
        generalize outL dir (l.take i) = so at *
        generalize l[i] = y at *
        obtain ⟨ye, yt, yd⟩ := y
        dsimp only at z0 z1 z2 HT
        have hbit := bit_comm dir yd
        have B2 := Lib.hid (HB.out.alloc HB.out.size (.cells #[.int .i64 ye, .int .i64 yt, .int .i64 yd] 88))
        cases hbd : bitB dir yd
        · rw [hbd] at hbit HT
          rw [if_neg (by simp)] at HT
          clear hbd
          go_wp2_with fail
          go_roundg (rl - (i + 1))
          case rel => exact ⟨i + 1, by omega, by go_num, by rw [HT.out]; simpa using HOw.out.below (below_a1 _ _), B2.out⟩
          case measure => omega
        · rw [hbd] at hbit HT
          rw [if_pos rfl] at HT
          clear hbd
          have HO2 := Lib.hid (HOw.out.below (below_a1 wr (.cells #[.int .i64 ye, .int .i64 yt, .int .i64 yd] 88)))
          have HX1 := Lib.hid (show RwT ((wr.alloc (.cells #[.int .i64 ye, .int .i64 yt, .int .i64 yd] 88)).alloc (.cells #[.int .i64 ye, .int .i64 yt] 64)) (.slice (some ⟨wr.heap.size + 1, 0, none⟩) 1 1) [(ye, yt)] by
            have := (Ow.lit (E := encT) (e := 64) (wr.alloc (.cells #[.int .i64 ye, .int .i64 yt, .int .i64 yd] 88)) w2.heap.size [(ye, yt)] B2.out.size (by simp) #[.int .i64 ye, .int .i64 yt] rfl).rw
            simpa using this)
          go_wp2_with (at_builtin; refine wpList_append_wide (E := encT) rfl _ _ _ rfl Try.underlying36 info_s7 rfl (by decide) (by decide) rfl rfl (HO2.out.below (below_a1 _ _)) HX1.out (by have := HLn.out; simp; omega) (B2.out.alloc B2.out.size _).size ?_; intro v5 w5 hO5 hg5 hat5)
          go_roundg (rl - (i + 1))
          case rel => exact ⟨i + 1, by omega, by go_num, by rw [HT.out]; exact hO5, (B2.out.alloc B2.out.size _).trans (below_of_grown hg5 (B2.out.alloc B2.out.size _).size HRr.out)⟩
          case measure => omega
      · obtain rfl : rl = i := by omega
        have ii : ¬ ((rl : Int) < (rl : Int)) := by omega
        have HX := Lib.hid (show outL dir (l.take rl) = res by
          rw [List.take_of_length_le (by rw [HL.out]; exact Nat.le_refl _)]
          exact HO.out)
        have HOw := Lib.hid hOw
        clear hOw
        go_wp2_with fail
        go_ret
        exact ⟨_, rfl, by rw [← HX.out]; exact HOw.out, hb⟩
  · have hp : placeB node g.nodes.length = false := by
      unfold placeB
      rw [Bool.eq_false_iff]
      intro h
      rw [Bool.and_eq_true, decide_eq_true_eq, decide_eq_true_eq] at h
      exact hN h
    rw [hp] at C1
    have HX := Lib.hid (show outG g node dir = [] by
      unfold outG
      rw [if_neg hN])
    clear hp hN r1 rr rn hv
    generalize outG g node dir = res at *
    generalize g.nodes.length = N at *
    go_enter Try.func14, Try.ntmps14
    go_wp2_with fail
    (with_reducible refine C1.out.mono ?_); rintro e w2 ⟨rfl, rfl⟩
    go_wp2_with fail
    go_ret
    exact ⟨_, rfl, by rw [HX.out]; exact Ow.nil _ _, Below.refl _ _⟩
end Go.Proofs.Ytdoefndppoglfaa
