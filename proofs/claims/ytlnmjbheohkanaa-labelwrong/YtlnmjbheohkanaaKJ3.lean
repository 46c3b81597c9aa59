import Derived.Test.YtlnmjbheohkanaaKJ2
namespace Go.Proofs.Ytlnmjbheohkanaa
open Go Go.RowKit
set_option linter.unusedVariables false
theorem lnames_bad (x : Xc) (w : World) (C : ∀ w1, Below w.heap.size w w1 → Calls Try.prog 19 #[xv x] w1 fun e w' => e = .returned (.bool false) ∧ Below w1.heap.size w1 w') :
    Calls Try.prog 15 #[xv x] w fun e w' => e = .returned (.slice none 0 0) ∧ Below w.heap.size w w' := by
  have c0 := below_a1 w (.cells (xcs x) 28)
  have C1 := Lib.hid (C _ c0)
  clear C
  go_enter Try.func15, Try.ntmps15
  go_wp2_with fail
  (with_reducible refine C1.out.mono ?_); rintro e w2 ⟨rfl, hb2⟩
  go_wp2_with fail
  go_ret
  exact ⟨rfl, Below.chain c0 hb2⟩
set_option maxHeartbeats 2000000 in
theorem lnames_ok (t : Ex) (x : Xc) (w : World) (hT : Tx w t x) (hn : (namesT t).length ≤ 1000) (C : ∀ w1, Below w.heap.size w w1 → Calls Try.prog 19 #[xv x] w1 fun e w' => e = .returned (.bool true) ∧ Below w1.heap.size w1 w') :
    Calls Try.prog 15 #[xv x] w fun e w' => ∃ u m, e = .returned u ∧ OwS w' w.heap.size u m ∧ m.map byt = Lib.compact (((namesT t).map byt).mergeSort fun x y => decide (x ≤ y)) ∧ Below w.heap.size w w' := by
  have c0 := below_a1 w (.cells (xcs x) 28)
  have Lz := Lib.hid (lies7_new w x 28 (xcs x) rfl)
  have C1 := Lib.hid (C _ c0)
  have HT := Lib.hid (hT.keep c0)
  have HN := Lib.hid hn
  have hsf := fun a m w p q => run_store Try.prog w a (clo p q) m rfl
  clear C hT hn
  go_enter Try.func15, Try.ntmps15
  go_wp2_with fail
  (with_reducible refine C1.out.mono ?_); rintro e w2 ⟨rfl, hb2⟩
  have cB := Below.chain c0 hb2
  have b2 : Below w2.heap.size w2 ((w2.alloc (.cells #[.slice none 0 0] 22)).alloc (.cells #[clo w2.heap.size (w2.heap.size + 1)] 51)) := below_a2 _ _ _
  have hTw := HT.out.keep hb2
  have ⟨y0, y1, y2, y3, y4, y5, y6⟩ := (Lz.out.keep hb2).at
  have hlt : w.heap.size < w2.heap.size := block_lt_of_cell y0
  have P2 : Vr ((w2.alloc (.cells #[.slice none 0 0] 22)).alloc (.cells #[clo w2.heap.size (w2.heap.size + 1)] 51)) w2.heap.size 22 #[.slice none 0 0] := Vr.al (Vr.new w2 _ _)
  have Q2 : Vr ((w2.alloc (.cells #[.slice none 0 0] 22)).alloc (.cells #[clo w2.heap.size (w2.heap.size + 1)] 51)) (w2.heap.size + 1) 51 #[clo w2.heap.size (w2.heap.size + 1)] := Vr.at' _ _ _ _ (by simp)
  have E := Lib.hid (gather_any w2 w2.heap.size (w2.heap.size + 1) (Nat.le_refl _) (by omega) t x _ (.slice none 0 0) [] hTw b2 (Ow.nil _ _) P2 Q2 (by simp [Value.ownBlock]) (by simp [Value.ownBlock]) (by rw [List.nil_append]; exact HN.out))
  have PS := Lib.hid P2.lt
  have SZ := Lib.hid cB.size
  have HB2 := Lib.hid b2
  clear P2 Q2 hTw b2
  go_wp2_with fail
  (with_reducible refine E.out.mono ?_); rintro e w5 ⟨rfl, v, hO, hP, hK⟩
  rw [List.nil_append] at hO
  have p0 : w5.cell? ⟨w2.heap.size, 0, none⟩ = some v := hP.cell 0
  have hvp : v.ownBlock ≠ some w2.heap.size := fun e => by
    rcases hK.own _ e with h | h
    · simp [Value.ownBlock] at h
    · have := PS.out; omega
  have B5 := Lib.hid (HB2.out.trans hK.below)
  have S := Lib.hid (lsort_any w5 w2.heap.size v (namesT t) hO B5.out.size HN.out)
  have K5 := Lib.hid hK
  have P5 := Lib.hid hP
  have R5 := Lib.hid hO.row
  clear hO hK hP
  go_wp2_with fail
  (with_reducible refine S.out.mono ?_); rintro e w6 ⟨rfl, m, hO6, hm, hg⟩
  have P6 := Lib.hid (P5.out.grown hg (fun e => hvp e.symm))
  have B6 := Lib.hid (B5.out.trans ((Below.refl w2.heap.size w5).grown hg B5.out.size R5.out))
  have q0 : w6.cell? ⟨w2.heap.size, 0, none⟩ = some v := P6.out.cell 0
  have hml : m.length ≤ 1000 := by
    have : (m.map byt).length = ((namesT t).map byt).length := by rw [hm]; exact List.length_mergeSort _
    simp at this
    have := HN.out; omega
  have D := Lib.hid (lcompact_any w6 w2.heap.size v m hO6 B6.out.size hml)
  have HM := Lib.hid hm
  clear hO6 hg hm hml p0
  go_wp2_with fail
  (with_reducible refine D.out.mono ?_); rintro e w7 ⟨u, rfl, m', hO7, hm', hb7⟩
  have hb67 := B6.out.trans hb7
  go_wp2_with fail
  go_ret
  exact ⟨u, m', rfl, hO7.base SZ.out, by rw [hm', HM.out], cB.trans (hb67.mono SZ.out)⟩
theorem lnames_any (t : Ex) (x : Xc) (w : World) (h : Tx w t x) (hn : rightL t = true → (namesT t).length ≤ 1000) :
    Calls Try.prog 15 #[xv x] w fun e w' => ∃ u, e = .returned u ∧ OwS w' w.heap.size u (namesL t) ∧ Below w.heap.size w w' := by
  have C := fun w1 (hb : Below w.heap.size w w1) => lright_any t x w1 (h.keep hb)
  cases hr : rightL t
  · rw [hr] at C
    refine (lnames_bad x w C).mono fun e w' hh => ?_
    obtain ⟨rfl, hb⟩ := hh
    exact ⟨_, rfl, by rw [namesL_bad hr]; exact Ow.nil _ _, hb⟩
  · rw [hr] at C
    refine (lnames_ok t x w h (hn hr) C).mono fun e w' hh => ?_
    obtain ⟨u, m, rfl, hO, hm, hb⟩ := hh
    refine ⟨u, rfl, ?_, hb⟩
    have : m = namesL t := map_byt_inj (by rw [hm, namesL_sorted hr])
    rw [← this]; exact hO
theorem namesT_few (t : Ex) (h : cnt t ≤ 300) : (namesT t).length ≤ 1000 := by
  have := namesT_len t
  unfold cnt at h
  omega
end Go.Proofs.Ytlnmjbheohkanaa
