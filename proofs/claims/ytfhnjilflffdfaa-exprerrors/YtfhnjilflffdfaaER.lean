import Derived.Test.YtfhnjilflffdfaaEQ
namespace Go.Proofs.Ytfhnjilflffdfaa
open Go Go.RowKit
set_option linter.unusedVariables false
def encS : Enc ByteArray 1 where
  enc s := [.string s]
  len s := rfl
  one s u hu := by
    have : u = .string s := by simpa using hu
    rw [this]; rfl
theorem info_str : (Try.prog.info? 9).map (fun i => (i.zero, i.size, i.bytes)) = some (some (.string ⟨#[]⟩), 1, 16) := by kernel_rfl
abbrev OwS := Ow encS 9
abbrev RwS := Rw encS
theorem names_app (l m : List Ex) : namesL (l ++ m) = namesL l ++ namesL m := by
  induction l with
  | nil => rw [namesL]; rfl
  | cons x l ih => rw [List.cons_append, namesL, namesL, ih, List.append_assoc]
theorem names_len : ∀ t : Ex, (namesE t).length ≤ t.sz := by
  have aux : ∀ l : List Ex, (∀ t ∈ l, (namesE t).length ≤ t.sz) → (namesL l).length ≤ szL l := by
    intro l
    induction l with
    | nil => intro _; rw [namesL, szL]; exact Nat.le_refl _
    | cons x l ih =>
      intro h
      rw [namesL, szL, List.length_append]
      have := h x (by simp)
      have := ih (fun t ht => h t (by simp [ht]))
      omega
  refine ex_ind fun kind name v kids ih => ?_
  rw [namesE, Ex.sz, List.length_append]
  have := aux kids ih
  have : (if kind = 2 then [name] else []).length ≤ 1 := by split <;> simp
  omega
theorem szL_take (l : List Ex) (i : Nat) : szL (l.take i) ≤ szL l := by
  have : szL l = szL (l.take i) + szL (l.drop i) := by rw [← szL_app, List.take_append_drop]
  omega
theorem namesL_len (l : List Ex) : (namesL l).length ≤ szL l := by
  have := names_len (.node 0 ⟨#[]⟩ default l)
  rw [namesE, Ex.sz, List.length_append, if_neg (by decide)] at this
  have h2 : (namesL l).length ≤ 1 + szL l := by simpa using this
  induction l with
  | nil => rw [namesL]; simp
  | cons x l ih =>
    rw [namesL, szL, List.length_append]
    have a := names_len x
    have b : (namesL l).length ≤ szL l := by
      refine ih ?_ ?_
      · have := names_len (.node 0 ⟨#[]⟩ default l)
        rw [namesE, Ex.sz, List.length_append, if_neg (by decide)] at this
        exact this
      · have := names_len (.node 0 ⟨#[]⟩ default l)
        rw [namesE, Ex.sz, List.length_append, if_neg (by decide)] at this
        simpa using this
    omega
set_option maxHeartbeats 4000000 in
theorem names_any : ∀ (t : Ex), t.sz ≤ 100000 → ∀ (x : Xc) (w : World), Tx w t x →
    Calls Try.prog 20 #[xv x] w fun e w' => ∃ v, e = .returned v ∧ OwS w' w.heap.size v (namesE t) ∧ Below w.heap.size w w' := by
  refine fun t => ex_ind (P := fun t => t.sz ≤ 100000 → ∀ (x : Xc) (w : World), Tx w t x → Calls Try.prog 20 #[xv x] w fun e w' => ∃ v, e = .returned v ∧ OwS w' w.heap.size v (namesE t) ∧ Below w.heap.size w w') ?_ t
  intro kind name v kids ih hz x w h
  have HX := Lib.hid h
  obtain ⟨e1, e2, e3, hv, xs, hr, hk⟩ := h.inv
  obtain ⟨xk, xn, xvv, ao, len, cap⟩ := x
  dsimp only at e1 e2 e3 hr
  subst e1 e2 e3
  have hlen : len = kids.length := by
    obtain ⟨_, _, he, _⟩ := hr
    cases he; exact hk.1.symm
  have hcm : cap ≤ 9223372036854775807 ∧ len ≤ cap := by
    obtain ⟨_, _, he, h2, h3, _⟩ := hr
    cases he; simp only [maxLen] at h3; exact ⟨by omega, h2⟩
  obtain ⟨hcm, hlc⟩ := hcm
  have HL := Lib.hid hlen
  have IH := Lib.hid ih
  rw [Ex.sz] at hz
  have HZ := Lib.hid hz
  have HN := Lib.hid (show namesE (.node xk xn xvv kids) = (if xk = 2 then [xn] else []) ++ namesL kids by rw [namesE])
  have HR := Lib.hid hr
  have HK := Lib.hid hk
  clear h hr hk hlen ih hz
  generalize namesE (.node xk xn xvv kids) = NN at *
  by_cases hk2 : xk = 2
  · subst hk2
    rw [if_pos rfl] at HN
    obtain ⟨wA, hA⟩ : ∃ wA, wA = w.alloc (.cells #[.int .i64 2, .string xn, .int .i64 xvv.k, .int .i64 xvv.n, .float .f64 xvv.f, .string xvv.s, .slice ao len cap] 27) := ⟨_, rfl⟩
    have BA := Lib.hid (show Below w.heap.size w wA from hA ▸ below_a1 _ _)
    have SA := Lib.hid (show wA.heap.size = w.heap.size + 1 by rw [hA]; simp)
    have cA : wA.cell? ⟨w.heap.size, 6, none⟩ = some (.slice ao len cap) := by rw [hA]; simp
    have cB : wA.cell? ⟨w.heap.size, 1, none⟩ = some (.string xn) := by rw [hA]; simp
    have cC : wA.cell? ⟨w.heap.size, 0, none⟩ = some (.int .i64 2) := by rw [hA]; simp
    go_enter Try.func20, Try.ntmps20
    go_upto_region 1 with fail
    rw [← hA]
    clear hA
    go_wp2_with (at_builtin; refine wpList_append_rw (E := encS) rfl _ _ _ rfl Try.underlying41 info_str rfl (by decide) (by decide) rfl rfl (Ow.nil _ wA.heap.size) (Ow.lit (E := encS) (e := 9) wA wA.heap.size [xn] (Nat.le_refl _) (by simp) _ rfl).rw (by simp) (by simp) ?_; intro v3 w3 hO3 hg3 hat3)
    have b3 := (below_a1 wA (.cells #[.string xn] 9)).trans (below_of_grown hg3 (by simp) (fun k hk => by cases hk))
    rw [List.nil_append, SA.out] at hO3
    have cD := (b3.cell (block_lt_of_cell cA)).trans cA
    have bD := Below.chain BA.out b3
    clear hg3 hat3 b3 cA cB cC
    go_loopg [3, 4] len (fun g s3 s4 wr => ∃ (i : Nat), g + i = len ∧ s4 = .int .i64 i ∧ OwS wr (w.heap.size + 1) s3 ([xn] ++ namesL (kids.take i)) ∧ wr.cell? ⟨w.heap.size, 6, none⟩ = some (.slice ao len cap) ∧ Below w.heap.size w wr)
    case atStart => exact ⟨0, rfl, rfl, by rw [List.take_zero, namesL]; exact hO3, cD, bD⟩
    case round =>
      obtain ⟨i, hg, rfl, hO, hcell, hb⟩ := hrel
      by_cases hlt : i < len
      · have ii : (i : Int) < (len : Int) := by omega
        have hi : i < kids.length := by rw [← HL.out]; exact hlt
        have hi' : i < xs.length := by rw [← HK.out.1]; exact hi
        obtain ⟨_, _, he, -, -, -, h5⟩ := HR.out.keep hb
        obtain ⟨b, o, ha, hc⟩ := h5 i hi'
        simp only [Value.slice.injEq] at he
        obtain ⟨rfl, hxl, rfl⟩ := he
        subst ha
        clear hxl
        have q0 := hc 0 (by omega)
        have q1 := hc 1 (by omega)
        have q2 := hc 2 (by omega)
        have q3 := hc 3 (by omega)
        have q4 := hc 4 (by omega)
        have q5 := hc 5 (by omega)
        have q6 := hc 6 (by omega)
        simp only [encX, List.getElem?_cons_zero, List.getElem?_cons_succ, Nat.add_zero] at q0 q1 q2 q3 q4 q5 q6
        have hTi := (HK.out.keep hb).2 i hi hi'
        have hzk : kids[i].sz ≤ 100000 := by have := sz_mem (List.getElem_mem hi); have := HZ.out; omega
        have C := Lib.hid (IH.out _ (List.getElem_mem hi) hzk _ _ hTi)
        have HS := Lib.hid (show namesL (kids.take (i + 1)) = namesL (kids.take i) ++ namesE kids[i] by
          rw [List.take_succ_eq_append_getElem hi, names_app, namesL, namesL, List.append_nil])
        have hln : ([xn] ++ namesL (kids.take i)).length + (namesE kids[i]).length ≤ 1000000 := by
          have h1 := namesL_len (kids.take i)
          have h2 := szL_take kids i
          have h3 := names_len kids[i]
          have h4 := HZ.out
          simp only [List.length_append, List.length_cons, List.length_nil]
          omega
        have HLn := Lib.hid hln
        have HO := Lib.hid hO
        have hzb := hb.size
        clear hTi hc hln hO h5 hzk
        generalize xs[i] = xi at *
        obtain ⟨k0, n0, ⟨a1, a2, a3, a4⟩, aoi, leni, capi⟩ := xi
        dsimp only at q0 q1 q2 q3 q4 q5 q6
        go_wp2_with fail
        (with_reducible refine C.out.mono ?_); rintro e w2 ⟨v2, rfl, hO2, hb2⟩
        have hO' := HO.out.below hb2
        have b2 := Below.chain hb hb2
        have hcell2 := (hb2.cell (block_lt_of_cell hcell)).trans hcell
        go_wp2_with (at_builtin; refine wpList_append_rw (E := encS) rfl _ _ _ rfl Try.underlying41 info_str rfl (by decide) (by decide) rfl rfl hO' hO2.rw HLn.out (block_lt_of_cell hcell2) ?_; intro v5 w5 hO5 hg5 hat5)
        go_roundg (len - (i + 1))
        case rel => exact ⟨i + 1, by omega, by go_num, by rw [HS.out, ← List.append_assoc]; exact hO5, (hg5.cell hcell2 (fun e => by have h6 : w.heap.size + 1 ≤ w.heap.size := hO'.row _ e.symm; omega)), b2.trans (below_of_grown hg5 b2.size (fun k hk => Nat.le_of_succ_le (hO'.row k hk)))⟩
        case measure => omega
      · obtain rfl : len = i := by omega
        have ht : kids.take len = kids := List.take_of_length_le (by rw [← HL.out]; exact Nat.le_refl _)
        rw [ht] at hO
        go_wp2_with fail
        go_ret
        exact ⟨_, rfl, by rw [HN.out]; exact hO.base (Nat.le_succ _), hb⟩
  · rw [if_neg hk2] at HN
    have bk : (xk == 2) = false := by simpa using hk2
    go_enter Try.func20, Try.ntmps20
    go_wp2_with fail
    go_loopg [3, 4] len (fun g s3 s4 wr => ∃ (i : Nat), g + i = len ∧ s4 = .int .i64 i ∧ OwS wr (w.heap.size + 1) s3 ([] ++ namesL (kids.take i)) ∧ wr.cell? ⟨w.heap.size, 6, none⟩ = some (.slice ao len cap) ∧ Below w.heap.size w wr)
    case atStart => exact ⟨0, rfl, rfl, Ow.nil _ _, by simp, below_a1 _ _⟩
    case round =>
      obtain ⟨i, hg, rfl, hO, hcell, hb⟩ := hrel
      by_cases hlt : i < len
      · have ii : (i : Int) < (len : Int) := by omega
        have hi : i < kids.length := by rw [← HL.out]; exact hlt
        have hi' : i < xs.length := by rw [← HK.out.1]; exact hi
        obtain ⟨_, _, he, -, -, -, h5⟩ := HR.out.keep hb
        obtain ⟨b, o, ha, hc⟩ := h5 i hi'
        simp only [Value.slice.injEq] at he
        obtain ⟨rfl, hxl, rfl⟩ := he
        subst ha
        clear hxl
        have q0 := hc 0 (by omega)
        have q1 := hc 1 (by omega)
        have q2 := hc 2 (by omega)
        have q3 := hc 3 (by omega)
        have q4 := hc 4 (by omega)
        have q5 := hc 5 (by omega)
        have q6 := hc 6 (by omega)
        simp only [encX, List.getElem?_cons_zero, List.getElem?_cons_succ, Nat.add_zero] at q0 q1 q2 q3 q4 q5 q6
        have hTi := (HK.out.keep hb).2 i hi hi'
        have hzk : kids[i].sz ≤ 100000 := by have := sz_mem (List.getElem_mem hi); have := HZ.out; omega
        have C := Lib.hid (IH.out _ (List.getElem_mem hi) hzk _ _ hTi)
        have HS := Lib.hid (show namesL (kids.take (i + 1)) = namesL (kids.take i) ++ namesE kids[i] by
          rw [List.take_succ_eq_append_getElem hi, names_app, namesL, namesL, List.append_nil])
        have hln : ([] ++ namesL (kids.take i)).length + (namesE kids[i]).length ≤ 1000000 := by
          have h1 := namesL_len (kids.take i)
          have h2 := szL_take kids i
          have h3 := names_len kids[i]
          have h4 := HZ.out
          simp only [List.length_append, List.length_nil]
          omega
        have HLn := Lib.hid hln
        have HO := Lib.hid hO
        have hzb := hb.size
        clear hTi hc hln hO h5 hzk
        generalize xs[i] = xi at *
        obtain ⟨k0, n0, ⟨a1, a2, a3, a4⟩, aoi, leni, capi⟩ := xi
        dsimp only at q0 q1 q2 q3 q4 q5 q6
        go_wp2_with fail
        (with_reducible refine C.out.mono ?_); rintro e w2 ⟨v2, rfl, hO2, hb2⟩
        have hO' := HO.out.below hb2
        have b2 := Below.chain hb hb2
        have hcell2 := (hb2.cell (block_lt_of_cell hcell)).trans hcell
        go_wp2_with (at_builtin; refine wpList_append_rw (E := encS) rfl _ _ _ rfl Try.underlying41 info_str rfl (by decide) (by decide) rfl rfl hO' hO2.rw HLn.out (block_lt_of_cell hcell2) ?_; intro v5 w5 hO5 hg5 hat5)
        go_roundg (len - (i + 1))
        case rel => exact ⟨i + 1, by omega, by go_num, by rw [HS.out, ← List.append_assoc]; exact hO5, (hg5.cell hcell2 (fun e => by have h6 : w.heap.size + 1 ≤ w.heap.size := hO'.row _ e.symm; omega)), b2.trans (below_of_grown hg5 b2.size (fun k hk => Nat.le_of_succ_le (hO'.row k hk)))⟩
        case measure => omega
      · obtain rfl : len = i := by omega
        have ht : kids.take len = kids := List.take_of_length_le (by rw [← HL.out]; exact Nat.le_refl _)
        rw [ht] at hO
        go_wp2_with fail
        go_ret
        exact ⟨_, rfl, by rw [HN.out]; exact hO.base (Nat.le_succ _), hb⟩
end Go.Proofs.Ytfhnjilflffdfaa
