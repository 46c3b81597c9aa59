import Derived.Test.YtlnmjbheohkanaaKN1
import Derived.Deep.RegionWith
namespace Go.Proofs.Ytlnmjbheohkanaa
open Go Go.RowKit
set_option linter.unusedVariables false
theorem szL_app (l m : List Ex) : szL (l ++ m) = szL l + szL m := by
  induction l with
  | nil => rw [szL]; simp
  | cons x l ih => rw [List.cons_append, szL, szL, ih]; omega
theorem szL_take (l : List Ex) (i : Nat) (h : i < l.length) : szL (l.take (i + 1)) = szL (l.take i) + l[i].sz := by
  rw [List.take_succ_eq_append_getElem h, szL_app, szL, szL]; omega
theorem szL_part (l : List Ex) (i : Nat) : szL (l.take i) ≤ szL l := by
  have := szL_app (l.take i) (l.drop i)
  rw [List.take_append_drop] at this; omega
/-- how many parts, 301 at most -/
def cnt (t : Ex) : Nat := min t.sz 301
theorem cnt_le (t : Ex) : cnt t ≤ 301 := by unfold cnt; omega
set_option maxHeartbeats 1000000 in
theorem count6_core (kind : Int) (nm : ByteArray) (v : Vl) (ao : Option Addr) (L cap : Nat) (w : World) (kids : List Ex) (xs : List Xc) (hL : kids.length = L) (hr : RwX w (.slice ao L cap) xs) (hk : Txs w kids xs)
    (ih : ∀ t ∈ kids, ∀ (x : Xc) (w : World), Tx w t x → Calls Try.prog 12 #[xv x] w fun e w' => e = .returned (.int .i64 (cnt t : Nat)) ∧ Below w.heap.size w w') :
    Calls Try.prog 12 #[.agg #[.int .i64 kind, .string nm, .int .i64 v.k, .int .i64 v.n, .float .f64 v.f, .string v.s, .slice ao L cap]] w fun e w' => e = .returned (.int .i64 (min (1 + szL kids) 301 : Nat)) ∧ Below w.heap.size w w' := by
  have c0 := below_a1 w (.cells #[.int .i64 kind, .string nm, .int .i64 v.k, .int .i64 v.n, .float .f64 v.f, .string v.s, .slice ao L cap] 28)
  have Lz := Lib.hid (lies7_new w ⟨kind, nm, v, ao, L, cap⟩ 28 #[.int .i64 kind, .string nm, .int .i64 v.k, .int .i64 v.n, .float .f64 v.f, .string v.s, .slice ao L cap] rfl)
  have HR := Lib.hid (hr.keep c0)
  have HK := Lib.hid (hk.keep c0)
  have IH := Lib.hid ih
  have HL := Lib.hid hL
  have hLm : xs.length = L ∧ L ≤ 9223372036854775807 := by obtain ⟨a, c, e, e1, e2, -⟩ := hr; cases e; simp only [maxLen] at e2; exact ⟨rfl, by omega⟩
  have HX := Lib.hid hLm.1
  have hLm2 := hLm.2
  clear hr hk ih hL hLm
  go_enter Try.func12, Try.ntmps12
  go_wp2_with fail
  go_loopg [3, 4] L (fun g s3 s4 wr => ∃ (i n : Nat), g + i = L ∧ s4 = .int .i64 i ∧ s3 = .int .i64 n ∧ n ≤ 601 ∧ (n ≤ 300 → n = 1 + szL (kids.take i)) ∧ (300 < n → 300 < 1 + szL (kids.take i)) ∧ Below (w.alloc (.cells #[.int .i64 kind, .string nm, .int .i64 v.k, .int .i64 v.n, .float .f64 v.f, .string v.s, .slice ao L cap] 28)).heap.size (w.alloc (.cells #[.int .i64 kind, .string nm, .int .i64 v.k, .int .i64 v.n, .float .f64 v.f, .string v.s, .slice ao L cap] 28)) wr)
  case atStart => exact ⟨0, 1, rfl, rfl, rfl, by omega, fun _ => by rw [List.take_zero, szL], fun h => by omega, Below.refl _ _⟩
  case round =>
    obtain ⟨i, n, hg, rfl, rfl, hn6, hn1, hn2, hb⟩ := hrel
    have HN1 := Lib.hid hn1
    have HN2 := Lib.hid hn2
    clear hn1 hn2
    have ⟨y0, y1, y2, y3, y4, y5, y6⟩ := (Lz.out.keep hb).at
    by_cases hn3 : n ≤ 300
    · have n3 : (n : Int) ≤ 300 := by omega
      by_cases hlt : i < L
      · have ii : (i : Int) < (L : Int) := by omega
        have hi : i < kids.length := by rw [HL.out]; exact hlt
        have hix : i < xs.length := by rw [HX.out]; exact hlt
        have hRw := HR.out.keep hb
        have hT : Tx wr kids[i] xs[i] := (HK.out.2 i hi hix).keep hb
        obtain ⟨ao', cap', he, -, -, -, hc⟩ := hRw
        simp only [Value.slice.injEq] at he
        obtain ⟨rfl, -, rfl⟩ := he
        obtain ⟨b, o, rfl, hcell⟩ := hc i hix
        have z0 := hcell 0 (by decide)
        have z1 := hcell 1 (by decide)
        have z2 := hcell 2 (by decide)
        have z3 := hcell 3 (by decide)
        have z4 := hcell 4 (by decide)
        have z5 := hcell 5 (by decide)
        have z6 := hcell 6 (by decide)
        simp only [encX, List.getElem?_cons_zero, List.getElem?_cons_succ, Nat.add_zero] at z0 z1 z2 z3 z4 z5 z6
        have E := Lib.hid (IH.out _ (List.getElem_mem hi) xs[i] wr hT)
        have HF := Lib.hid (szL_take kids i hi)
        have HM := Lib.hid (show cnt kids[i] = min kids[i].sz 301 by rfl)
        clear hT hc hcell
        generalize xs[i] = z at *
        generalize cnt kids[i] = m at *
        generalize kids[i].sz = m' at *
        have hm : m ≤ 301 := by have := HM.out; omega
        go_wp2_with fail
        (with_reducible refine E.out.mono ?_); rintro e w4 ⟨rfl, hb4⟩
        go_wp2_with fail
        go_roundg (L - (i + 1))
        case rel => exact ⟨i + 1, n + m, by omega, by go_num, by go_num, by omega, fun h => by rw [HF.out]; have := HN1.out hn3; have := HM.out; omega, fun h => by rw [HF.out]; have := HN1.out hn3; have := HM.out; omega, Below.chain hb hb4⟩
        case measure => omega
      · obtain rfl : L = i := by omega
        have ii : ¬ ((L : Int) < (L : Int)) := by omega
        have ht : kids.take L = kids := List.take_of_length_le (by rw [HL.out]; exact Nat.le_refl _)
        rw [ht] at HN1
        have HV := Lib.hid (show min (n : Int) 301 = ((min (1 + szL kids) 301 : Nat) : Int) by have := HN1.out hn3; omega)
        clear ht HN1 HN2
        go_wp2_with fail
        go_ret
        exact ⟨by rw [← HV.out]; rfl, Below.chain c0 hb⟩
    · have n3 : ¬ (n : Int) ≤ 300 := by omega
      have HV := Lib.hid (show min (n : Int) 301 = ((min (1 + szL kids) 301 : Nat) : Int) by have := HN2.out (by omega); have := szL_part kids i; omega)
      clear HN1 HN2
      by_cases ii : (i : Int) < (L : Int)
      all_goals
        go_wp2_with fail
        go_ret
        exact ⟨by rw [← HV.out]; rfl, Below.chain c0 hb⟩
theorem count6_any : ∀ (t : Ex) (x : Xc) (w : World), Tx w t x → Calls Try.prog 12 #[xv x] w fun e w' => e = .returned (.int .i64 (cnt t : Nat)) ∧ Below w.heap.size w w' := by
  refine fun t => ex_ind (P := fun t => ∀ (x : Xc) (w : World), Tx w t x → Calls Try.prog 12 #[xv x] w fun e w' => e = .returned (.int .i64 (cnt t : Nat)) ∧ Below w.heap.size w w') ?_ t
  intro kind name v kids ih x w h
  obtain ⟨rfl, rfl, rfl, hv, xs, hr, hk⟩ := Tx.inv h
  have hL : kids.length = x.len := by
    obtain ⟨a, c, e, -⟩ := hr
    simp only [Value.slice.injEq] at e
    exact hk.1.trans e.2.1.symm
  have e : cnt (.node x.kind x.name x.v kids) = min (1 + szL kids) 301 := by unfold cnt; rw [Ex.sz]
  rw [e]
  exact count6_core x.kind x.name x.v x.ao x.len x.cap w kids xs hL hr hk ih
mutual
def notsT : Ex → Bool
  | .node kind _ _ kids => decide (kind = 6) || notsTL kids
def notsTL : List Ex → Bool
  | [] => false
  | t :: l => notsT t || notsTL l
end
theorem notsTL_app (l m : List Ex) : notsTL (l ++ m) = (notsTL l || notsTL m) := by
  induction l with
  | nil => rw [notsTL]; simp
  | cons x l ih => rw [List.cons_append, notsTL, notsTL, ih, Bool.or_assoc]
theorem notsTL_take (l : List Ex) (i : Nat) (h : i < l.length) : notsTL (l.take (i + 1)) = (notsTL (l.take i) || notsT l[i]) := by
  rw [List.take_succ_eq_append_getElem h, notsTL_app, notsTL, notsTL, Bool.or_false]
theorem notsTL_hit (l : List Ex) (i : Nat) (h : i < l.length) (hb : notsT l[i] = true) : notsTL l = true := by
  have e := notsTL_app (l.take (i + 1)) (l.drop (i + 1))
  rw [List.take_append_drop, notsTL_take l i h, hb] at e
  rw [e]; simp
set_option maxHeartbeats 1000000 in
theorem nots6_core (kind : Int) (k6 : (kind == 6) = false) (nm : ByteArray) (v : Vl) (ao : Option Addr) (L cap : Nat) (w : World) (kids : List Ex) (xs : List Xc) (hL : kids.length = L) (hr : RwX w (.slice ao L cap) xs) (hk : Txs w kids xs)
    (ih : ∀ t ∈ kids, ∀ (x : Xc) (w : World), Tx w t x → Calls Try.prog 28 #[xv x] w fun e w' => e = .returned (.bool (notsT t)) ∧ Below w.heap.size w w') :
    Calls Try.prog 28 #[.agg #[.int .i64 kind, .string nm, .int .i64 v.k, .int .i64 v.n, .float .f64 v.f, .string v.s, .slice ao L cap]] w fun e w' => e = .returned (.bool (notsTL kids)) ∧ Below w.heap.size w w' := by
  have c0 := below_a1 w (.cells #[.int .i64 kind, .string nm, .int .i64 v.k, .int .i64 v.n, .float .f64 v.f, .string v.s, .slice ao L cap] 28)
  have Lz := Lib.hid (lies7_new w ⟨kind, nm, v, ao, L, cap⟩ 28 #[.int .i64 kind, .string nm, .int .i64 v.k, .int .i64 v.n, .float .f64 v.f, .string v.s, .slice ao L cap] rfl)
  have HR := Lib.hid (hr.keep c0)
  have HK := Lib.hid (hk.keep c0)
  have IH := Lib.hid ih
  have HL := Lib.hid hL
  have hLm : xs.length = L ∧ L ≤ 9223372036854775807 := by obtain ⟨a, c, e, e1, e2, -⟩ := hr; cases e; simp only [maxLen] at e2; exact ⟨rfl, by omega⟩
  have HX := Lib.hid hLm.1
  have hLm2 := hLm.2
  clear hr hk ih hL hLm
  go_enter Try.func28, Try.ntmps28
  go_wp2_with fail
  go_loopg [3, 4] L (fun g s3 s4 wr => ∃ (i : Nat), g + i = L ∧ s3 = .int .i64 i ∧ notsTL (kids.take i) = false ∧ Below (w.alloc (.cells #[.int .i64 kind, .string nm, .int .i64 v.k, .int .i64 v.n, .float .f64 v.f, .string v.s, .slice ao L cap] 28)).heap.size (w.alloc (.cells #[.int .i64 kind, .string nm, .int .i64 v.k, .int .i64 v.n, .float .f64 v.f, .string v.s, .slice ao L cap] 28)) wr)
  case atStart => exact ⟨0, rfl, rfl, by rw [List.take_zero, notsTL], Below.refl _ _⟩
  case round =>
    obtain ⟨i, hg, rfl, hy, hb⟩ := hrel
    have ⟨y0, y1, y2, y3, y4, y5, y6⟩ := (Lz.out.keep hb).at
    by_cases hlt : i < L
    · have ii : (i : Int) < (L : Int) := by omega
      have hi : i < kids.length := by rw [HL.out]; exact hlt
      have hix : i < xs.length := by rw [HX.out]; exact hlt
      have hRw := HR.out.keep hb
      have hT : Tx wr kids[i] xs[i] := (HK.out.2 i hi hix).keep hb
      obtain ⟨ao', cap', he, -, -, -, hc⟩ := hRw
      simp only [Value.slice.injEq] at he
      obtain ⟨rfl, -, rfl⟩ := he
      obtain ⟨b, o, rfl, hcell⟩ := hc i hix
      have z0 := hcell 0 (by decide)
      have z1 := hcell 1 (by decide)
      have z2 := hcell 2 (by decide)
      have z3 := hcell 3 (by decide)
      have z4 := hcell 4 (by decide)
      have z5 := hcell 5 (by decide)
      have z6 := hcell 6 (by decide)
      simp only [encX, List.getElem?_cons_zero, List.getElem?_cons_succ, Nat.add_zero] at z0 z1 z2 z3 z4 z5 z6
      have E := Lib.hid (IH.out _ (List.getElem_mem hi) xs[i] wr hT)
      have HF := Lib.hid (notsTL_take kids i hi)
      have HB := Lib.hid (notsTL_hit kids i hi)
      clear hT hc hcell
      generalize xs[i] = z at *
      generalize notsT kids[i] = r at *
      cases r
      · go_wp2_with fail
        (with_reducible refine E.out.mono ?_); rintro e w4 ⟨rfl, hb4⟩
        go_wp2_with fail
        go_roundg (L - (i + 1))
        case rel => exact ⟨i + 1, by omega, by go_num, by rw [HF.out, hy]; rfl, Below.chain hb hb4⟩
        case measure => omega
      · go_wp2_with fail
        (with_reducible refine E.out.mono ?_); rintro e w4 ⟨rfl, hb4⟩
        go_wp2_with fail
        go_ret
        exact ⟨by rw [HB.out trivial]; rfl, Below.chain c0 (Below.chain hb hb4)⟩
    · obtain rfl : L = i := by omega
      have ii : ¬ ((L : Int) < (L : Int)) := by omega
      have ht : kids.take L = kids := List.take_of_length_le (by rw [HL.out]; exact Nat.le_refl _)
      rw [ht] at hy
      have HY := Lib.hid hy
      clear hy ht
      go_wp2_with fail
      go_ret
      exact ⟨by rw [HY.out]; rfl, Below.chain c0 hb⟩
theorem nots6_6 (nm : ByteArray) (v : Vl) (ao : Option Addr) (L cap : Nat) (w : World) : Calls Try.prog 28 #[.agg #[.int .i64 6, .string nm, .int .i64 v.k, .int .i64 v.n, .float .f64 v.f, .string v.s, .slice ao L cap]] w fun e w' => e = .returned (.bool true) ∧ Below w.heap.size w w' := by
  have c0 := below_a1 w (.cells #[.int .i64 6, .string nm, .int .i64 v.k, .int .i64 v.n, .float .f64 v.f, .string v.s, .slice ao L cap] 28)
  go_enter Try.func28, Try.ntmps28
  go_wp2_with fail
  go_ret
  exact ⟨rfl, c0⟩
theorem nots6_any : ∀ (t : Ex) (x : Xc) (w : World), Tx w t x → Calls Try.prog 28 #[xv x] w fun e w' => e = .returned (.bool (notsT t)) ∧ Below w.heap.size w w' := by
  refine fun t => ex_ind (P := fun t => ∀ (x : Xc) (w : World), Tx w t x → Calls Try.prog 28 #[xv x] w fun e w' => e = .returned (.bool (notsT t)) ∧ Below w.heap.size w w') ?_ t
  intro kind name v kids ih x w h
  obtain ⟨rfl, rfl, rfl, hv, xs, hr, hk⟩ := Tx.inv h
  have hL : kids.length = x.len := by
    obtain ⟨a, c, e, -⟩ := hr
    simp only [Value.slice.injEq] at e
    exact hk.1.trans e.2.1.symm
  rw [notsT]
  by_cases k6 : x.kind = 6
  · rw [decide_eq_true k6, Bool.true_or]
    have := nots6_6 x.name x.v x.ao x.len x.cap w
    rw [← k6] at this
    exact this
  · rw [decide_eq_false k6, Bool.false_or]
    exact nots6_core x.kind (by simp [k6]) x.name x.v x.ao x.len x.cap w kids xs hL hr hk ih
/-- the same texts, in the same order -/
def sameB (l m : List ByteArray) : Bool := decide (l.map byt = m.map byt)
theorem sameB_iff (l m : List ByteArray) : sameB l m = true ↔ l = m := by
  unfold sameB
  rw [decide_eq_true_eq]
  exact ⟨map_byt_inj, fun h => by rw [h]⟩
set_option maxHeartbeats 1000000 in
theorem same6_any (l m : List ByteArray) (v u : Value) (w : World) (h : RwS w v l) (h' : RwS w u m) :
    Calls Try.prog 14 #[v, u] w fun e w' => e = .returned (.bool (sameB l m)) ∧ Below w.heap.size w w' := by
  have hL : ∃ ao L cap, v = .slice ao L cap ∧ l.length = L ∧ L ≤ 9223372036854775807 := by
    obtain ⟨a, c, e, e1, e2, -⟩ := h
    simp only [maxLen] at e2
    exact ⟨a, _, c, e, rfl, by omega⟩
  have hM : ∃ ao L cap, u = .slice ao L cap ∧ m.length = L ∧ L ≤ 9223372036854775807 := by
    obtain ⟨a, c, e, e1, e2, -⟩ := h'
    simp only [maxLen] at e2
    exact ⟨a, _, c, e, rfl, by omega⟩
  obtain ⟨ao, L, cap, rfl, hL, hLm⟩ := hL
  obtain ⟨bo, M, cbp, rfl, hM, hMm⟩ := hM
  have HR := Lib.hid h
  have HR2 := Lib.hid h'
  have HL := Lib.hid hL
  have HM := Lib.hid hM
  clear h h' hL hM
  by_cases hne : L = M
  · subst hne
    have en : ((L : Int) != (L : Int)) = false := by simp
    go_enter Try.func14, Try.ntmps14
    go_wp2_with fail
    go_loopg [5] L (fun g s5 wr => ∃ i : Nat, g + i = L ∧ s5 = .int .i64 i ∧ (l.take i = m.take i) ∧ Below w.heap.size w wr)
    case atStart => exact ⟨0, rfl, rfl, rfl, Below.refl _ _⟩
    case round =>
      obtain ⟨i, hg, rfl, hy, hb⟩ := hrel
      by_cases hlt : i < L
      · have ii : (i : Int) < (L : Int) := by omega
        have hi : i < l.length := by rw [HL.out]; exact hlt
        have hj : i < m.length := by rw [HM.out]; exact hlt
        obtain ⟨ao', cap', he, -, -, -, hc⟩ := HR.out.keep hb
        obtain ⟨bo', cbp', he2, -, -, -, hc2⟩ := HR2.out.keep hb
        simp only [Value.slice.injEq] at he he2
        obtain ⟨rfl, -, rfl⟩ := he
        obtain ⟨rfl, -, rfl⟩ := he2
        obtain ⟨b, o, rfl, hcell⟩ := hc i hi
        obtain ⟨b2, o2, rfl, hcell2⟩ := hc2 i hj
        have q0 : wr.cell? ⟨b, o + i, none⟩ = some (.string l[i]) := by have := hcell 0 (by decide); simpa [encS] using this
        have q1 : wr.cell? ⟨b2, o2 + i, none⟩ = some (.string m[i]) := by have := hcell2 0 (by decide); simpa [encS] using this
        have HT := Lib.hid (show (l[i].toList = m[i].toList) → l.take (i + 1) = m.take (i + 1) by
          intro e
          rw [tl_byt, tl_byt] at e
          rw [List.take_succ_eq_append_getElem hi, List.take_succ_eq_append_getElem hj, hy, byt_inj e])
        have HF := Lib.hid (show ¬ (l[i].toList = m[i].toList) → sameB l m = false by
          intro e
          rw [Bool.eq_false_iff]
          intro hs
          rw [sameB_iff] at hs
          subst hs
          exact e rfl)
        have HY := Lib.hid hy
        clear hc hcell hc2 hcell2 hy
        generalize l[i] = z at *
        generalize m[i] = z2 at *
        have hw := hb.drew
        cases hz : z.toList == z2.toList
        · have hz2 : (z.toList != z2.toList) = true := by simp only [bne, hz]; rfl
          have HF2 := Lib.hid (HF.out (by simpa using hz))
          go_wp2_with fail
          go_region
          all_goals
            go_wp2_with fail
            go_ret
            exact ⟨by rw [HF2.out]; rfl, hw⟩
        · have hz2 : (z.toList != z2.toList) = false := by simp only [bne, hz]; rfl
          have HT2 := Lib.hid (HT.out (by simpa using hz))
          go_wp2_with fail
          go_region
          all_goals
            go_wp2_with fail
            go_roundg (L - (i + 1))
            case rel => exact ⟨i + 1, by omega, by go_num, HT2.out, hw⟩
            case measure => omega
      · obtain rfl : L = i := by omega
        have ii : ¬ ((L : Int) < (L : Int)) := by omega
        have ht : l.take L = l := List.take_of_length_le (by rw [HL.out]; exact Nat.le_refl _)
        have ht2 : m.take L = m := List.take_of_length_le (by rw [HM.out]; exact Nat.le_refl _)
        rw [ht, ht2] at hy
        have HY := Lib.hid ((sameB_iff l m).2 hy)
        clear hy ht ht2
        go_wp2_with fail
        go_ret
        exact ⟨by rw [HY.out]; rfl, hb⟩
  · have en : ((L : Int) != (M : Int)) = true := by simp; omega
    have HY := Lib.hid (show sameB l m = false by
      rw [Bool.eq_false_iff]
      intro hs
      rw [sameB_iff] at hs
      subst hs
      exact hne (HL.out.symm.trans HM.out))
    go_enter Try.func14, Try.ntmps14
    go_wp2_with fail
    go_ret
    exact ⟨by rw [HY.out]; rfl, Below.refl _ _⟩
end Go.Proofs.Ytlnmjbheohkanaa
