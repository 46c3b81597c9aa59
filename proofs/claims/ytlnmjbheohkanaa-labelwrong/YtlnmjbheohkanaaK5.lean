import Derived.Test.YtlnmjbheohkanaaK4
namespace Go.Proofs.Ytlnmjbheohkanaa
open Go Go.RowKit
set_option linter.unusedVariables false
theorem kidsN_le (k : Int) : kidsN k ≤ 2 := by unfold kidsN; split <;> (try split) <;> (try split) <;> omega
set_option maxHeartbeats 1000000 in
theorem rterm_4 (nm : ByteArray) (v : Vl) (ao : Option Addr) (L cap : Nat) (n : Int) (n1 : 1 ≤ n) (n2 : n ≤ 50) (vb wb nb lb tb : Bool) (hwb : wordB nm = wb) (hnb : (nm.toList == []) = nb) (hlb : ((L : Int) == 0) = lb)
    (C : ∀ w, Calls Try.prog 39 #[.agg #[.int .i64 4, .string nm, .int .i64 v.k, .int .i64 v.n, .float .f64 v.f, .string v.s, .slice ao L cap]] w fun e w' => e = .returned (.bool vb) ∧ Below w.heap.size w w') (w : World)
    (kids : List Ex) (xs : List Xc) (hL : kids.length = L) (htb : termsE (n - 1) kids = tb) (hr : RwX w (.slice ao L cap) xs) (hk : Txs w kids xs)
    (ih : ∀ t ∈ kids, ∀ (x : Xc) (w : World), Tx w t x → Calls Try.prog 22 #[xv x, .int .i64 (n - 1)] w fun e w' => e = .returned (.bool (termE (n - 1) t)) ∧ Below w.heap.size w w') :
    Calls Try.prog 22 #[.agg #[.int .i64 4, .string nm, .int .i64 v.k, .int .i64 v.n, .float .f64 v.f, .string v.s, .slice ao L cap], .int .i64 n] w fun e w' => e = .returned (.bool (vb && (lb && (wb && tb)))) ∧ Below w.heap.size w w' := by
  have hsf := run_store_float
  have c0 := below_a1 w (.cells #[.int .i64 4, .string nm, .int .i64 v.k, .int .i64 v.n, .float .f64 v.f, .string v.s, .slice ao L cap] 28)
  have Lz := Lib.hid (lies7_new w ⟨4, nm, v, ao, L, cap⟩ 28 #[.int .i64 4, .string nm, .int .i64 v.k, .int .i64 v.n, .float .f64 v.f, .string v.s, .slice ao L cap] rfl)
  have HR := Lib.hid (hr.keep c0)
  have HK := Lib.hid (hk.keep c0)
  have IH := Lib.hid ih
  have HL := Lib.hid hL
  have HT := Lib.hid htb
  have D := Lib.hid (rword_any nm)
  rw [hwb] at D
  have hLx : xs.length = L := by obtain ⟨a, c, e, -⟩ := hr; cases e; rfl
  have HX := Lib.hid hLx
  have m1 : ¬ (n < 1) := by omega
  have hlb2 : ((L : Int) != 0) = !lb := by simp only [bne, hlb]
  have hnb2 : (nm.toList != []) = !nb := by simp only [bne, hnb]
  have C1 := Lib.hid (C (w.alloc (.cells #[.int .i64 4, .string nm, .int .i64 v.k, .int .i64 v.n, .float .f64 v.f, .string v.s, .slice ao L cap] 28)))
  clear hr hk ih hL htb hwb hLx C
  cases vb
  · go_enter Try.func22, Try.ntmps22
    go_wp2_with fail
    (with_reducible refine C1.out.mono ?_); rintro e w2 ⟨rfl, hb2⟩
    go_wp2_with fail
    go_ret
    exact ⟨rfl, Below.chain c0 hb2⟩
  cases lb
  · go_enter Try.func22, Try.ntmps22
    go_wp2_with fail
    (with_reducible refine C1.out.mono ?_); rintro e w2 ⟨rfl, hb2⟩
    have ⟨q0, q1, q2, q3, q4, q5, q6⟩ := (Lz.out.keep hb2).at
    go_wp2_with fail
    (with_reducible refine (D.out _).mono ?_); rintro e w3 ⟨rfl, rfl⟩
    go_wp2_with fail
    go_ret
    exact ⟨rfl, Below.chain c0 hb2⟩
  cases wb
  · cases nb
    all_goals
      go_enter Try.func22, Try.ntmps22
      go_wp2_with fail
      (with_reducible refine C1.out.mono ?_); rintro e w2 ⟨rfl, hb2⟩
      have ⟨q0, q1, q2, q3, q4, q5, q6⟩ := (Lz.out.keep hb2).at
      go_wp2_with fail
      (with_reducible refine (D.out _).mono ?_); rintro e w3 ⟨rfl, rfl⟩
      go_wp2_with fail
      go_ret
      exact ⟨rfl, Below.chain c0 hb2⟩
  obtain rfl : L = 0 := by
    have hz : (L : Int) = 0 := by simpa using hlb
    omega
  cases nb
  all_goals
    go_enter Try.func22, Try.ntmps22
    go_wp2_with fail
    (with_reducible refine C1.out.mono ?_); rintro e w2 ⟨rfl, hb2⟩
    have ⟨q0, q1, q2, q3, q4, q5, q6⟩ := (Lz.out.keep hb2).at
    go_wp2_with fail
    (with_reducible refine (D.out _).mono ?_); rintro e w3 ⟨rfl, rfl⟩
    go_wp2_with fail
    go_loopg [7, 8] 0 (fun g s7 s8 wr => ∃ (i : Nat), g + i = 0 ∧ s7 = .int .i64 i ∧ termsE (n - 1) (kids.take i) = true ∧ Below (w.alloc (.cells #[.int .i64 4, .string nm, .int .i64 v.k, .int .i64 v.n, .float .f64 v.f, .string v.s, .slice ao 0 cap] 28)).heap.size (w.alloc (.cells #[.int .i64 4, .string nm, .int .i64 v.k, .int .i64 v.n, .float .f64 v.f, .string v.s, .slice ao 0 cap] 28)) wr)
    case atStart => exact ⟨0, rfl, rfl, by rw [List.take_zero]; unfold termsE; rw [deepL, termL, Bool.and_true, decide_eq_true_eq]; omega, hb2⟩
    case round =>
      obtain ⟨i, hg, rfl, hy, hb⟩ := hrel
      by_cases hlt : i < 0
      · exact absurd hlt (Nat.not_lt_zero _)
      · obtain rfl : 0 = i := by omega
        have ht : kids.take 0 = kids := List.take_of_length_le (by rw [HL.out]; exact Nat.le_refl _)
        rw [ht, HT.out] at hy
        subst hy
        go_wp2_with fail
        go_ret
        exact ⟨rfl, Below.chain c0 hb⟩
set_option maxHeartbeats 1000000 in
theorem rterm_5 (nm : ByteArray) (v : Vl) (ao : Option Addr) (L cap : Nat) (n : Int) (n1 : 1 ≤ n) (n2 : n ≤ 50) (vb wb nb lb tb : Bool) (hwb : wordB nm = wb) (hnb : (nm.toList == []) = nb) (hlb : ((L : Int) == 0) = lb)
    (C : ∀ w, Calls Try.prog 39 #[.agg #[.int .i64 5, .string nm, .int .i64 v.k, .int .i64 v.n, .float .f64 v.f, .string v.s, .slice ao L cap]] w fun e w' => e = .returned (.bool vb) ∧ Below w.heap.size w w') (w : World)
    (kids : List Ex) (xs : List Xc) (hL : kids.length = L) (htb : termsE (n - 1) kids = tb) (hr : RwX w (.slice ao L cap) xs) (hk : Txs w kids xs)
    (ih : ∀ t ∈ kids, ∀ (x : Xc) (w : World), Tx w t x → Calls Try.prog 22 #[xv x, .int .i64 (n - 1)] w fun e w' => e = .returned (.bool (termE (n - 1) t)) ∧ Below w.heap.size w w') :
    Calls Try.prog 22 #[.agg #[.int .i64 5, .string nm, .int .i64 v.k, .int .i64 v.n, .float .f64 v.f, .string v.s, .slice ao L cap], .int .i64 n] w fun e w' => e = .returned (.bool (vb && (lb && (nb && tb)))) ∧ Below w.heap.size w w' := by
  have hsf := run_store_float
  have c0 := below_a1 w (.cells #[.int .i64 5, .string nm, .int .i64 v.k, .int .i64 v.n, .float .f64 v.f, .string v.s, .slice ao L cap] 28)
  have Lz := Lib.hid (lies7_new w ⟨5, nm, v, ao, L, cap⟩ 28 #[.int .i64 5, .string nm, .int .i64 v.k, .int .i64 v.n, .float .f64 v.f, .string v.s, .slice ao L cap] rfl)
  have HR := Lib.hid (hr.keep c0)
  have HK := Lib.hid (hk.keep c0)
  have IH := Lib.hid ih
  have HL := Lib.hid hL
  have HT := Lib.hid htb
  have D := Lib.hid (rword_any nm)
  rw [hwb] at D
  have hLx : xs.length = L := by obtain ⟨a, c, e, -⟩ := hr; cases e; rfl
  have HX := Lib.hid hLx
  have m1 : ¬ (n < 1) := by omega
  have hlb2 : ((L : Int) != 0) = !lb := by simp only [bne, hlb]
  have hnb2 : (nm.toList != []) = !nb := by simp only [bne, hnb]
  have C1 := Lib.hid (C (w.alloc (.cells #[.int .i64 5, .string nm, .int .i64 v.k, .int .i64 v.n, .float .f64 v.f, .string v.s, .slice ao L cap] 28)))
  clear hr hk ih hL htb hwb hLx C
  cases vb
  · go_enter Try.func22, Try.ntmps22
    go_wp2_with fail
    (with_reducible refine C1.out.mono ?_); rintro e w2 ⟨rfl, hb2⟩
    go_wp2_with fail
    go_ret
    exact ⟨rfl, Below.chain c0 hb2⟩
  cases lb
  · go_enter Try.func22, Try.ntmps22
    go_wp2_with fail
    (with_reducible refine C1.out.mono ?_); rintro e w2 ⟨rfl, hb2⟩
    have ⟨q0, q1, q2, q3, q4, q5, q6⟩ := (Lz.out.keep hb2).at
    go_wp2_with fail
    (with_reducible refine (D.out _).mono ?_); rintro e w3 ⟨rfl, rfl⟩
    go_wp2_with fail
    go_ret
    exact ⟨rfl, Below.chain c0 hb2⟩
  cases nb
  · cases wb
    all_goals
      go_enter Try.func22, Try.ntmps22
      go_wp2_with fail
      (with_reducible refine C1.out.mono ?_); rintro e w2 ⟨rfl, hb2⟩
      have ⟨q0, q1, q2, q3, q4, q5, q6⟩ := (Lz.out.keep hb2).at
      go_wp2_with fail
      (with_reducible refine (D.out _).mono ?_); rintro e w3 ⟨rfl, rfl⟩
      go_wp2_with fail
      go_ret
      exact ⟨rfl, Below.chain c0 hb2⟩
  obtain rfl : L = 0 := by
    have hz : (L : Int) = 0 := by simpa using hlb
    omega
  cases wb
  all_goals
    go_enter Try.func22, Try.ntmps22
    go_wp2_with fail
    (with_reducible refine C1.out.mono ?_); rintro e w2 ⟨rfl, hb2⟩
    have ⟨q0, q1, q2, q3, q4, q5, q6⟩ := (Lz.out.keep hb2).at
    go_wp2_with fail
    (with_reducible refine (D.out _).mono ?_); rintro e w3 ⟨rfl, rfl⟩
    go_wp2_with fail
    go_loopg [7, 8] 0 (fun g s7 s8 wr => ∃ (i : Nat), g + i = 0 ∧ s7 = .int .i64 i ∧ termsE (n - 1) (kids.take i) = true ∧ Below (w.alloc (.cells #[.int .i64 5, .string nm, .int .i64 v.k, .int .i64 v.n, .float .f64 v.f, .string v.s, .slice ao 0 cap] 28)).heap.size (w.alloc (.cells #[.int .i64 5, .string nm, .int .i64 v.k, .int .i64 v.n, .float .f64 v.f, .string v.s, .slice ao 0 cap] 28)) wr)
    case atStart => exact ⟨0, rfl, rfl, by rw [List.take_zero]; unfold termsE; rw [deepL, termL, Bool.and_true, decide_eq_true_eq]; omega, hb2⟩
    case round =>
      obtain ⟨i, hg, rfl, hy, hb⟩ := hrel
      by_cases hlt : i < 0
      · exact absurd hlt (Nat.not_lt_zero _)
      · obtain rfl : 0 = i := by omega
        have ht : kids.take 0 = kids := List.take_of_length_le (by rw [HL.out]; exact Nat.le_refl _)
        rw [ht, HT.out] at hy
        subst hy
        go_wp2_with fail
        go_ret
        exact ⟨rfl, Below.chain c0 hb⟩
set_option maxHeartbeats 1000000 in
theorem rterm_6 (nm : ByteArray) (v : Vl) (ao : Option Addr) (L cap : Nat) (n : Int) (n1 : 1 ≤ n) (n2 : n ≤ 50) (vb wb nb lb tb : Bool) (hwb : wordB nm = wb) (hnb : (nm.toList == []) = nb) (hlb : ((L : Int) == 1) = lb)
    (C : ∀ w, Calls Try.prog 39 #[.agg #[.int .i64 6, .string nm, .int .i64 v.k, .int .i64 v.n, .float .f64 v.f, .string v.s, .slice ao L cap]] w fun e w' => e = .returned (.bool vb) ∧ Below w.heap.size w w') (w : World)
    (kids : List Ex) (xs : List Xc) (hL : kids.length = L) (htb : termsE (n - 1) kids = tb) (hr : RwX w (.slice ao L cap) xs) (hk : Txs w kids xs)
    (ih : ∀ t ∈ kids, ∀ (x : Xc) (w : World), Tx w t x → Calls Try.prog 22 #[xv x, .int .i64 (n - 1)] w fun e w' => e = .returned (.bool (termE (n - 1) t)) ∧ Below w.heap.size w w') :
    Calls Try.prog 22 #[.agg #[.int .i64 6, .string nm, .int .i64 v.k, .int .i64 v.n, .float .f64 v.f, .string v.s, .slice ao L cap], .int .i64 n] w fun e w' => e = .returned (.bool (vb && (lb && (nb && tb)))) ∧ Below w.heap.size w w' := by
  have hsf := run_store_float
  have c0 := below_a1 w (.cells #[.int .i64 6, .string nm, .int .i64 v.k, .int .i64 v.n, .float .f64 v.f, .string v.s, .slice ao L cap] 28)
  have Lz := Lib.hid (lies7_new w ⟨6, nm, v, ao, L, cap⟩ 28 #[.int .i64 6, .string nm, .int .i64 v.k, .int .i64 v.n, .float .f64 v.f, .string v.s, .slice ao L cap] rfl)
  have HR := Lib.hid (hr.keep c0)
  have HK := Lib.hid (hk.keep c0)
  have IH := Lib.hid ih
  have HL := Lib.hid hL
  have HT := Lib.hid htb
  have D := Lib.hid (rword_any nm)
  rw [hwb] at D
  have hLx : xs.length = L := by obtain ⟨a, c, e, -⟩ := hr; cases e; rfl
  have HX := Lib.hid hLx
  have m1 : ¬ (n < 1) := by omega
  have hlb2 : ((L : Int) != 1) = !lb := by simp only [bne, hlb]
  have hnb2 : (nm.toList != []) = !nb := by simp only [bne, hnb]
  have C1 := Lib.hid (C (w.alloc (.cells #[.int .i64 6, .string nm, .int .i64 v.k, .int .i64 v.n, .float .f64 v.f, .string v.s, .slice ao L cap] 28)))
  clear hr hk ih hL htb hwb hLx C
  cases vb
  · go_enter Try.func22, Try.ntmps22
    go_wp2_with fail
    (with_reducible refine C1.out.mono ?_); rintro e w2 ⟨rfl, hb2⟩
    go_wp2_with fail
    go_ret
    exact ⟨rfl, Below.chain c0 hb2⟩
  cases lb
  · go_enter Try.func22, Try.ntmps22
    go_wp2_with fail
    (with_reducible refine C1.out.mono ?_); rintro e w2 ⟨rfl, hb2⟩
    have ⟨q0, q1, q2, q3, q4, q5, q6⟩ := (Lz.out.keep hb2).at
    go_wp2_with fail
    (with_reducible refine (D.out _).mono ?_); rintro e w3 ⟨rfl, rfl⟩
    go_wp2_with fail
    go_ret
    exact ⟨rfl, Below.chain c0 hb2⟩
  cases nb
  · cases wb
    all_goals
      go_enter Try.func22, Try.ntmps22
      go_wp2_with fail
      (with_reducible refine C1.out.mono ?_); rintro e w2 ⟨rfl, hb2⟩
      have ⟨q0, q1, q2, q3, q4, q5, q6⟩ := (Lz.out.keep hb2).at
      go_wp2_with fail
      (with_reducible refine (D.out _).mono ?_); rintro e w3 ⟨rfl, rfl⟩
      go_wp2_with fail
      go_ret
      exact ⟨rfl, Below.chain c0 hb2⟩
  obtain rfl : L = 1 := by
    have hz : (L : Int) = 1 := by simpa using hlb
    omega
  cases wb
  all_goals
    go_enter Try.func22, Try.ntmps22
    go_wp2_with fail
    (with_reducible refine C1.out.mono ?_); rintro e w2 ⟨rfl, hb2⟩
    have ⟨q0, q1, q2, q3, q4, q5, q6⟩ := (Lz.out.keep hb2).at
    go_wp2_with fail
    (with_reducible refine (D.out _).mono ?_); rintro e w3 ⟨rfl, rfl⟩
    go_wp2_with fail
    go_loopg [7, 8] 1 (fun g s7 s8 wr => ∃ (i : Nat), g + i = 1 ∧ s7 = .int .i64 i ∧ termsE (n - 1) (kids.take i) = true ∧ Below (w.alloc (.cells #[.int .i64 6, .string nm, .int .i64 v.k, .int .i64 v.n, .float .f64 v.f, .string v.s, .slice ao 1 cap] 28)).heap.size (w.alloc (.cells #[.int .i64 6, .string nm, .int .i64 v.k, .int .i64 v.n, .float .f64 v.f, .string v.s, .slice ao 1 cap] 28)) wr)
    case atStart => exact ⟨0, rfl, rfl, by rw [List.take_zero]; unfold termsE; rw [deepL, termL, Bool.and_true, decide_eq_true_eq]; omega, hb2⟩
    case round =>
      obtain ⟨i, hg, rfl, hy, hb⟩ := hrel
      by_cases hlt : i < 1
      · skip
        have ii : (i : Int) < 1 := by omega
        have hi : i < kids.length := by rw [HL.out]; exact hlt
        have hix : i < xs.length := by rw [HX.out]; exact hlt
        have hRw := HR.out.keep hb
        have hT : Tx wr kids[i] xs[i] := (HK.out.2 i hi hix).keep hb
        obtain ⟨ao', cap', he, -, -, -, hc⟩ := hRw
        simp only [Value.slice.injEq] at he
        obtain ⟨rfl, -, rfl⟩ := he
        obtain ⟨b, o, rfl, hcell⟩ := hc i hix
        have z0 := hcell 0 (by decide)
        have z1 := hcell 1 (by decide)
        have z2 := hcell 2 (by decide)
        have z3 := hcell 3 (by decide)
        have z4 := hcell 4 (by decide)
        have z5 := hcell 5 (by decide)
        have z6 := hcell 6 (by decide)
        simp only [encX, List.getElem?_cons_zero, List.getElem?_cons_succ, Nat.add_zero] at z0 z1 z2 z3 z4 z5 z6
        have E := Lib.hid (IH.out _ (List.getElem_mem hi) xs[i] wr hT)
        have HF := Lib.hid (termsE_take (n - 1) (by omega) kids i hi)
        have HB := Lib.hid (termsE_bad (n - 1) kids i hi)
        have ⟨y0, y1, y2, y3, y4, y5, y6⟩ := (Lz.out.keep hb).at
        clear hT hc hcell q0 q1 q2 q3 q4 q5 q6
        generalize xs[i] = z at *
        generalize termE (n - 1) kids[i] = r at *
        cases r
        · go_wp2_with fail
          (with_reducible refine E.out.mono ?_); rintro e w4 ⟨rfl, hb4⟩
          go_wp2_with fail
          go_ret
          refine ⟨?_, Below.chain c0 (Below.chain hb hb4)⟩
          rw [← HT.out, HB.out trivial]; rfl
        · go_wp2_with fail
          (with_reducible refine E.out.mono ?_); rintro e w4 ⟨rfl, hb4⟩
          go_wp2_with fail
          go_roundg (1 - (i + 1))
          case rel => exact ⟨i + 1, by omega, by go_num, by rw [HF.out, hy]; rfl, Below.chain hb hb4⟩
          case measure => omega
      · obtain rfl : 1 = i := by omega
        have ht : kids.take 1 = kids := List.take_of_length_le (by rw [HL.out]; exact Nat.le_refl _)
        rw [ht, HT.out] at hy
        subst hy
        go_wp2_with fail
        go_ret
        exact ⟨rfl, Below.chain c0 hb⟩
set_option maxHeartbeats 1000000 in
theorem rterm_7 (nm : ByteArray) (v : Vl) (ao : Option Addr) (L cap : Nat) (n : Int) (n1 : 1 ≤ n) (n2 : n ≤ 50) (vb wb nb lb tb : Bool) (hwb : wordB nm = wb) (hnb : (nm.toList == []) = nb) (hlb : ((L : Int) == 2) = lb)
    (C : ∀ w, Calls Try.prog 39 #[.agg #[.int .i64 7, .string nm, .int .i64 v.k, .int .i64 v.n, .float .f64 v.f, .string v.s, .slice ao L cap]] w fun e w' => e = .returned (.bool vb) ∧ Below w.heap.size w w') (w : World)
    (kids : List Ex) (xs : List Xc) (hL : kids.length = L) (htb : termsE (n - 1) kids = tb) (hr : RwX w (.slice ao L cap) xs) (hk : Txs w kids xs)
    (ih : ∀ t ∈ kids, ∀ (x : Xc) (w : World), Tx w t x → Calls Try.prog 22 #[xv x, .int .i64 (n - 1)] w fun e w' => e = .returned (.bool (termE (n - 1) t)) ∧ Below w.heap.size w w') :
    Calls Try.prog 22 #[.agg #[.int .i64 7, .string nm, .int .i64 v.k, .int .i64 v.n, .float .f64 v.f, .string v.s, .slice ao L cap], .int .i64 n] w fun e w' => e = .returned (.bool (vb && (lb && (nb && tb)))) ∧ Below w.heap.size w w' := by
  have hsf := run_store_float
  have c0 := below_a1 w (.cells #[.int .i64 7, .string nm, .int .i64 v.k, .int .i64 v.n, .float .f64 v.f, .string v.s, .slice ao L cap] 28)
  have Lz := Lib.hid (lies7_new w ⟨7, nm, v, ao, L, cap⟩ 28 #[.int .i64 7, .string nm, .int .i64 v.k, .int .i64 v.n, .float .f64 v.f, .string v.s, .slice ao L cap] rfl)
  have HR := Lib.hid (hr.keep c0)
  have HK := Lib.hid (hk.keep c0)
  have IH := Lib.hid ih
  have HL := Lib.hid hL
  have HT := Lib.hid htb
  have D := Lib.hid (rword_any nm)
  rw [hwb] at D
  have hLx : xs.length = L := by obtain ⟨a, c, e, -⟩ := hr; cases e; rfl
  have HX := Lib.hid hLx
  have m1 : ¬ (n < 1) := by omega
  have hlb2 : ((L : Int) != 2) = !lb := by simp only [bne, hlb]
  have hnb2 : (nm.toList != []) = !nb := by simp only [bne, hnb]
  have C1 := Lib.hid (C (w.alloc (.cells #[.int .i64 7, .string nm, .int .i64 v.k, .int .i64 v.n, .float .f64 v.f, .string v.s, .slice ao L cap] 28)))
  clear hr hk ih hL htb hwb hLx C
  cases vb
  · go_enter Try.func22, Try.ntmps22
    go_wp2_with fail
    (with_reducible refine C1.out.mono ?_); rintro e w2 ⟨rfl, hb2⟩
    go_wp2_with fail
    go_ret
    exact ⟨rfl, Below.chain c0 hb2⟩
  cases lb
  · go_enter Try.func22, Try.ntmps22
    go_wp2_with fail
    (with_reducible refine C1.out.mono ?_); rintro e w2 ⟨rfl, hb2⟩
    have ⟨q0, q1, q2, q3, q4, q5, q6⟩ := (Lz.out.keep hb2).at
    go_wp2_with fail
    (with_reducible refine (D.out _).mono ?_); rintro e w3 ⟨rfl, rfl⟩
    go_wp2_with fail
    go_ret
    exact ⟨rfl, Below.chain c0 hb2⟩
  cases nb
  · cases wb
    all_goals
      go_enter Try.func22, Try.ntmps22
      go_wp2_with fail
      (with_reducible refine C1.out.mono ?_); rintro e w2 ⟨rfl, hb2⟩
      have ⟨q0, q1, q2, q3, q4, q5, q6⟩ := (Lz.out.keep hb2).at
      go_wp2_with fail
      (with_reducible refine (D.out _).mono ?_); rintro e w3 ⟨rfl, rfl⟩
      go_wp2_with fail
      go_ret
      exact ⟨rfl, Below.chain c0 hb2⟩
  obtain rfl : L = 2 := by
    have hz : (L : Int) = 2 := by simpa using hlb
    omega
  cases wb
  all_goals
    go_enter Try.func22, Try.ntmps22
    go_wp2_with fail
    (with_reducible refine C1.out.mono ?_); rintro e w2 ⟨rfl, hb2⟩
    have ⟨q0, q1, q2, q3, q4, q5, q6⟩ := (Lz.out.keep hb2).at
    go_wp2_with fail
    (with_reducible refine (D.out _).mono ?_); rintro e w3 ⟨rfl, rfl⟩
    go_wp2_with fail
    go_loopg [7, 8] 2 (fun g s7 s8 wr => ∃ (i : Nat), g + i = 2 ∧ s7 = .int .i64 i ∧ termsE (n - 1) (kids.take i) = true ∧ Below (w.alloc (.cells #[.int .i64 7, .string nm, .int .i64 v.k, .int .i64 v.n, .float .f64 v.f, .string v.s, .slice ao 2 cap] 28)).heap.size (w.alloc (.cells #[.int .i64 7, .string nm, .int .i64 v.k, .int .i64 v.n, .float .f64 v.f, .string v.s, .slice ao 2 cap] 28)) wr)
    case atStart => exact ⟨0, rfl, rfl, by rw [List.take_zero]; unfold termsE; rw [deepL, termL, Bool.and_true, decide_eq_true_eq]; omega, hb2⟩
    case round =>
      obtain ⟨i, hg, rfl, hy, hb⟩ := hrel
      by_cases hlt : i < 2
      · skip
        have ii : (i : Int) < 2 := by omega
        have hi : i < kids.length := by rw [HL.out]; exact hlt
        have hix : i < xs.length := by rw [HX.out]; exact hlt
        have hRw := HR.out.keep hb
        have hT : Tx wr kids[i] xs[i] := (HK.out.2 i hi hix).keep hb
        obtain ⟨ao', cap', he, -, -, -, hc⟩ := hRw
        simp only [Value.slice.injEq] at he
        obtain ⟨rfl, -, rfl⟩ := he
        obtain ⟨b, o, rfl, hcell⟩ := hc i hix
        have z0 := hcell 0 (by decide)
        have z1 := hcell 1 (by decide)
        have z2 := hcell 2 (by decide)
        have z3 := hcell 3 (by decide)
        have z4 := hcell 4 (by decide)
        have z5 := hcell 5 (by decide)
        have z6 := hcell 6 (by decide)
        simp only [encX, List.getElem?_cons_zero, List.getElem?_cons_succ, Nat.add_zero] at z0 z1 z2 z3 z4 z5 z6
        have E := Lib.hid (IH.out _ (List.getElem_mem hi) xs[i] wr hT)
        have HF := Lib.hid (termsE_take (n - 1) (by omega) kids i hi)
        have HB := Lib.hid (termsE_bad (n - 1) kids i hi)
        have ⟨y0, y1, y2, y3, y4, y5, y6⟩ := (Lz.out.keep hb).at
        clear hT hc hcell q0 q1 q2 q3 q4 q5 q6
        generalize xs[i] = z at *
        generalize termE (n - 1) kids[i] = r at *
        cases r
        · go_wp2_with fail
          (with_reducible refine E.out.mono ?_); rintro e w4 ⟨rfl, hb4⟩
          go_wp2_with fail
          go_ret
          refine ⟨?_, Below.chain c0 (Below.chain hb hb4)⟩
          rw [← HT.out, HB.out trivial]; rfl
        · go_wp2_with fail
          (with_reducible refine E.out.mono ?_); rintro e w4 ⟨rfl, hb4⟩
          go_wp2_with fail
          go_roundg (2 - (i + 1))
          case rel => exact ⟨i + 1, by omega, by go_num, by rw [HF.out, hy]; rfl, Below.chain hb hb4⟩
          case measure => omega
      · obtain rfl : 2 = i := by omega
        have ht : kids.take 2 = kids := List.take_of_length_le (by rw [HL.out]; exact Nat.le_refl _)
        rw [ht, HT.out] at hy
        subst hy
        go_wp2_with fail
        go_ret
        exact ⟨rfl, Below.chain c0 hb⟩
set_option maxHeartbeats 1000000 in
theorem rterm_8 (nm : ByteArray) (v : Vl) (ao : Option Addr) (L cap : Nat) (n : Int) (n1 : 1 ≤ n) (n2 : n ≤ 50) (vb wb nb lb tb : Bool) (hwb : wordB nm = wb) (hnb : (nm.toList == []) = nb) (hlb : ((L : Int) == 2) = lb)
    (C : ∀ w, Calls Try.prog 39 #[.agg #[.int .i64 8, .string nm, .int .i64 v.k, .int .i64 v.n, .float .f64 v.f, .string v.s, .slice ao L cap]] w fun e w' => e = .returned (.bool vb) ∧ Below w.heap.size w w') (w : World)
    (kids : List Ex) (xs : List Xc) (hL : kids.length = L) (htb : termsE (n - 1) kids = tb) (hr : RwX w (.slice ao L cap) xs) (hk : Txs w kids xs)
    (ih : ∀ t ∈ kids, ∀ (x : Xc) (w : World), Tx w t x → Calls Try.prog 22 #[xv x, .int .i64 (n - 1)] w fun e w' => e = .returned (.bool (termE (n - 1) t)) ∧ Below w.heap.size w w') :
    Calls Try.prog 22 #[.agg #[.int .i64 8, .string nm, .int .i64 v.k, .int .i64 v.n, .float .f64 v.f, .string v.s, .slice ao L cap], .int .i64 n] w fun e w' => e = .returned (.bool (vb && (lb && (nb && tb)))) ∧ Below w.heap.size w w' := by
  have hsf := run_store_float
  have c0 := below_a1 w (.cells #[.int .i64 8, .string nm, .int .i64 v.k, .int .i64 v.n, .float .f64 v.f, .string v.s, .slice ao L cap] 28)
  have Lz := Lib.hid (lies7_new w ⟨8, nm, v, ao, L, cap⟩ 28 #[.int .i64 8, .string nm, .int .i64 v.k, .int .i64 v.n, .float .f64 v.f, .string v.s, .slice ao L cap] rfl)
  have HR := Lib.hid (hr.keep c0)
  have HK := Lib.hid (hk.keep c0)
  have IH := Lib.hid ih
  have HL := Lib.hid hL
  have HT := Lib.hid htb
  have D := Lib.hid (rword_any nm)
  rw [hwb] at D
  have hLx : xs.length = L := by obtain ⟨a, c, e, -⟩ := hr; cases e; rfl
  have HX := Lib.hid hLx
  have m1 : ¬ (n < 1) := by omega
  have hlb2 : ((L : Int) != 2) = !lb := by simp only [bne, hlb]
  have hnb2 : (nm.toList != []) = !nb := by simp only [bne, hnb]
  have C1 := Lib.hid (C (w.alloc (.cells #[.int .i64 8, .string nm, .int .i64 v.k, .int .i64 v.n, .float .f64 v.f, .string v.s, .slice ao L cap] 28)))
  clear hr hk ih hL htb hwb hLx C
  cases vb
  · go_enter Try.func22, Try.ntmps22
    go_wp2_with fail
    (with_reducible refine C1.out.mono ?_); rintro e w2 ⟨rfl, hb2⟩
    go_wp2_with fail
    go_ret
    exact ⟨rfl, Below.chain c0 hb2⟩
  cases lb
  · go_enter Try.func22, Try.ntmps22
    go_wp2_with fail
    (with_reducible refine C1.out.mono ?_); rintro e w2 ⟨rfl, hb2⟩
    have ⟨q0, q1, q2, q3, q4, q5, q6⟩ := (Lz.out.keep hb2).at
    go_wp2_with fail
    (with_reducible refine (D.out _).mono ?_); rintro e w3 ⟨rfl, rfl⟩
    go_wp2_with fail
    go_ret
    exact ⟨rfl, Below.chain c0 hb2⟩
  cases nb
  · cases wb
    all_goals
      go_enter Try.func22, Try.ntmps22
      go_wp2_with fail
      (with_reducible refine C1.out.mono ?_); rintro e w2 ⟨rfl, hb2⟩
      have ⟨q0, q1, q2, q3, q4, q5, q6⟩ := (Lz.out.keep hb2).at
      go_wp2_with fail
      (with_reducible refine (D.out _).mono ?_); rintro e w3 ⟨rfl, rfl⟩
      go_wp2_with fail
      go_ret
      exact ⟨rfl, Below.chain c0 hb2⟩
  obtain rfl : L = 2 := by
    have hz : (L : Int) = 2 := by simpa using hlb
    omega
  cases wb
  all_goals
    go_enter Try.func22, Try.ntmps22
    go_wp2_with fail
    (with_reducible refine C1.out.mono ?_); rintro e w2 ⟨rfl, hb2⟩
    have ⟨q0, q1, q2, q3, q4, q5, q6⟩ := (Lz.out.keep hb2).at
    go_wp2_with fail
    (with_reducible refine (D.out _).mono ?_); rintro e w3 ⟨rfl, rfl⟩
    go_wp2_with fail
    go_loopg [7, 8] 2 (fun g s7 s8 wr => ∃ (i : Nat), g + i = 2 ∧ s7 = .int .i64 i ∧ termsE (n - 1) (kids.take i) = true ∧ Below (w.alloc (.cells #[.int .i64 8, .string nm, .int .i64 v.k, .int .i64 v.n, .float .f64 v.f, .string v.s, .slice ao 2 cap] 28)).heap.size (w.alloc (.cells #[.int .i64 8, .string nm, .int .i64 v.k, .int .i64 v.n, .float .f64 v.f, .string v.s, .slice ao 2 cap] 28)) wr)
    case atStart => exact ⟨0, rfl, rfl, by rw [List.take_zero]; unfold termsE; rw [deepL, termL, Bool.and_true, decide_eq_true_eq]; omega, hb2⟩
    case round =>
      obtain ⟨i, hg, rfl, hy, hb⟩ := hrel
      by_cases hlt : i < 2
      · skip
        have ii : (i : Int) < 2 := by omega
        have hi : i < kids.length := by rw [HL.out]; exact hlt
        have hix : i < xs.length := by rw [HX.out]; exact hlt
        have hRw := HR.out.keep hb
        have hT : Tx wr kids[i] xs[i] := (HK.out.2 i hi hix).keep hb
        obtain ⟨ao', cap', he, -, -, -, hc⟩ := hRw
        simp only [Value.slice.injEq] at he
        obtain ⟨rfl, -, rfl⟩ := he
        obtain ⟨b, o, rfl, hcell⟩ := hc i hix
        have z0 := hcell 0 (by decide)
        have z1 := hcell 1 (by decide)
        have z2 := hcell 2 (by decide)
        have z3 := hcell 3 (by decide)
        have z4 := hcell 4 (by decide)
        have z5 := hcell 5 (by decide)
        have z6 := hcell 6 (by decide)
        simp only [encX, List.getElem?_cons_zero, List.getElem?_cons_succ, Nat.add_zero] at z0 z1 z2 z3 z4 z5 z6
        have E := Lib.hid (IH.out _ (List.getElem_mem hi) xs[i] wr hT)
        have HF := Lib.hid (termsE_take (n - 1) (by omega) kids i hi)
        have HB := Lib.hid (termsE_bad (n - 1) kids i hi)
        have ⟨y0, y1, y2, y3, y4, y5, y6⟩ := (Lz.out.keep hb).at
        clear hT hc hcell q0 q1 q2 q3 q4 q5 q6
        generalize xs[i] = z at *
        generalize termE (n - 1) kids[i] = r at *
        cases r
        · go_wp2_with fail
          (with_reducible refine E.out.mono ?_); rintro e w4 ⟨rfl, hb4⟩
          go_wp2_with fail
          go_ret
          refine ⟨?_, Below.chain c0 (Below.chain hb hb4)⟩
          rw [← HT.out, HB.out trivial]; rfl
        · go_wp2_with fail
          (with_reducible refine E.out.mono ?_); rintro e w4 ⟨rfl, hb4⟩
          go_wp2_with fail
          go_roundg (2 - (i + 1))
          case rel => exact ⟨i + 1, by omega, by go_num, by rw [HF.out, hy]; rfl, Below.chain hb hb4⟩
          case measure => omega
      · obtain rfl : 2 = i := by omega
        have ht : kids.take 2 = kids := List.take_of_length_le (by rw [HL.out]; exact Nat.le_refl _)
        rw [ht, HT.out] at hy
        subst hy
        go_wp2_with fail
        go_ret
        exact ⟨rfl, Below.chain c0 hb⟩
set_option maxHeartbeats 1000000 in
theorem rterm_o (kind : Int) (nm : ByteArray) (v : Vl) (ao : Option Addr) (L cap : Nat) (n : Int) (n1 : 1 ≤ n) (n2 : n ≤ 50) (g4 : (kind == 4) = false) (g5 : (kind == 5) = false) (g6 : (kind == 6) = false) (g7 : (kind == 7) = false) (g8 : (kind == 8) = false) (vb wb nb lb tb : Bool) (hwb : wordB nm = wb) (hnb : (nm.toList == []) = nb) (hlb : ((L : Int) == -1) = lb)
    (C : ∀ w, Calls Try.prog 39 #[.agg #[.int .i64 kind, .string nm, .int .i64 v.k, .int .i64 v.n, .float .f64 v.f, .string v.s, .slice ao L cap]] w fun e w' => e = .returned (.bool vb) ∧ Below w.heap.size w w') (w : World)
    (kids : List Ex) (xs : List Xc) (hL : kids.length = L) (htb : termsE (n - 1) kids = tb) (hr : RwX w (.slice ao L cap) xs) (hk : Txs w kids xs)
    (ih : ∀ t ∈ kids, ∀ (x : Xc) (w : World), Tx w t x → Calls Try.prog 22 #[xv x, .int .i64 (n - 1)] w fun e w' => e = .returned (.bool (termE (n - 1) t)) ∧ Below w.heap.size w w') :
    Calls Try.prog 22 #[.agg #[.int .i64 kind, .string nm, .int .i64 v.k, .int .i64 v.n, .float .f64 v.f, .string v.s, .slice ao L cap], .int .i64 n] w fun e w' => e = .returned (.bool (vb && (lb && (nb && tb)))) ∧ Below w.heap.size w w' := by
  have hsf := run_store_float
  have c0 := below_a1 w (.cells #[.int .i64 kind, .string nm, .int .i64 v.k, .int .i64 v.n, .float .f64 v.f, .string v.s, .slice ao L cap] 28)
  have Lz := Lib.hid (lies7_new w ⟨kind, nm, v, ao, L, cap⟩ 28 #[.int .i64 kind, .string nm, .int .i64 v.k, .int .i64 v.n, .float .f64 v.f, .string v.s, .slice ao L cap] rfl)
  have HR := Lib.hid (hr.keep c0)
  have HK := Lib.hid (hk.keep c0)
  have IH := Lib.hid ih
  have HL := Lib.hid hL
  have HT := Lib.hid htb
  have D := Lib.hid (rword_any nm)
  rw [hwb] at D
  have hLx : xs.length = L := by obtain ⟨a, c, e, -⟩ := hr; cases e; rfl
  have HX := Lib.hid hLx
  have m1 : ¬ (n < 1) := by omega
  have hlb2 : ((L : Int) != -1) = !lb := by simp only [bne, hlb]
  have hnb2 : (nm.toList != []) = !nb := by simp only [bne, hnb]
  have C1 := Lib.hid (C (w.alloc (.cells #[.int .i64 kind, .string nm, .int .i64 v.k, .int .i64 v.n, .float .f64 v.f, .string v.s, .slice ao L cap] 28)))
  clear hr hk ih hL htb hwb hLx C
  cases vb
  · go_enter Try.func22, Try.ntmps22
    go_wp2_with fail
    (with_reducible refine C1.out.mono ?_); rintro e w2 ⟨rfl, hb2⟩
    go_wp2_with fail
    go_ret
    exact ⟨rfl, Below.chain c0 hb2⟩
  cases lb
  · go_enter Try.func22, Try.ntmps22
    go_wp2_with fail
    (with_reducible refine C1.out.mono ?_); rintro e w2 ⟨rfl, hb2⟩
    have ⟨q0, q1, q2, q3, q4, q5, q6⟩ := (Lz.out.keep hb2).at
    go_wp2_with fail
    (with_reducible refine (D.out _).mono ?_); rintro e w3 ⟨rfl, rfl⟩
    go_wp2_with fail
    go_ret
    exact ⟨rfl, Below.chain c0 hb2⟩
  simp at hlb
end Go.Proofs.Ytlnmjbheohkanaa
