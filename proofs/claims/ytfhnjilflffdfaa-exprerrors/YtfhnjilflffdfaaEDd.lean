import Derived.Test.YtfhnjilflffdfaaEDc
import Derived.Test.YtfhnjilflffdfaaEDb
import Derived.Test.YtfhnjilflffdfaaEDa
namespace Go.Proofs.Ytfhnjilflffdfaa
open Go Go.RowKit
set_option linter.unusedVariables false
abbrev Bt (P : Program) (f : FuncId) (args : Array Value) (b : Bool) : Prop := ∀ w : World, Calls P f args w fun e w' => e = .returned (.bool b) ∧ Below w.heap.size w w'
theorem formed_1 (name : ByteArray) (v : Vl) (ao : Option Addr) (L cap : Nat) (rb nb lb : Bool) (hn : (name.toList == []) = nb) (hl : ((L : Int) == 0) = lb) (C : Bt Try.prog 29 #[.agg #[.int .i64 v.k, .int .i64 v.n, .float .f64 v.f, .string v.s]] rb) (w : World) :
    Calls Try.prog 22 #[.agg #[.int .i64 1, .string name, .int .i64 v.k, .int .i64 v.n, .float .f64 v.f, .string v.s, .slice ao L cap]] w fun e w' => e = .returned (.bool (rb && (nb && lb))) ∧ Below w.heap.size w w' := by
  have c0 := below_a1 w (.cells #[.int .i64 1, .string name, .int .i64 v.k, .int .i64 v.n, .float .f64 v.f, .string v.s, .slice ao L cap] 27)
  cases rb
  · go_enter Try.func22, Try.ntmps22
    go_wp2_with fail
    refine (C _).mono ?_; rintro e w2 ⟨rfl, hb2⟩
    go_wp2_with fail
    go_ret
    exact ⟨rfl, Below.chain c0 hb2⟩
  · have L0 : ∀ j, j < 7 → (w.alloc (.cells #[.int .i64 1, .string name, .int .i64 v.k, .int .i64 v.n, .float .f64 v.f, .string v.s, .slice ao L cap] 27)).cell? ⟨w.heap.size, j, none⟩ = #[.int .i64 1, .string name, .int .i64 v.k, .int .i64 v.n, .float .f64 v.f, .string v.s, .slice ao L cap][j]? := fun j hj => (Vr.new w _ _).cell j
    have L1 := L0 1 (by decide)
    have L6 := L0 6 (by decide)
    have lt : w.heap.size < (w.alloc (.cells #[.int .i64 1, .string name, .int .i64 v.k, .int .i64 v.n, .float .f64 v.f, .string v.s, .slice ao L cap] 27)).heap.size := by simp
    cases nb
    · go_enter Try.func22, Try.ntmps22
      go_wp2_with fail
      refine (C _).mono ?_; rintro e w2 ⟨rfl, hb2⟩
      have q1 := (hb2.cell (p := ⟨w.heap.size, 1, none⟩) lt).trans L1
      have q6 := (hb2.cell (p := ⟨w.heap.size, 6, none⟩) lt).trans L6
      simp at q1 q6
      go_wp2_with fail
      go_ret
      exact ⟨rfl, Below.chain c0 hb2⟩
    · cases lb
      all_goals
        go_enter Try.func22, Try.ntmps22
        go_wp2_with fail
        refine (C _).mono ?_; rintro e w2 ⟨rfl, hb2⟩
        have q1 := (hb2.cell (p := ⟨w.heap.size, 1, none⟩) lt).trans L1
        have q6 := (hb2.cell (p := ⟨w.heap.size, 6, none⟩) lt).trans L6
        simp at q1 q6
        go_wp2_with fail
        go_ret
        exact ⟨rfl, Below.chain c0 hb2⟩
theorem formed_2 (name : ByteArray) (v : Vl) (ao : Option Addr) (L cap : Nat) (vb nb lb : Bool) (hn : (name.toList == []) = nb) (hl : ((L : Int) == 0) = lb) (C : Bt Try.prog 30 #[.agg #[.int .i64 v.k, .int .i64 v.n, .float .f64 v.f, .string v.s]] vb) (w : World) :
    Calls Try.prog 22 #[.agg #[.int .i64 2, .string name, .int .i64 v.k, .int .i64 v.n, .float .f64 v.f, .string v.s, .slice ao L cap]] w fun e w' => e = .returned (.bool (!nb && (vb && lb))) ∧ Below w.heap.size w w' := by
  have c0 := below_a1 w (.cells #[.int .i64 2, .string name, .int .i64 v.k, .int .i64 v.n, .float .f64 v.f, .string v.s, .slice ao L cap] 27)
  have L0 : ∀ j, j < 7 → (w.alloc (.cells #[.int .i64 2, .string name, .int .i64 v.k, .int .i64 v.n, .float .f64 v.f, .string v.s, .slice ao L cap] 27)).cell? ⟨w.heap.size, j, none⟩ = #[.int .i64 2, .string name, .int .i64 v.k, .int .i64 v.n, .float .f64 v.f, .string v.s, .slice ao L cap][j]? := fun j hj => (Vr.new w _ _).cell j
  have L6 := L0 6 (by decide)
  have lt : w.heap.size < (w.alloc (.cells #[.int .i64 2, .string name, .int .i64 v.k, .int .i64 v.n, .float .f64 v.f, .string v.s, .slice ao L cap] 27)).heap.size := by simp
  cases nb
  · cases vb
    · go_enter Try.func22, Try.ntmps22
      go_wp2_with fail
      refine (C _).mono ?_; rintro e w2 ⟨rfl, hb2⟩
      go_wp2_with fail
      go_ret
      exact ⟨rfl, Below.chain c0 hb2⟩
    · cases lb
      all_goals
        go_enter Try.func22, Try.ntmps22
        go_wp2_with fail
        refine (C _).mono ?_; rintro e w2 ⟨rfl, hb2⟩
        have q6 := (hb2.cell (p := ⟨w.heap.size, 6, none⟩) lt).trans L6
        simp at q6
        go_wp2_with fail
        go_ret
        exact ⟨rfl, Below.chain c0 hb2⟩
  · go_enter Try.func22, Try.ntmps22
    go_wp2_with fail
    go_ret
    exact ⟨rfl, c0⟩
theorem formed_0 (k : Int) (name : ByteArray) (v : Vl) (ao : Option Addr) (L cap : Nat) (h1 : (k == 1) = false) (h2 : (k == 2) = false) (h3 : (k == 3) = false) (w : World) :
    Calls Try.prog 22 #[.agg #[.int .i64 k, .string name, .int .i64 v.k, .int .i64 v.n, .float .f64 v.f, .string v.s, .slice ao L cap]] w fun e w' => e = .returned (.bool false) ∧ Below w.heap.size w w' := by
  have c0 := below_a1 w (.cells #[.int .i64 k, .string name, .int .i64 v.k, .int .i64 v.n, .float .f64 v.f, .string v.s, .slice ao L cap] 27)
  go_enter Try.func22, Try.ntmps22
  go_wp2_with fail
  go_ret
  exact ⟨rfl, c0⟩
theorem formed_3 (name : ByteArray) (v : Vl) (ao : Option Addr) (L cap c : Nat) (pb vb lb cb : Bool) (hl : ((L : Int) == (c : Int)) = lb) (N : Bt Try.prog 30 #[.agg #[.int .i64 v.k, .int .i64 v.n, .float .f64 v.f, .string v.s]] vb)
    (D : ∀ w : World, Calls Try.prog 31 #[.string name] w fun e w' => e = .returned (.tuple #[.int .i64 c, .bool pb]) ∧ w = w') (w : World)
    (K : ∀ w', Below w.heap.size w w' → Calls Try.prog 32 #[.slice ao L cap, .func (.func 33) #[] #[]] w' fun e w'' => e = .returned (.bool cb) ∧ Below w'.heap.size w' w'') :
    Calls Try.prog 22 #[.agg #[.int .i64 3, .string name, .int .i64 v.k, .int .i64 v.n, .float .f64 v.f, .string v.s, .slice ao L cap]] w fun e w' => e = .returned (.bool (pb && (vb && (lb && !cb)))) ∧ Below w.heap.size w w' := by
  have c0 := below_a1 w (.cells #[.int .i64 3, .string name, .int .i64 v.k, .int .i64 v.n, .float .f64 v.f, .string v.s, .slice ao L cap] 27)
  have L0 : ∀ j, j < 7 → (w.alloc (.cells #[.int .i64 3, .string name, .int .i64 v.k, .int .i64 v.n, .float .f64 v.f, .string v.s, .slice ao L cap] 27)).cell? ⟨w.heap.size, j, none⟩ = #[.int .i64 3, .string name, .int .i64 v.k, .int .i64 v.n, .float .f64 v.f, .string v.s, .slice ao L cap][j]? := fun j hj => (Vr.new w _ _).cell j
  have L6 := L0 6 (by decide)
  have lt : w.heap.size < (w.alloc (.cells #[.int .i64 3, .string name, .int .i64 v.k, .int .i64 v.n, .float .f64 v.f, .string v.s, .slice ao L cap] 27)).heap.size := by simp
  cases pb
  · go_enter Try.func22, Try.ntmps22
    go_wp2_with fail
    refine (D _).mono ?_; rintro e w2 ⟨rfl, rfl⟩
    go_wp2_with fail
    go_ret
    exact ⟨rfl, c0⟩
  · cases vb
    · go_enter Try.func22, Try.ntmps22
      go_wp2_with fail
      refine (D _).mono ?_; rintro e w2 ⟨rfl, rfl⟩
      go_wp2_with fail
      refine (N _).mono ?_; rintro e w2 ⟨rfl, hb2⟩
      go_wp2_with fail
      go_ret
      exact ⟨rfl, Below.chain c0 hb2⟩
    · cases lb
      · go_enter Try.func22, Try.ntmps22
        go_wp2_with fail
        refine (D _).mono ?_; rintro e w2 ⟨rfl, rfl⟩
        go_wp2_with fail
        refine (N _).mono ?_; rintro e w2 ⟨rfl, hb2⟩
        have q6 := (hb2.cell (p := ⟨w.heap.size, 6, none⟩) lt).trans L6
        simp at q6
        go_wp2_with fail
        go_ret
        exact ⟨rfl, Below.chain c0 hb2⟩
      · cases cb
        all_goals
          go_enter Try.func22, Try.ntmps22
          go_wp2_with fail
          refine (D _).mono ?_; rintro e w2 ⟨rfl, rfl⟩
          go_wp2_with fail
          refine (N _).mono ?_; rintro e w2 ⟨rfl, hb2⟩
          have q6 := (hb2.cell (p := ⟨w.heap.size, 6, none⟩) lt).trans L6
          simp at q6
          go_wp2_with fail
          refine (K _ (Below.chain c0 hb2)).mono ?_; rintro e w3 ⟨rfl, hb3⟩
          go_wp2_with fail
          go_ret
          exact ⟨rfl, Below.chain (Below.chain c0 hb2) hb3⟩
theorem malf_any (t : Ex) (x : Xc) (h : ∀ w, Tx w t x → Calls Try.prog 22 #[xv x] w fun e w' => e = .returned (.bool (formed t)) ∧ Below w.heap.size w w') (w : World) (hT : Tx w t x) :
    Calls Try.prog 33 #[xv x] w fun e w' => e = .returned (.bool (!formed t)) ∧ Below w.heap.size w w' := by
  have c0 := below_a1 w (.cells #[.int .i64 x.kind, .string x.name, .int .i64 x.v.k, .int .i64 x.v.n, .float .f64 x.v.f, .string x.v.s, .slice x.ao x.len x.cap] 27)
  have C := Lib.hid (h _ (hT.keep c0))
  clear h hT
  generalize formed t = r at *
  go_enter Try.func33, Try.ntmps33
  go_wp2_with fail
  (with_reducible refine C.out.mono ?_); rintro e w2 ⟨rfl, hb2⟩
  go_wp2_with fail
  go_ret
  exact ⟨rfl, Below.chain c0 hb2⟩
theorem formedL_app (l m : List Ex) : formedL (l ++ m) = (formedL l && formedL m) := by
  induction l with
  | nil => rw [formedL]; simp
  | cons x l ih => rw [List.cons_append, formedL, formedL, ih, Bool.and_assoc]
theorem formedL_take (l : List Ex) (i : Nat) (h : i < l.length) : formedL (l.take (i + 1)) = (formedL (l.take i) && formed l[i]) := by
  rw [List.take_succ_eq_append_getElem h, formedL_app, formedL, formedL, Bool.and_true]
theorem formedL_bad (l : List Ex) (i : Nat) (h : i < l.length) (hb : formed l[i] = false) : formedL l = false := by
  have e := formedL_app (l.take (i + 1)) (l.drop (i + 1))
  rw [List.take_append_drop, formedL_take l i h, hb] at e
  rw [e]; simp
set_option maxHeartbeats 1000000 in
theorem index_any (kids : List Ex) (xs : List Xc) (ao : Option Addr) (L cap : Nat) (w : World) (hr : RwX w (.slice ao L cap) xs) (hk : Txs w kids xs)
    (ih : ∀ t ∈ kids, ∀ (x : Xc) (w : World), Tx w t x → Calls Try.prog 22 #[xv x] w fun e w' => e = .returned (.bool (formed t)) ∧ Below w.heap.size w w') :
    Calls Try.prog 44 #[.slice ao L cap, .func (.func 33) #[] #[]] w fun e w' => ∃ r : Int, e = .returned (.int .i64 r) ∧ decide (r ≥ 0) = (!formedL kids) ∧ Below w.heap.size w w' := by
  have hLx : xs.length = L := by obtain ⟨a, c, e, -⟩ := hr; cases e; rfl
  have hLm : L ≤ 9223372036854775807 := by obtain ⟨a, c, e, e1, e2, -⟩ := hr; cases e; simp only [maxLen] at e2; omega
  have hLk : kids.length = L := hk.1.trans hLx
  have HR := Lib.hid hr
  have HK := Lib.hid hk
  have IH := Lib.hid ih
  have HL := Lib.hid hLk
  have HX := Lib.hid hLx
  clear hr hk ih hLk hLx
  go_enter Try.func44, Try.ntmps44
  go_wp2_with fail
  go_loopg [8] L (fun g s8 wr => ∃ (i : Nat), g + i = L ∧ s8 = .int .i64 i ∧ formedL (kids.take i) = true ∧ Below w.heap.size w wr)
  case atStart => exact ⟨0, rfl, rfl, by rw [List.take_zero, formedL], Below.refl _ _⟩
  case round =>
    obtain ⟨i, hg, rfl, hy, hb⟩ := hrel
    by_cases hlt : i < L
    · have ii : (i : Int) < (L : Int) := by omega
      have hi : i < kids.length := by rw [HL.out]; exact hlt
      have hix : i < xs.length := by rw [HX.out]; exact hlt
      have hRw := HR.out.keep hb
      have hT : Tx wr kids[i] xs[i] := (HK.out.2 i hi hix).keep hb
      obtain ⟨ao', cap', he, -, -, -, hc⟩ := hRw
      simp only [Value.slice.injEq] at he
      obtain ⟨rfl, -, rfl⟩ := he
      obtain ⟨b, o, rfl, hcell⟩ := hc i hix
      have q0 := hcell 0 (by decide)
      have q1 := hcell 1 (by decide)
      have q2 := hcell 2 (by decide)
      have q3 := hcell 3 (by decide)
      have q4 := hcell 4 (by decide)
      have q5 := hcell 5 (by decide)
      have q6 := hcell 6 (by decide)
      simp only [encX, List.getElem?_cons_zero, List.getElem?_cons_succ, Nat.add_zero] at q0 q1 q2 q3 q4 q5 q6
      have C := Lib.hid (malf_any kids[i] xs[i] (fun w => IH.out _ (List.getElem_mem hi) _ w) wr hT)
      have HF := Lib.hid (formedL_take kids i hi)
      have HB := Lib.hid (formedL_bad kids i hi)
      clear hT hc hcell
      generalize xs[i] = z at *
      generalize formed kids[i] = r at *
      cases r
      · go_wp2_with fail
        (with_reducible refine C.out.mono ?_); rintro e w2 ⟨rfl, hb2⟩
        go_wp2_with fail
        go_ret
        exact ⟨_, rfl, by rw [HB.out trivial]; simp, Below.chain hb hb2⟩
      · go_wp2_with fail
        (with_reducible refine C.out.mono ?_); rintro e w2 ⟨rfl, hb2⟩
        go_wp2_with fail
        go_roundg (L - (i + 1))
        case rel => exact ⟨i + 1, by omega, by go_num, by rw [HF.out, hy]; rfl, Below.chain hb hb2⟩
        case measure => omega
    · obtain rfl : L = i := by omega
      have ii : ¬ ((L : Int) < (L : Int)) := by omega
      have ht : kids.take L = kids := List.take_of_length_le (by rw [HL.out]; exact Nat.le_refl _)
      rw [ht] at hy
      go_wp2_with fail
      go_ret
      exact ⟨_, rfl, by first | decide | (rw [hy]; rfl), hb⟩
theorem contains_any (kids : List Ex) (xs : List Xc) (ao : Option Addr) (L cap : Nat) (w : World) (hr : RwX w (.slice ao L cap) xs) (hk : Txs w kids xs)
    (ih : ∀ t ∈ kids, ∀ (x : Xc) (w : World), Tx w t x → Calls Try.prog 22 #[xv x] w fun e w' => e = .returned (.bool (formed t)) ∧ Below w.heap.size w w') :
    Calls Try.prog 32 #[.slice ao L cap, .func (.func 33) #[] #[]] w fun e w' => e = .returned (.bool (!formedL kids)) ∧ Below w.heap.size w w' := by
  have C := Lib.hid (index_any kids xs ao L cap w hr hk ih)
  clear hr hk ih
  generalize (!formedL kids) = R at *
  go_enter Try.func32, Try.ntmps32
  go_wp2_with fail
  (with_reducible refine C.out.mono ?_); rintro e w2 ⟨r, rfl, hr, hb2⟩
  go_wp2_with fail
  go_ret
  exact ⟨by rw [← hr]; rfl, hb2⟩
theorem formed_any : ∀ (t : Ex) (x : Xc) (w : World), Tx w t x →
    Calls Try.prog 22 #[xv x] w fun e w' => e = .returned (.bool (formed t)) ∧ Below w.heap.size w w' := by
  refine fun t => ex_ind (P := fun t => ∀ (x : Xc) (w : World), Tx w t x → Calls Try.prog 22 #[xv x] w fun e w' => e = .returned (.bool (formed t)) ∧ Below w.heap.size w w') ?_ t
  intro kind name v kids ih x w h
  obtain ⟨rfl, rfl, rfl, hv, xs, hr, hk⟩ := Tx.inv h
  have hL : x.len = kids.length := by
    obtain ⟨a, c, e, -⟩ := hr
    simp only [Value.slice.injEq] at e
    exact e.2.1.trans hk.1.symm
  by_cases h1 : x.kind = 1
  · have := formed_1 x.name x.v x.ao x.len x.cap _ _ _ rfl rfl (fun w => right_any x.v.k x.v.n x.v.f hv.f2 x.v.s w) w
    rw [formed, if_pos h1]
    rw [← h1] at this
    refine this.mono fun e w' he => ret_bool' ?_ he
    rw [hL, Bool.eq_iff_iff]
    simp [Vl.right]
    grind
  · by_cases h2 : x.kind = 2
    · have := formed_2 x.name x.v x.ao x.len x.cap _ _ _ rfl rfl (fun w => nothing_any x.v hv w) w
      rw [formed, if_neg h1, if_pos h2]
      rw [← h2] at this
      refine this.mono fun e w' he => ret_bool' ?_ he
      rw [hL, Bool.eq_iff_iff]
      simp
      grind
    · by_cases h3 : x.kind = 3
      · have := formed_3 x.name x.v x.ao x.len x.cap (opN x.name) _ _ _ _ rfl (fun w => nothing_any x.v hv w) (fun w => places_any x.name w) w (fun w' hb => contains_any kids xs x.ao x.len x.cap w' (hr.keep hb) (hk.keep hb) ih)
        rw [formed, if_neg h1, if_neg h2, if_pos h3]
        rw [← h3] at this
        refine this.mono fun e w' he => ret_bool' ?_ he
        rw [hL, Bool.eq_iff_iff]
        simp
        grind
      · rw [formed, if_neg h1, if_neg h2, if_neg h3]
        exact formed_0 x.kind x.name x.v x.ao x.len x.cap (by simp [h1]) (by simp [h2]) (by simp [h3]) w
theorem xright_any (t : Ex) (x : Xc) (w : World) (h : Tx w t x) : Calls Try.prog 10 #[xv x] w fun e w' => e = .returned (.bool (rightE t)) ∧ Below w.heap.size w w' := by
  have c0 := below_a1 w (.cells #[.int .i64 x.kind, .string x.name, .int .i64 x.v.k, .int .i64 x.v.n, .float .f64 x.v.f, .string x.v.s, .slice x.ao x.len x.cap] 27)
  have hL := lies7_new w x 27 #[.int .i64 x.kind, .string x.name, .int .i64 x.v.k, .int .i64 x.v.n, .float .f64 x.v.f, .string x.v.s, .slice x.ao x.len x.cap] rfl
  have C := Lib.hid (xdepth_any t x _ (h.keep c0))
  have F := Lib.hid fun w' hb => formed_any t x w' ((h.keep c0).keep hb)
  have HL := Lib.hid hL
  clear h hL
  have hd : decide (((min (deep t) 51 : Nat) : Int) ≤ 50) = decide (deep t ≤ 50) := by rw [Bool.eq_iff_iff]; simp; omega
  unfold rightE
  by_cases h50 : deep t ≤ 50
  · have hi : ((min (deep t) 51 : Nat) : Int) ≤ 50 := by omega
    rw [decide_eq_true h50, Bool.true_and]
    clear hd
    generalize min (deep t) 51 = d at *
    generalize formed t = r at *
    go_enter Try.func10, Try.ntmps10
    go_wp2_with fail
    (with_reducible refine C.out.mono ?_); rintro e w2 ⟨rfl, hb2⟩
    obtain ⟨q0, q1, q2, q3, q4, q5, q6⟩ := (HL.out.keep hb2).at
    go_wp2_with fail
    (with_reducible refine (F.out _ hb2).mono ?_); rintro e w3 ⟨rfl, hb3⟩
    go_wp2_with fail
    go_ret
    exact ⟨rfl, Below.chain (Below.chain c0 hb2) hb3⟩
  · have hi : ¬ ((min (deep t) 51 : Nat) : Int) ≤ 50 := by omega
    rw [decide_eq_false h50, Bool.false_and]
    clear hd
    generalize min (deep t) 51 = d at *
    go_enter Try.func10, Try.ntmps10
    go_wp2_with fail
    (with_reducible refine C.out.mono ?_); rintro e w2 ⟨rfl, hb2⟩
    go_wp2_with fail
    go_ret
    exact ⟨rfl, Below.chain c0 hb2⟩
end Go.Proofs.Ytfhnjilflffdfaa
