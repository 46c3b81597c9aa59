import Derived.Test.YtlnmjbheohkanaaK5
namespace Go.Proofs.Ytlnmjbheohkanaa
open Go Go.RowKit
set_option linter.unusedVariables false
theorem rterm_low (x : Xc) (n : Int) (hn : n < 1) (w : World) : Calls Try.prog 22 #[xv x, .int .i64 n] w fun e w' => e = .returned (.bool false) ∧ Below w.heap.size w w' := by
  have c0 := below_a1 w (.cells (xcs x) 28)
  go_enter Try.func22, Try.ntmps22
  go_wp2_with fail
  go_ret
  exact ⟨rfl, c0⟩
theorem rterm_any : ∀ (t : Ex) (x : Xc) (n : Int) (w : World), 0 ≤ n → n ≤ 50 → Tx w t x →
    Calls Try.prog 22 #[xv x, .int .i64 n] w fun e w' => e = .returned (.bool (termE n t)) ∧ Below w.heap.size w w' := by
  refine fun t => ex_ind (P := fun t => ∀ (x : Xc) (n : Int) (w : World), 0 ≤ n → n ≤ 50 → Tx w t x → Calls Try.prog 22 #[xv x, .int .i64 n] w fun e w' => e = .returned (.bool (termE n t)) ∧ Below w.heap.size w w') ?_ t
  intro kind name v kids ih x n w n0 n2 h
  by_cases hn : n < 1
  · rw [termE_low n _ hn]
    exact rterm_low x n hn w
  have n1 : 1 ≤ n := by omega
  obtain ⟨rfl, rfl, rfl, hv, xs, hr, hk⟩ := Tx.inv h
  have hL : kids.length = x.len := by
    obtain ⟨a, c, e, -⟩ := hr
    simp only [Value.slice.injEq] at e
    exact hk.1.trans e.2.1.symm
  have IH := fun t (ht : t ∈ kids) (x : Xc) (w : World) (hT : Tx w t x) => ih t ht x (n - 1) w (by omega) (by omega) hT
  rw [termE_node n _ _ _ _ n1]
  have fin : ∀ {a b : Bool} {e : Ending} {w' : World}, a = b → (e = .returned (.bool a) ∧ Below w.heap.size w w') → e = .returned (.bool b) ∧ Below w.heap.size w w' := fun h hh => h ▸ hh
  by_cases k4 : x.kind = 4
  · have C := fun w => bare_any x hv w
    have ex : xv x = .agg #[.int .i64 4, .string x.name, .int .i64 x.v.k, .int .i64 x.v.n, .float .f64 x.v.f, .string x.v.s, .slice x.ao x.len x.cap] := by unfold xv; rw [k4]
    rw [ex] at C ⊢
    refine (rterm_4 x.name x.v x.ao x.len x.cap n n1 n2 _ _ _ _ _ rfl rfl rfl C w kids xs hL rfl hr hk IH).mono fun e w' hh => fin ?_ hh
    rw [k4, ← hL]
    unfold nameOk kidsN
    rw [Bool.eq_iff_iff]
    simp
  by_cases k5 : x.kind = 5
  · have C := fun w => bare_any x hv w
    have ex : xv x = .agg #[.int .i64 5, .string x.name, .int .i64 x.v.k, .int .i64 x.v.n, .float .f64 x.v.f, .string x.v.s, .slice x.ao x.len x.cap] := by unfold xv; rw [k5]
    rw [ex] at C ⊢
    refine (rterm_5 x.name x.v x.ao x.len x.cap n n1 n2 _ _ _ _ _ rfl rfl rfl C w kids xs hL rfl hr hk IH).mono fun e w' hh => fin ?_ hh
    rw [k5, ← hL]
    unfold nameOk kidsN
    rw [Bool.eq_iff_iff]
    simp
  by_cases k6 : x.kind = 6
  · have C := fun w => bare_any x hv w
    have ex : xv x = .agg #[.int .i64 6, .string x.name, .int .i64 x.v.k, .int .i64 x.v.n, .float .f64 x.v.f, .string x.v.s, .slice x.ao x.len x.cap] := by unfold xv; rw [k6]
    rw [ex] at C ⊢
    refine (rterm_6 x.name x.v x.ao x.len x.cap n n1 n2 _ _ _ _ _ rfl rfl rfl C w kids xs hL rfl hr hk IH).mono fun e w' hh => fin ?_ hh
    rw [k6, ← hL]
    unfold nameOk kidsN
    rw [Bool.eq_iff_iff]
    simp
  by_cases k7 : x.kind = 7
  · have C := fun w => bare_any x hv w
    have ex : xv x = .agg #[.int .i64 7, .string x.name, .int .i64 x.v.k, .int .i64 x.v.n, .float .f64 x.v.f, .string x.v.s, .slice x.ao x.len x.cap] := by unfold xv; rw [k7]
    rw [ex] at C ⊢
    refine (rterm_7 x.name x.v x.ao x.len x.cap n n1 n2 _ _ _ _ _ rfl rfl rfl C w kids xs hL rfl hr hk IH).mono fun e w' hh => fin ?_ hh
    rw [k7, ← hL]
    unfold nameOk kidsN
    rw [Bool.eq_iff_iff]
    simp
  by_cases k8 : x.kind = 8
  · have C := fun w => bare_any x hv w
    have ex : xv x = .agg #[.int .i64 8, .string x.name, .int .i64 x.v.k, .int .i64 x.v.n, .float .f64 x.v.f, .string x.v.s, .slice x.ao x.len x.cap] := by unfold xv; rw [k8]
    rw [ex] at C ⊢
    refine (rterm_8 x.name x.v x.ao x.len x.cap n n1 n2 _ _ _ _ _ rfl rfl rfl C w kids xs hL rfl hr hk IH).mono fun e w' hh => fin ?_ hh
    rw [k8, ← hL]
    unfold nameOk kidsN
    rw [Bool.eq_iff_iff]
    simp
  have C := fun w => bare_any x hv w
  refine (rterm_o x.kind x.name x.v x.ao x.len x.cap n n1 n2 (by simp [k4]) (by simp [k5]) (by simp [k6]) (by simp [k7]) (by simp [k8]) _ _ _ _ _ rfl rfl rfl C w kids xs hL rfl hr hk IH).mono fun e w' hh => fin ?_ hh
  have e1 : kidsN x.kind = -1 := by unfold kidsN; rw [if_neg (by simp [k4, k5]), if_neg k6, if_neg (by simp [k7, k8])]
  rw [e1, ← hL]
  have e2 : ((kids.length : Int) == -1) = false := by simp
  have e3 : decide ((kids.length : Int) = -1) = false := by simp
  rw [e2, e3]; simp
theorem rright_0 (x : Xc) (hk : (x.kind == 0) = true) (hv : x.v.Ok) (w : World) : Calls Try.prog 20 #[xv x] w fun e w' => e = .returned (.bool (x.v.nought && ((x.name.toList == []) && ((x.len : Int) == 0)))) ∧ Below w.heap.size w w' := by
  have c0 := below_a1 w (.cells (xcs x) 28)
  have Lz := Lib.hid (lies7_new w x 28 (xcs x) rfl)
  have C := Lib.hid (bare_any x hv)
  clear hv
  generalize x.v.nought = vb at *
  generalize hn : (x.name.toList == []) = nb at *
  generalize hl : ((x.len : Int) == 0) = lb at *
  cases vb <;> cases nb <;> cases lb
  all_goals
    go_enter Try.func20, Try.ntmps20
    go_wp2_with fail
    (with_reducible refine (C.out _).mono ?_); rintro e w2 ⟨rfl, hb2⟩
    have ⟨q0, q1, q2, q3, q4, q5, q6⟩ := (Lz.out.keep hb2).at
    go_wp2_with fail
    go_ret
    exact ⟨rfl, Below.chain c0 hb2⟩
theorem rright_1 (x : Xc) (hk : (x.kind == 0) = false) (b : Bool) (w : World) (C : ∀ w1, Below w.heap.size w w1 → Calls Try.prog 22 #[xv x, .int .i64 50] w1 fun e w' => e = .returned (.bool b) ∧ Below w1.heap.size w1 w') : Calls Try.prog 20 #[xv x] w fun e w' => e = .returned (.bool b) ∧ Below w.heap.size w w' := by
  have c0 := below_a1 w (.cells (xcs x) 28)
  have C1 := Lib.hid (C _ c0)
  clear C
  go_enter Try.func20, Try.ntmps20
  go_wp2_with fail
  (with_reducible refine C1.out.mono ?_); rintro e w2 ⟨rfl, hb2⟩
  go_wp2_with fail
  go_ret
  exact ⟨rfl, Below.chain c0 hb2⟩
theorem rright6_any (t : Ex) (x : Xc) (w : World) (h : Tx w t x) : Calls Try.prog 20 #[xv x] w fun e w' => e = .returned (.bool (rightL t)) ∧ Below w.heap.size w w' := by
  have C := fun w1 (hb : Below w.heap.size w w1) => rterm_any t x 50 w1 (by decide) (by decide) (h.keep hb)
  cases t with
  | node kind name v kids =>
    obtain ⟨rfl, rfl, rfl, hv, xs, hr, hk⟩ := Tx.inv h
    have hL : kids.length = x.len := by
      obtain ⟨a, c, e, -⟩ := hr
      simp only [Value.slice.injEq] at e
      exact hk.1.trans e.2.1.symm
    rw [rightL]
    by_cases h0 : x.kind = 0
    · rw [if_pos h0, hL]
      refine (rright_0 x (by simp [h0]) hv w).mono fun e w' hh => ret_bool' ?_ hh
      rw [Bool.eq_iff_iff]
      simp
      grind
    · rw [if_neg h0]
      exact rright_1 x (by simp [h0]) _ w C
end Go.Proofs.Ytlnmjbheohkanaa
