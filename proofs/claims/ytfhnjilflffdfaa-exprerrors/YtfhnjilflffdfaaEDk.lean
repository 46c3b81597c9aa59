import Derived.Test.YtfhnjilflffdfaaEDj
namespace Go.Proofs.Ytfhnjilflffdfaa
open Go Go.RowKit
set_option linter.unusedVariables false
theorem kid_at {w : World} {ao : Option Addr} {len cap : Nat} {xs : List Xc} (h : RwX w (.slice ao len cap) xs) (i : Nat) (hi : i < xs.length) : ∃ b o, ao = some ⟨b, o, none⟩ ∧ Kid w b (o + i * 7) xs[i] := by
  obtain ⟨ao', cap', he, -, -, -, h5⟩ := h
  cases he
  obtain ⟨b, o, ha, hc⟩ := h5 i hi
  exact ⟨b, o, ha, hc 0 (by omega), hc 1 (by omega), hc 2 (by omega), hc 3 (by omega), hc 4 (by omega), hc 5 (by omega), hc 6 (by omega)⟩
theorem evx_ok {l : List Pr} (hl : PsOk l) {w : World} {t : Ex} {x : Xc} (h : Tx w t x) (hf : formed t = true) {r : Vl × Bool} (he : ev l t = some r) : r.1.right = true ∧ r.1.Ok :=
  ev_ok hl hf (fun kind name v kids e => by subst e; exact (Tx.inv h).2.2.2.1) he
theorem ofI_bad (k n : Int) (h : ¬ ofE k n = 0) : ofI k n = 2 := by
  unfold ofE at h
  unfold ofI
  by_cases a : k = 0
  · rw [if_pos a] at h; exact absurd rfl h
  · rw [if_neg a] at h
    by_cases b : k = 1 ∧ n = 0
    · rw [if_pos b] at h; exact absurd rfl h
    · rw [if_neg b] at h
      by_cases c : k = 1 ∧ n = 1
      · rw [if_pos c] at h; exact absurd rfl h
      · rw [if_neg a, if_neg b, if_neg c]
/-- what the reckoner makes of an expression -/
def Vout (R : Nat) (v : Value) (o : Bool) (r : Res) (x : Xc) (w : World) : Prop :=
  (∀ u o1, r = some (u, o1) → Calls Try.prog 25 #[.pointer (some ⟨R, 0, none⟩), xv x] w fun e w' => e = .returned (avl u) ∧ Rk w' R v (o || o1) ∧ w.grownBy w' (some R)) ∧
  (r = none → Calls Try.prog 25 #[.pointer (some ⟨R, 0, none⟩), xv x] w fun e w' => e = bad4 ∧ w.grownBy w' (some R))
theorem value_all (R : Nat) (v : Value) (l : List Pr) (hl : PsOk l) (w0 : World) (hp : RwP w0 v l) (hR0 : w0.heap.size ≤ R) : ∀ (t : Ex) (x : Xc) (o : Bool) (w : World), formed t = true → Tx w0 t x → Below w0.heap.size w0 w → Rk w R v o → Vout R v o (ev l t) x w := by
  refine fun t => ex_ind (P := fun t => ∀ (x : Xc) (o : Bool) (w : World), formed t = true → Tx w0 t x → Below w0.heap.size w0 w → Rk w R v o → Vout R v o (ev l t) x w) ?_ t
  intro kind name vv kids ih x o w hf hT hB hR
  obtain ⟨rfl, rfl, rfl, hv, xs, hr, hk⟩ := Tx.inv hT
  have up : ∀ {u : Vl} {e : Ending} {w' : World}, (e = .returned (avl u) ∧ Below w.heap.size w w') → e = .returned (avl u) ∧ Rk w' R v (o || false) ∧ w.grownBy w' (some R) := fun ⟨h1, h2⟩ => ⟨h1, by rw [Bool.or_false]; exact hR.keep h2, grown_of_below _ h2⟩
  rw [formed] at hf
  rw [ev]
  by_cases h1 : x.kind = 1
  · rw [if_pos h1]
    refine ⟨fun u o1 h => ?_, fun h => by cases h⟩
    cases h
    have := value_lit R x.name x.v x.ao x.len x.cap w
    rw [← h1] at this
    exact this.mono fun e w' h => up h
  rw [if_neg h1]
  rw [if_neg h1] at hf
  by_cases h2 : x.kind = 2
  · rw [if_pos h2]
    refine ⟨fun u o1 h => ?_, fun h => by cases h⟩
    cases h
    have := value_prop R x.name x.v x.ao x.len x.cap v l w hR.c0 (hp.keep hB)
    rw [← h2] at this
    exact this.mono fun e w' h => up h
  rw [if_neg h2]
  rw [if_neg h2] at hf
  have h3 : x.kind = 3 := by
    by_cases h3 : x.kind = 3
    · exact h3
    · rw [if_neg h3] at hf; cases hf
  rw [if_pos h3] at hf
  simp only [Bool.and_eq_true, decide_eq_true_eq] at hf
  obtain ⟨⟨⟨-, hn0⟩, hn⟩, hfl⟩ := hf
  have hlen : x.len = xs.length := by
    obtain ⟨a, c, e, -⟩ := hr
    simp only [Value.slice.injEq] at e
    exact e.2.1
  have hcase : opN x.name = 1 ∨ opN x.name = 2 := by
    unfold opN at hn0 ⊢
    split
    · exact .inr rfl
    · rename_i hm
      rw [if_neg hm] at hn0
      split
      · exact .inl rfl
      · rename_i hm2
        rw [if_neg hm2] at hn0
        exact absurd rfl hn0
  rcases hcase with hc | hc
  · match kids, xs, hk, hn, hfl, ih, hr, hlen with
    | [t1], [z], hk, hn, hfl, ih, hr, hlen =>
      obtain ⟨b, oo, ha, hK⟩ := kid_at hr 0 (by simp)
      simp only [Nat.zero_mul, Nat.add_zero, List.getElem_cons_zero] at hK
      have hT1 : Tx w0 t1 z := hk.2 0 (by simp) (by simp)
      have hf1 : formed t1 = true := by rw [formedL, formedL, Bool.and_true] at hfl; exact hfl
      have IH := fun w1 (hb : Below w.heap.size w w1) (hr1 : Rk w1 R v o) => ih t1 (by simp) z o w1 hf1 hT1 (Below.chain hB hb) hr1
      rw [evL, evL]
      have ex : xv x = .agg #[.int .i64 3, .string x.name, .int .i64 x.v.k, .int .i64 x.v.n, .float .f64 x.v.f, .string x.v.s, .slice (some ⟨b, oo, none⟩) 1 x.cap] := by
        unfold xv; rw [h3, ha, hlen]; rfl
      unfold Vout
      rw [ex]
      cases he : ev l t1 with
      | none =>
        refine ⟨fun u o1 h => by simp [combL] at h, fun _ => ?_⟩
        exact value_first_bad R x.name x.v b oo x.cap z 1 (Nat.le_refl _) v o w (hK.keep hB) hR (fun w1 hb hr1 => (IH w1 hb hr1).2 he)
      | some r =>
        obtain ⟨a, oa⟩ := r
        have e1 : combL x.name [some (a, oa)] = comb1 x.name (a, oa) := rfl
        rw [e1, comb1_flags]
        have hC := fun w1 (hb : Below w.heap.size w w1) (hr1 : Rk w1 R v o) => (IH w1 hb hr1).1 a oa he
        refine ⟨fun u o1 h => ?_, fun h => ?_⟩
        · cases hq : comb1 x.name (a, false) with
          | none => rw [hq] at h; cases h
          | some q =>
            obtain ⟨u', o'⟩ := q
            rw [hq] at h
            simp only [Option.map_some, Option.some.injEq, Prod.mk.injEq] at h
            obtain ⟨rfl, rfl⟩ := h
            obtain rfl : o' = false := ((one_all x.name a w).1 _ _ hq).1
            rw [Bool.or_false]
            exact value_one_ok R x.name x.v b oo x.cap z v o (o || oa) a _ w (hK.keep hB) hR hC (fun w1 => ((one_all x.name a w1).1 _ _ hq).2)
        · have hq : comb1 x.name (a, false) = none := by
            cases hq : comb1 x.name (a, false) with
            | none => rfl
            | some q => rw [hq] at h; cases h
          exact value_one_bad R x.name x.v b oo x.cap z v o (o || oa) a w (hK.keep hB) hR hC (fun w1 => (one_all x.name a w1).2 hq)
    | [], _, hk, hn, _, _, _, _ => rw [hc] at hn; cases hn
    | _ :: _ :: _, _, hk, hn, _, _, _, _ => rw [hc] at hn; simp at hn
    | [_], [], hk, _, _, _, _, _ => cases hk.1
    | [_], _ :: _ :: _, hk, _, _, _, _, _ => have := hk.1; simp at this
  · match kids, xs, hk, hn, hfl, ih, hr, hlen with
    | [t1, t2], [z, z2], hk, hn, hfl, ih, hr, hlen =>
      obtain ⟨b, oo, ha, hK⟩ := kid_at hr 0 (by simp)
      obtain ⟨b', oo', ha', hK2⟩ := kid_at hr 1 (by simp)
      rw [ha] at ha'
      cases ha'
      simp only [Nat.zero_mul, Nat.one_mul, Nat.add_zero, List.getElem_cons_zero, List.getElem_cons_succ] at hK hK2
      have hT1 : Tx w0 t1 z := hk.2 0 (by simp) (by simp)
      have hT2 : Tx w0 t2 z2 := hk.2 1 (by simp) (by simp)
      have hf12 : formed t1 = true ∧ formed t2 = true := by rw [formedL, formedL, formedL, Bool.and_true, Bool.and_eq_true] at hfl; exact hfl
      have IH1 := fun w1 (hb : Below w.heap.size w w1) (hr1 : Rk w1 R v o) => ih t1 (by simp) z o w1 hf12.1 hT1 (Below.chain hB hb) hr1
      have IH2 := fun p w1 (hg : w.grownBy w1 (some R)) (hr1 : Rk w1 R v p) => ih t2 (by simp) z2 p w1 hf12.2 hT2 (hB.grown hg hB.size (fun k hk => by cases hk; exact hR0)) hr1
      have hbR : b ≠ R := by have := hK.lt; omega
      rw [evL, evL, evL]
      have ex : xv x = .agg #[.int .i64 3, .string x.name, .int .i64 x.v.k, .int .i64 x.v.n, .float .f64 x.v.f, .string x.v.s, .slice (some ⟨b, oo, none⟩) 2 x.cap] := by
        unfold xv; rw [h3, ha, hlen]; rfl
      unfold Vout
      rw [ex]
      cases he : ev l t1 with
      | none =>
        refine ⟨fun u o1 h => by simp [combL] at h, fun _ => ?_⟩
        exact value_first_bad R x.name x.v b oo x.cap z 2 (by omega) v o w (hK.keep hB) hR (fun w1 hb hr1 => (IH1 w1 hb hr1).2 he)
      | some r =>
        obtain ⟨a, oa⟩ := r
        have hC := fun w1 (hb : Below w.heap.size w w1) (hr1 : Rk w1 R v o) => (IH1 w1 hb hr1).1 a oa he
        cases he2 : ev l t2 with
        | none =>
          refine ⟨fun u o1 h => by simp [combL] at h, fun _ => ?_⟩
          exact value_two_b R x.name x.v b oo x.cap z z2 v o (o || oa) a w (hK.keep hB) (hK2.keep hB) hR hbR hC (fun w1 hg hr1 => (IH2 _ w1 hg hr1).2 he2)
        | some r2 =>
          obtain ⟨a2, ob⟩ := r2
          have hC2 := fun w1 (hg : w.grownBy w1 (some R)) (hr1 : Rk w1 R v (o || oa)) => (IH2 _ w1 hg hr1).1 a2 ob he2
          have ka := evx_ok hl hT1 hf12.1 he
          have kb := evx_ok hl hT2 hf12.2 he2
          have hD := fun w1 (hr1 : Rk w1 R v (o || oa || ob)) => two_all R x.name hc a a2 ka kb v _ w1 hr1
          have e1 : combL x.name [some (a, oa), some (a2, ob)] = comb2 x.name (a, oa) (a2, ob) := rfl
          rw [e1, comb2_flags]
          refine ⟨fun u o1 h => ?_, fun h => ?_⟩
          · cases hq : comb2 x.name (a, false) (a2, false) with
            | none => rw [hq] at h; cases h
            | some q =>
              obtain ⟨u', o'⟩ := q
              rw [hq] at h
              simp only [Option.map_some, Option.some.injEq, Prod.mk.injEq] at h
              obtain ⟨rfl, rfl⟩ := h
              have := value_two_ok R x.name x.v b oo x.cap z z2 v o (o || oa) (o || oa || ob) (o || oa || ob || o') a a2 _ w (hK.keep hB) (hK2.keep hB) hR hbR hC hC2 (fun w1 hr1 => (hD w1 hr1).1 _ _ hq)
              rw [show (o || (oa || ob || o')) = (o || oa || ob || o') by simp [Bool.or_assoc]]
              exact this
          · have hq : comb2 x.name (a, false) (a2, false) = none := by
              cases hq : comb2 x.name (a, false) (a2, false) with
              | none => rfl
              | some q => rw [hq] at h; cases h
            exact value_two_bad R x.name x.v b oo x.cap z z2 v o (o || oa) (o || oa || ob) a a2 w (hK.keep hB) (hK2.keep hB) hR hbR hC hC2 (fun w1 hr1 => (hD w1 hr1).2 hq)
    | [], _, hk, hn, _, _, _, _ => rw [hc] at hn; cases hn
    | [_], _, hk, hn, _, _, _, _ => rw [hc] at hn; simp at hn
    | _ :: _ :: _ :: _, _, hk, hn, _, _, _, _ => rw [hc] at hn; simp at hn
    | [_, _], [], hk, _, _, _, _, _ => cases hk.1
    | [_, _], [_], hk, _, _, _, _, _ => have := hk.1; simp at this
    | [_, _], _ :: _ :: _ :: _, hk, _, _, _, _, _ => have := hk.1; simp at this
theorem xeval_any (t : Ex) (x : Xc) (v : Value) (l : List Pr) (w : World) (h : Tx w t x) (hp : RwP w v l) (hl : PsOk l) : Calls Try.prog 12 #[xv x, v] w fun e w' => e = .returned (.tuple #[avl (evalR l t).1, .int .i64 (evalR l t).2]) ∧ Below w.heap.size w w' := by
  obtain ⟨ao, cap, e⟩ : ∃ ao cap, v = .slice ao l.length cap := by obtain ⟨a, c, e, -⟩ := hp; exact ⟨a, c, e⟩
  subst e
  have C := fun w1 (hb : Below w.heap.size w w1) => xright_any t x w1 (h.keep hb)
  unfold evalR
  by_cases hr : rightE t = true
  · rw [if_pos hr]
    rw [hr] at C
    have hf : formed t = true := by unfold rightE at hr; simp only [Bool.and_eq_true] at hr; exact hr.2
    have D := fun w2 (hb : Below w.heap.size w w2) => value_all w2.heap.size (.slice ao l.length cap) l hl w2 (hp.keep hb) (Nat.le_refl _) t x false (w2.alloc (.cells #[.slice ao l.length cap, .bool false] 54)) hf (h.keep hb) (below_a1 _ _) ⟨by simp, by simp, by simp⟩
    cases he : ev l t with
    | none => exact eval_bad x ao l.length cap w C (fun w2 hb => (D w2 hb).2 he)
    | some r =>
      obtain ⟨u, o⟩ := r
      have D' := fun w2 (hb : Below w.heap.size w w2) => (D w2 hb).1 u o he
      cases o
      · exact eval_ok x ao l.length cap u w C D'
      · exact eval_over x ao l.length cap u w C D'
  · rw [if_neg hr]
    have hr' : rightE t = false := by simpa using hr
    rw [hr'] at C
    exact eval_wrong x ao l.length cap w C
theorem holds_none (x : Xc) (hk : (x.kind == 0) = true) (v : Value) (w : World) : Calls Try.prog 19 #[xv x, v] w fun e w' => e = .returned (.tuple #[.bool true, .int .i64 0]) ∧ Below w.heap.size w w' := by
  have c0 := below_a1 w (.cells (xcs x) 27)
  go_enter Try.func19, Try.ntmps19
  go_wp2_with fail
  go_ret2
  exact ⟨rfl, c0⟩
theorem holds_bad (x : Xc) (hk : (x.kind == 0) = false) (v : Value) (u : Vl) (e0 : Int) (he : (e0 == 0) = false) (w : World) (C : ∀ w1, Below w.heap.size w w1 → Calls Try.prog 12 #[xv x, v] w1 fun e w' => e = .returned (.tuple #[avl u, .int .i64 e0]) ∧ Below w1.heap.size w1 w') : Calls Try.prog 19 #[xv x, v] w fun e w' => e = .returned (.tuple #[.bool false, .int .i64 e0]) ∧ Below w.heap.size w w' := by
  have hsf := run_store_float
  have c0 := below_a1 w (.cells (xcs x) 27)
  have C1 := Lib.hid (C _ c0)
  clear C
  have hne : (e0 != 0) = true := by simpa using he
  go_enter Try.func19, Try.ntmps19
  go_wp2_with fail
  (with_reducible refine C1.out.mono ?_); rintro e w2 ⟨rfl, hb2⟩
  go_wp2_with fail
  go_ret2
  exact ⟨rfl, Below.chain (Below.chain c0 hb2) (below_a1 _ _)⟩
theorem holds_ok (x : Xc) (hk : (x.kind == 0) = false) (v : Value) (u : Vl) (w : World) (C : ∀ w1, Below w.heap.size w w1 → Calls Try.prog 12 #[xv x, v] w1 fun e w' => e = .returned (.tuple #[avl u, .int .i64 0]) ∧ Below w1.heap.size w1 w') : Calls Try.prog 19 #[xv x, v] w fun e w' => e = .returned (.tuple #[.bool (u.ofI == 1), .int .i64 u.ofE]) ∧ Below w.heap.size w w' := by
  have hsf := run_store_float
  have c0 := below_a1 w (.cells (xcs x) 27)
  have C1 := Lib.hid (C _ c0)
  have D := Lib.hid (of_any u.k u.n u.f u.s)
  unfold Vl.ofI Vl.ofE
  simp only [ofR] at D
  generalize ofI u.k u.n = I at *
  generalize ofE u.k u.n = E at *
  clear C
  go_enter Try.func19, Try.ntmps19
  go_wp2_with fail
  (with_reducible refine C1.out.mono ?_); rintro e w2 ⟨rfl, hb2⟩
  go_wp2_with fail
  (with_reducible refine (D.out _).mono ?_); rintro e w3 ⟨rfl, hb3⟩
  go_wp2_with fail
  go_ret2
  exact ⟨rfl, Below.chain (Below.chain (Below.chain c0 hb2) (below_a1 _ _)) hb3⟩
theorem xholds_any (t : Ex) (x : Xc) (v : Value) (l : List Pr) (w : World) (h : Tx w t x) (hp : RwP w v l) (hl : PsOk l) : Calls Try.prog 19 #[xv x, v] w fun e w' => e = .returned (.tuple #[.bool (holdsR l t).1, .int .i64 (holdsR l t).2]) ∧ Below w.heap.size w w' := by
  have hk : x.kind = t.kind := by cases t with | node k n vv kids => exact (Tx.inv h).1
  have C := fun w1 (hb : Below w.heap.size w w1) => xeval_any t x v l w1 (h.keep hb) (hp.keep hb) hl
  unfold holdsR
  by_cases h0 : t.kind = 0
  · rw [if_pos h0]
    exact holds_none x (by simp [hk, h0]) v w
  · rw [if_neg h0]
    have h0' : (x.kind == 0) = false := by simp [hk, h0]
    by_cases he : (evalR l t).2 = 0
    · rw [if_neg (by simpa using he)]
      simp only [he] at C
      have H := holds_ok x h0' v _ w C
      by_cases e4 : (evalR l t).1.ofE = 0
      · rw [if_neg (by simpa using e4)]
        rw [e4] at H
        refine H.mono fun e w' hh => ?_
        rw [show decide ((evalR l t).1.ofI = 1) = ((evalR l t).1.ofI == 1) by rw [Bool.eq_iff_iff]; simp]
        exact hh
      · rw [if_pos e4]
        have e4' : (evalR l t).1.ofE = 4 := (ofE_cases _ _).resolve_left e4
        have i2 : ((evalR l t).1.ofI == 1) = false := by
          have := ofI_bad _ _ e4
          unfold Vl.ofI
          rw [this]; rfl
        rw [e4', i2] at H
        exact H
    · rw [if_pos he]
      exact holds_bad x h0' v _ _ (by simpa using he) w C
end Go.Proofs.Ytfhnjilflffdfaa
