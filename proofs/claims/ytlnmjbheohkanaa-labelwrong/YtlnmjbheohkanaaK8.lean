import Derived.Test.YtlnmjbheohkanaaK7
namespace Go.Proofs.Ytlnmjbheohkanaa
open Go Go.RowKit
set_option linter.unusedVariables false
theorem kid_at {w : World} {ao : Option Addr} {len cap : Nat} {xs : List Xc} (h : RwX w (.slice ao len cap) xs) (i : Nat) (hi : i < xs.length) : ∃ b o, ao = some ⟨b, o, none⟩ ∧ Kid w b (o + i * 7) xs[i] := by
  obtain ⟨ao', cap', he, -, -, -, h5⟩ := h
  cases he
  obtain ⟨b, o, ha, hc⟩ := h5 i hi
  exact ⟨b, o, ha, hc 0 (by omega), hc 1 (by omega), hc 2 (by omega), hc 3 (by omega), hc 4 (by omega), hc 5 (by omega), hc 6 (by omega)⟩
/-- a term, or one that asks nothing -/
theorem rholds_any (l : List ByteArray) : ∀ (t : Ex) (x : Xc) (vl : Value) (w : World), termK t = true → Tx w t x → RwS w vl l →
    Calls Try.prog 40 #[vl, xv x] w fun e w' => e = .returned (.bool (holdsL l t)) ∧ Below w.heap.size w w' := by
  refine fun t => ex_ind (P := fun t => ∀ (x : Xc) (vl : Value) (w : World), termK t = true → Tx w t x → RwS w vl l → Calls Try.prog 40 #[vl, xv x] w fun e w' => e = .returned (.bool (holdsL l t)) ∧ Below w.heap.size w w') ?_ t
  intro kind name v kids ih x vl w hK h hl
  obtain ⟨rfl, rfl, rfl, hv, xs, hr, hk⟩ := Tx.inv h
  have hlen : x.len = xs.length := by
    obtain ⟨a, c, e, -⟩ := hr
    simp only [Value.slice.injEq] at e
    exact e.2.1
  rw [termK] at hK
  simp only [Bool.and_eq_true, decide_eq_true_eq] at hK
  obtain ⟨⟨⟨-, hN⟩, -⟩, hTL⟩ := hK
  rw [holdsL]
  by_cases k4 : x.kind = 4
  · rw [if_pos k4]
    have := rholds_4 l vl x.name x.v x.ao x.len x.cap w hl
    rw [← k4] at this
    exact this
  rw [if_neg k4]
  by_cases k5 : x.kind = 5
  · rw [if_pos k5]
    obtain ⟨lao, lcap, e⟩ : ∃ lao lcap, vl = .slice lao l.length lcap := by obtain ⟨a, c, e, -⟩ := hl; exact ⟨a, c, e⟩
    subst e
    have := rholds_5 l.length lao lcap x.name x.v x.ao x.len x.cap w
    rw [← k5] at this
    refine this.mono fun e w' hh => ret_bool' ?_ hh
    rw [Bool.eq_iff_iff]; simp
  rw [if_neg k5]
  by_cases k6 : x.kind = 6
  · rw [if_pos k6]
    have hn1 : kids.length = 1 := by rw [k6] at hN; simp [kidsN] at hN; omega
    match kids, xs, hk, hn1, hTL, ih, hr, hlen with
    | [t1], [z], hk, hn1, hTL, ih, hr, hlen =>
      obtain ⟨b, oo, ha, hKd⟩ := kid_at hr 0 (by simp)
      simp only [Nat.zero_mul, Nat.add_zero, List.getElem_cons_zero] at hKd
      have hT1 : Tx w t1 z := hk.2 0 (by simp) (by simp)
      have hf1 : termK t1 = true := by rw [termL, termL, Bool.and_true] at hTL; exact hTL
      have ex : xv x = .agg #[.int .i64 6, .string x.name, .int .i64 x.v.k, .int .i64 x.v.n, .float .f64 x.v.f, .string x.v.s, .slice (some ⟨b, oo, none⟩) 1 x.cap] := by
        unfold xv; rw [k6, ha, hlen]; rfl
      rw [ex, holdsLL, holdsLL]
      exact rholds_6 vl x.name x.v b oo x.cap z (holdsL l t1) w hKd (fun w1 hb => ih t1 (by simp) z vl w1 hf1 (hT1.keep hb) (hl.keep hb))
    | [], _, hk, hn1, _, _, _, _ => cases hn1
    | _ :: _ :: _, _, hk, hn1, _, _, _, _ => simp at hn1
    | [_], [], hk, _, _, _, _, _ => cases hk.1
    | [_], _ :: _ :: _, hk, _, _, _, _, _ => have := hk.1; simp at this
  rw [if_neg k6]
  by_cases k7 : x.kind = 7
  · rw [if_pos k7]
    have hn2 : kids.length = 2 := by rw [k7] at hN; simp [kidsN] at hN; omega
    match kids, xs, hk, hn2, hTL, ih, hr, hlen with
    | [t1, t2], [z, z2], hk, hn2, hTL, ih, hr, hlen =>
      obtain ⟨b, oo, ha, hKd⟩ := kid_at hr 0 (by simp)
      obtain ⟨b', oo', ha', hKd2⟩ := kid_at hr 1 (by simp)
      rw [ha] at ha'
      cases ha'
      simp only [Nat.zero_mul, Nat.one_mul, Nat.add_zero, List.getElem_cons_zero, List.getElem_cons_succ] at hKd hKd2
      have hT1 : Tx w t1 z := hk.2 0 (by simp) (by simp)
      have hT2 : Tx w t2 z2 := hk.2 1 (by simp) (by simp)
      have hf : termK t1 = true ∧ termK t2 = true := by rw [termL, termL, termL, Bool.and_true, Bool.and_eq_true] at hTL; exact hTL
      have ex : xv x = .agg #[.int .i64 7, .string x.name, .int .i64 x.v.k, .int .i64 x.v.n, .float .f64 x.v.f, .string x.v.s, .slice (some ⟨b, oo, none⟩) 2 x.cap] := by
        unfold xv; rw [k7, ha, hlen]; rfl
      rw [ex, holdsLL, holdsLL, holdsLL]
      exact rholds_7 vl x.name x.v b oo x.cap z z2 (holdsL l t1) (holdsL l t2) w hKd hKd2 (fun w1 hb => ih t1 (by simp) z vl w1 hf.1 (hT1.keep hb) (hl.keep hb)) (fun w1 hb => ih t2 (by simp) z2 vl w1 hf.2 (hT2.keep hb) (hl.keep hb))
    | [], _, hk, hn2, _, _, _, _ => cases hn2
    | [_], _, hk, hn2, _, _, _, _ => simp at hn2
    | _ :: _ :: _ :: _, _, hk, hn2, _, _, _, _ => simp at hn2
    | [_, _], [], hk, _, _, _, _, _ => cases hk.1
    | [_, _], [_], hk, _, _, _, _, _ => have := hk.1; simp at this
    | [_, _], _ :: _ :: _ :: _, hk, _, _, _, _, _ => have := hk.1; simp at this
  rw [if_neg k7]
  by_cases k8 : x.kind = 8
  · rw [if_pos k8]
    have hn2 : kids.length = 2 := by rw [k8] at hN; simp [kidsN] at hN; omega
    match kids, xs, hk, hn2, hTL, ih, hr, hlen with
    | [t1, t2], [z, z2], hk, hn2, hTL, ih, hr, hlen =>
      obtain ⟨b, oo, ha, hKd⟩ := kid_at hr 0 (by simp)
      obtain ⟨b', oo', ha', hKd2⟩ := kid_at hr 1 (by simp)
      rw [ha] at ha'
      cases ha'
      simp only [Nat.zero_mul, Nat.one_mul, Nat.add_zero, List.getElem_cons_zero, List.getElem_cons_succ] at hKd hKd2
      have hT1 : Tx w t1 z := hk.2 0 (by simp) (by simp)
      have hT2 : Tx w t2 z2 := hk.2 1 (by simp) (by simp)
      have hf : termK t1 = true ∧ termK t2 = true := by rw [termL, termL, termL, Bool.and_true, Bool.and_eq_true] at hTL; exact hTL
      have ex : xv x = .agg #[.int .i64 8, .string x.name, .int .i64 x.v.k, .int .i64 x.v.n, .float .f64 x.v.f, .string x.v.s, .slice (some ⟨b, oo, none⟩) 2 x.cap] := by
        unfold xv; rw [k8, ha, hlen]; rfl
      rw [ex, holdsLL, holdsLL, holdsLL]
      exact rholds_8 vl x.name x.v b oo x.cap z z2 (holdsL l t1) (holdsL l t2) w hKd hKd2 (fun w1 hb => ih t1 (by simp) z vl w1 hf.1 (hT1.keep hb) (hl.keep hb)) (fun w1 hb => ih t2 (by simp) z2 vl w1 hf.2 (hT2.keep hb) (hl.keep hb))
    | [], _, hk, hn2, _, _, _, _ => cases hn2
    | [_], _, hk, hn2, _, _, _, _ => simp at hn2
    | _ :: _ :: _ :: _, _, hk, hn2, _, _, _, _ => simp at hn2
    | [_, _], [], hk, _, _, _, _, _ => cases hk.1
    | [_, _], [_], hk, _, _, _, _, _ => have := hk.1; simp at this
    | [_, _], _ :: _ :: _ :: _, hk, _, _, _, _, _ => have := hk.1; simp at this
  rw [if_neg k8]
  exact rholds_o x.kind (by simp [k4]) (by simp [k5]) (by simp [k6]) (by simp [k7]) (by simp [k8]) vl x.name x.v x.ao x.len x.cap w
theorem rhas_core (x : Xc) (vl : Value) (r b : Bool) (w : World) (C : ∀ w1, Below w.heap.size w w1 → Calls Try.prog 20 #[xv x] w1 fun e w' => e = .returned (.bool r) ∧ Below w1.heap.size w1 w')
    (D : r = true → ∀ w1, Below w.heap.size w w1 → Calls Try.prog 40 #[vl, xv x] w1 fun e w' => e = .returned (.bool b) ∧ Below w1.heap.size w1 w') :
    Calls Try.prog 21 #[vl, xv x] w fun e w' => e = .returned (.bool (r && b)) ∧ Below w.heap.size w w' := by
  have c0 := below_a1 w (.cells (xcs x) 28)
  have Lz := Lib.hid (lies7_new w x 28 (xcs x) rfl)
  have C1 := Lib.hid (C _ c0)
  clear C
  cases r
  · clear D
    go_enter Try.func21, Try.ntmps21
    go_wp2_with fail
    (with_reducible refine C1.out.mono ?_); rintro e w2 ⟨rfl, hb2⟩
    go_wp2_with fail
    go_ret
    exact ⟨rfl, Below.chain c0 hb2⟩
  · have D1 := Lib.hid fun w2 (hb : Below (w.alloc (.cells (xcs x) 28)).heap.size (w.alloc (.cells (xcs x) 28)) w2) => D rfl w2 (Below.chain c0 hb)
    clear D
    go_enter Try.func21, Try.ntmps21
    go_wp2_with fail
    (with_reducible refine C1.out.mono ?_); rintro e w2 ⟨rfl, hb2⟩
    have ⟨y0, y1, y2, y3, y4, y5, y6⟩ := (Lz.out.keep hb2).at
    go_wp2_with fail
    (with_reducible refine (D1.out _ hb2).mono ?_); rintro e w3 ⟨rfl, hb3⟩
    go_wp2_with fail
    go_ret
    exact ⟨rfl, Below.chain (Below.chain c0 hb2) hb3⟩
theorem rhas6_any (l : List ByteArray) (t : Ex) (x : Xc) (vl : Value) (w : World) (h : Tx w t x) (hl : RwS w vl l) :
    Calls Try.prog 21 #[vl, xv x] w fun e w' => e = .returned (.bool (hasL l t)) ∧ Below w.heap.size w w' := by
  unfold hasL
  refine rhas_core x vl (rightL t) (holdsL l t) w (fun w1 hb => rright6_any t x w1 (h.keep hb)) (fun hrt w1 hb => ?_)
  by_cases h0 : x.kind = 0
  · cases t with
    | node kind name v kids =>
      obtain ⟨rfl, -, -, -, -⟩ := Tx.inv h
      rw [holdsL, if_neg (by omega), if_neg (by omega), if_neg (by omega), if_neg (by omega), if_neg (by omega)]
      exact rholds_o x.kind (by simp [h0]) (by simp [h0]) (by simp [h0]) (by simp [h0]) (by simp [h0]) vl x.name x.v x.ao x.len x.cap w1
  · refine rholds_any l t x vl w1 ?_ (h.keep hb) (hl.keep hb)
    cases t with
    | node kind name v kids =>
      obtain ⟨rfl, -, -, -, -⟩ := Tx.inv h
      rw [rightL, if_neg h0] at hrt
      unfold termE at hrt
      simp only [Bool.and_eq_true] at hrt
      exact hrt.2
end Go.Proofs.Ytlnmjbheohkanaa
