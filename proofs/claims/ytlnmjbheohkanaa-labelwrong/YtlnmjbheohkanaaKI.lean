import Derived.Test.YtlnmjbheohkanaaKL
import Derived.Test.YtlnmjbheohkanaaShelf
namespace Go.Proofs.Ytlnmjbheohkanaa
open Go Go.RowKit
set_option linter.unusedVariables false
theorem lcontains_any (l : List ByteArray) (s : ByteArray) (v : Value) (w : World) (h : RwS w v l) :
    Calls Try.prog 43 #[v, .string s] w fun e w' => e = .returned (.bool (inB l s)) ∧ w = w' := by
  obtain ⟨ao, cap, rfl, h2, h3, h4, h5⟩ := h
  simp only [maxLen] at h3
  cases hl : l with
  | nil =>
    refine (Try.slices_Contains_string_empty ao cap s w).mono fun e w' hh => ?_
    obtain ⟨rfl, rfl⟩ := hh
    exact ⟨rfl, rfl⟩
  | cons y ys =>
    obtain ⟨b, o, rfl, -⟩ := h5 0 (by rw [hl]; simp)
    rw [← hl]
    have hc : ∀ j, j < l.length → w.cell? ⟨b, o + j, none⟩ = some (.string (l.getD j ByteArray.empty)) := by
      intro j hj
      obtain ⟨b', o', he, hc⟩ := h5 j hj
      cases he
      have := hc 0 (by decide)
      simp only [encS, Nat.mul_one, Nat.add_zero, List.getElem?_cons_zero] at this
      rw [this]
      simp [List.getD, List.getElem?_eq_getElem hj]
    refine (Try.slices_Contains_string b o l.length cap l s w (Nat.le_refl _) (by omega) hc).mono fun e w' hh => ?_
    obtain ⟨rfl, rfl⟩ := hh
    refine ⟨?_, rfl⟩
    rw [List.take_length]
    congr 2
    rw [Bool.eq_iff_iff, inB_mem, Lib.containsS_iff]
theorem lholds_4 (g : Nat) (l : List ByteArray) (vl : Value) (nm : ByteArray) (v : Vl) (ao : Option Addr) (L cap : Nat) (w : World) (h : RwS w vl l) : Calls Try.prog 42 #[.map (some g), .agg #[.int .i64 4, .string nm, .int .i64 v.k, .int .i64 v.n, .float .f64 v.f, .string v.s, .slice ao L cap], vl] w fun e w' => e = .returned (.bool (inB l nm)) ∧ Below w.heap.size w w' := by
  have c0 := below_a1 w (.cells #[.int .i64 4, .string nm, .int .i64 v.k, .int .i64 v.n, .float .f64 v.f, .string v.s, .slice ao L cap] 28)
  have C := Lib.hid (lcontains_any l nm vl _ (h.keep c0))
  clear h
  generalize inB l nm = b at *
  go_enter Try.func42, Try.ntmps42
  go_wp2_with fail
  (with_reducible refine C.out.mono ?_); rintro e w2 ⟨rfl, rfl⟩
  go_wp2_with fail
  go_ret
  exact ⟨rfl, c0⟩
theorem lholds_5 (g : Nat) (ln : Nat) (lao : Option Addr) (lcap : Nat) (nm : ByteArray) (v : Vl) (ao : Option Addr) (L cap : Nat) (w : World) : Calls Try.prog 44 #[.map (some g), .agg #[.int .i64 5, .string nm, .int .i64 v.k, .int .i64 v.n, .float .f64 v.f, .string v.s, .slice ao L cap], .slice lao ln lcap] w fun e w' => e = .returned (.bool (decide ((0 : Int) < (ln : Int)))) ∧ Below w.heap.size w w' := by
  have c0 := below_a1 w (.cells #[.int .i64 5, .string nm, .int .i64 v.k, .int .i64 v.n, .float .f64 v.f, .string v.s, .slice ao L cap] 28)
  go_enter Try.func44, Try.ntmps44
  go_wp2_with fail
  go_ret
  exact ⟨by simp, c0⟩
theorem lholds_6 (g : Nat) (vl : Value) (nm : ByteArray) (v : Vl) (b o cap : Nat) (z : Xc) (r : Bool) (w : World) (hk : Kid w b o z)
    (C : ∀ w1, Below w.heap.size w w1 → Calls Try.prog 30 #[.map (some g), xv z, vl] w1 fun e w' => e = .returned (.bool r) ∧ Below w1.heap.size w1 w') : Calls Try.prog 45 #[.map (some g), .agg #[.int .i64 6, .string nm, .int .i64 v.k, .int .i64 v.n, .float .f64 v.f, .string v.s, .slice (some ⟨b, o, none⟩) 1 cap], vl] w fun e w' => e = .returned (.bool (!r)) ∧ Below w.heap.size w w' := by
  have c0 := below_a1 w (.cells #[.int .i64 6, .string nm, .int .i64 v.k, .int .i64 v.n, .float .f64 v.f, .string v.s, .slice (some ⟨b, o, none⟩) 1 cap] 28)
  have ⟨q0, q1, q2, q3, q4, q5, q6⟩ := hk.keep c0
  have C1 := Lib.hid (C _ c0)
  clear C hk
  go_enter Try.func45, Try.ntmps45
  go_wp2_with fail
  (with_reducible refine C1.out.mono ?_); rintro e w2 ⟨rfl, hb2⟩
  go_wp2_with fail
  go_ret
  exact ⟨rfl, Below.chain c0 hb2⟩
theorem lholds_7 (g : Nat) (vl : Value) (nm : ByteArray) (v : Vl) (b o cap : Nat) (z z2 : Xc) (r r2 : Bool) (w : World) (hk : Kid w b o z) (hk2 : Kid w b (o + 7) z2)
    (C : ∀ w1, Below w.heap.size w w1 → Calls Try.prog 30 #[.map (some g), xv z, vl] w1 fun e w' => e = .returned (.bool r) ∧ Below w1.heap.size w1 w')
    (C2 : ∀ w1, Below w.heap.size w w1 → Calls Try.prog 30 #[.map (some g), xv z2, vl] w1 fun e w' => e = .returned (.bool r2) ∧ Below w1.heap.size w1 w') : Calls Try.prog 46 #[.map (some g), .agg #[.int .i64 7, .string nm, .int .i64 v.k, .int .i64 v.n, .float .f64 v.f, .string v.s, .slice (some ⟨b, o, none⟩) 2 cap], vl] w fun e w' => e = .returned (.bool (r && r2)) ∧ Below w.heap.size w w' := by
  have c0 := below_a1 w (.cells #[.int .i64 7, .string nm, .int .i64 v.k, .int .i64 v.n, .float .f64 v.f, .string v.s, .slice (some ⟨b, o, none⟩) 2 cap] 28)
  have Lz := Lib.hid (lies7_new w ⟨7, nm, v, (some ⟨b, o, none⟩), 2, cap⟩ 28 #[.int .i64 7, .string nm, .int .i64 v.k, .int .i64 v.n, .float .f64 v.f, .string v.s, .slice (some ⟨b, o, none⟩) 2 cap] rfl)
  have ⟨q0, q1, q2, q3, q4, q5, q6⟩ := hk.keep c0
  have HK2 := Lib.hid (hk2.keep c0)
  have C1 := Lib.hid (C _ c0)
  have D1 := Lib.hid fun w2 (hb : Below (w.alloc (.cells #[.int .i64 7, .string nm, .int .i64 v.k, .int .i64 v.n, .float .f64 v.f, .string v.s, .slice (some ⟨b, o, none⟩) 2 cap] 28)).heap.size (w.alloc (.cells #[.int .i64 7, .string nm, .int .i64 v.k, .int .i64 v.n, .float .f64 v.f, .string v.s, .slice (some ⟨b, o, none⟩) 2 cap] 28)) w2) => C2 w2 (Below.chain c0 hb)
  clear C C2 hk hk2
  cases r
  all_goals
    go_enter Try.func46, Try.ntmps46
    go_wp2_with fail
    (with_reducible refine C1.out.mono ?_); rintro e w2 ⟨rfl, hb2⟩
    have ⟨y0, y1, y2, y3, y4, y5, y6⟩ := (Lz.out.keep hb2).at
    have ⟨z0, z1, z2', z3, z4, z5, z6⟩ := HK2.out.keep hb2
    simp only [Nat.add_assoc, Nat.reduceAdd] at z1 z2' z3 z4 z5 z6
    go_wp2_with fail
    first
    | (go_ret
       exact ⟨by simp, Below.chain c0 hb2⟩)
    | ((with_reducible refine (D1.out _ hb2).mono ?_); rintro e w3 ⟨rfl, hb3⟩
       go_wp2_with fail
       go_ret
       exact ⟨by simp, Below.chain (Below.chain c0 hb2) hb3⟩)
theorem lholds_8 (g : Nat) (vl : Value) (nm : ByteArray) (v : Vl) (b o cap : Nat) (z z2 : Xc) (r r2 : Bool) (w : World) (hk : Kid w b o z) (hk2 : Kid w b (o + 7) z2)
    (C : ∀ w1, Below w.heap.size w w1 → Calls Try.prog 30 #[.map (some g), xv z, vl] w1 fun e w' => e = .returned (.bool r) ∧ Below w1.heap.size w1 w')
    (C2 : ∀ w1, Below w.heap.size w w1 → Calls Try.prog 30 #[.map (some g), xv z2, vl] w1 fun e w' => e = .returned (.bool r2) ∧ Below w1.heap.size w1 w') : Calls Try.prog 47 #[.map (some g), .agg #[.int .i64 8, .string nm, .int .i64 v.k, .int .i64 v.n, .float .f64 v.f, .string v.s, .slice (some ⟨b, o, none⟩) 2 cap], vl] w fun e w' => e = .returned (.bool (r || r2)) ∧ Below w.heap.size w w' := by
  have c0 := below_a1 w (.cells #[.int .i64 8, .string nm, .int .i64 v.k, .int .i64 v.n, .float .f64 v.f, .string v.s, .slice (some ⟨b, o, none⟩) 2 cap] 28)
  have Lz := Lib.hid (lies7_new w ⟨8, nm, v, (some ⟨b, o, none⟩), 2, cap⟩ 28 #[.int .i64 8, .string nm, .int .i64 v.k, .int .i64 v.n, .float .f64 v.f, .string v.s, .slice (some ⟨b, o, none⟩) 2 cap] rfl)
  have ⟨q0, q1, q2, q3, q4, q5, q6⟩ := hk.keep c0
  have HK2 := Lib.hid (hk2.keep c0)
  have C1 := Lib.hid (C _ c0)
  have D1 := Lib.hid fun w2 (hb : Below (w.alloc (.cells #[.int .i64 8, .string nm, .int .i64 v.k, .int .i64 v.n, .float .f64 v.f, .string v.s, .slice (some ⟨b, o, none⟩) 2 cap] 28)).heap.size (w.alloc (.cells #[.int .i64 8, .string nm, .int .i64 v.k, .int .i64 v.n, .float .f64 v.f, .string v.s, .slice (some ⟨b, o, none⟩) 2 cap] 28)) w2) => C2 w2 (Below.chain c0 hb)
  clear C C2 hk hk2
  cases r
  all_goals
    go_enter Try.func47, Try.ntmps47
    go_wp2_with fail
    (with_reducible refine C1.out.mono ?_); rintro e w2 ⟨rfl, hb2⟩
    have ⟨y0, y1, y2, y3, y4, y5, y6⟩ := (Lz.out.keep hb2).at
    have ⟨z0, z1, z2', z3, z4, z5, z6⟩ := HK2.out.keep hb2
    simp only [Nat.add_assoc, Nat.reduceAdd] at z1 z2' z3 z4 z5 z6
    go_wp2_with fail
    first
    | (go_ret
       exact ⟨by simp, Below.chain c0 hb2⟩)
    | ((with_reducible refine (D1.out _ hb2).mono ?_); rintro e w3 ⟨rfl, hb3⟩
       go_wp2_with fail
       go_ret
       exact ⟨by simp, Below.chain (Below.chain c0 hb2) hb3⟩)
theorem field_2 (nf : Nat) (K : Int) (hfn : Nat) (w : World) : (Instr.field 59 (.agg #[.func (.func nf) #[] #[], .int .i64 K, .func (.func hfn) #[] #[]]) 2).run Try.prog w = .ok (.func (.func hfn) #[] #[]) w := by
  simp [Instr.field, run_underlying Try.underlying59, asAgg, Result.andThen, go_sem]
structure Hol (kind : Int) (hfn : Nat) : Prop where
  look : ∃ nf, ∃ K : Int, ∀ (g : Nat) (w : World), Tb w g → (Instr.lookup 48 (.map (some g)) (.int .i64 kind) false).run Try.prog w = .ok (.agg #[.func (.func nf) #[] #[], .int .i64 K, .func (.func hfn) #[] #[]]) w
  enter : ∀ (a b c : Value) (w : World), (callFunc hfn #[a, b, c]).run Try.prog w = .ok (.enter hfn #[a, b, c]) w
theorem cf4 (a b c : Value) (w : World) : (callFunc 42 #[a, b, c]).run Try.prog w = .ok (.enter 42 #[a, b, c]) w := by
  go_simp
theorem hol4 : Hol 4 42 := ⟨⟨_, _, fun g w h => look_f4 g w h⟩, cf4⟩
theorem cf5 (a b c : Value) (w : World) : (callFunc 44 #[a, b, c]).run Try.prog w = .ok (.enter 44 #[a, b, c]) w := by
  go_simp
theorem hol5 : Hol 5 44 := ⟨⟨_, _, fun g w h => look_f5 g w h⟩, cf5⟩
theorem cf6 (a b c : Value) (w : World) : (callFunc 45 #[a, b, c]).run Try.prog w = .ok (.enter 45 #[a, b, c]) w := by
  go_simp
theorem hol6 : Hol 6 45 := ⟨⟨_, _, fun g w h => look_f6 g w h⟩, cf6⟩
theorem cf7 (a b c : Value) (w : World) : (callFunc 46 #[a, b, c]).run Try.prog w = .ok (.enter 46 #[a, b, c]) w := by
  go_simp
theorem hol7 : Hol 7 46 := ⟨⟨_, _, fun g w h => look_f7 g w h⟩, cf7⟩
theorem cf8 (a b c : Value) (w : World) : (callFunc 47 #[a, b, c]).run Try.prog w = .ok (.enter 47 #[a, b, c]) w := by
  go_simp
theorem hol8 : Hol 8 47 := ⟨⟨_, _, fun g w h => look_f8 g w h⟩, cf8⟩
theorem lholds_core (kind : Int) (hfn : Nat) (H : Hol kind hfn) (g : Nat) (vl : Value) (nm : ByteArray) (v : Vl) (ao : Option Addr) (L cap : Nat) (r : Bool) (w : World) (hT : Tb w g)
    (C : ∀ w1, Below w.heap.size w w1 → Calls Try.prog hfn #[.map (some g), .agg #[.int .i64 kind, .string nm, .int .i64 v.k, .int .i64 v.n, .float .f64 v.f, .string v.s, .slice ao L cap], vl] w1 fun e w' => e = .returned (.bool r) ∧ Below w1.heap.size w1 w') :
    Calls Try.prog 30 #[.map (some g), .agg #[.int .i64 kind, .string nm, .int .i64 v.k, .int .i64 v.n, .float .f64 v.f, .string v.s, .slice ao L cap], vl] w fun e w' => e = .returned (.bool r) ∧ Below w.heap.size w w' := by
  obtain ⟨⟨nf, K, HLk0⟩, HG0⟩ := H
  have c0 := below_a1 w (.cells #[.int .i64 kind, .string nm, .int .i64 v.k, .int .i64 v.n, .float .f64 v.f, .string v.s, .slice ao L cap] 28)
  have HLk := HLk0 g _ (hT.keep c0)
  have HG := HG0 (.map (some g)) (.agg #[.int .i64 kind, .string nm, .int .i64 v.k, .int .i64 v.n, .float .f64 v.f, .string v.s, .slice ao L cap]) vl
  have HF := field_2 nf K hfn
  have C1 := Lib.hid (C _ c0)
  clear C HLk0 HG0 hT
  go_enter Try.func30, Try.ntmps30
  go_wp2_with fail
  (with_reducible refine C1.out.mono ?_); rintro e w2 ⟨rfl, hb2⟩
  go_wp2_with fail
  go_ret
  exact ⟨rfl, Below.chain c0 hb2⟩
/-- a term -/
theorem lholds_any (g : Nat) (l : List ByteArray) : ∀ (t : Ex) (x : Xc) (vl : Value) (w : World), termK t = true → Tb w g → Tx w t x → RwS w vl l →
    Calls Try.prog 30 #[.map (some g), xv x, vl] w fun e w' => e = .returned (.bool (holdsL l t)) ∧ Below w.heap.size w w' := by
  refine fun t => ex_ind (P := fun t => ∀ (x : Xc) (vl : Value) (w : World), termK t = true → Tb w g → Tx w t x → RwS w vl l → Calls Try.prog 30 #[.map (some g), xv x, vl] w fun e w' => e = .returned (.bool (holdsL l t)) ∧ Below w.heap.size w w') ?_ t
  intro kind name v kids ih x vl w hK hT h hl
  obtain ⟨rfl, rfl, rfl, hv, xs, hr, hk⟩ := Tx.inv h
  have hlen : x.len = xs.length := by
    obtain ⟨a, c, e, -⟩ := hr
    simp only [Value.slice.injEq] at e
    exact e.2.1
  rw [termK] at hK
  simp only [Bool.and_eq_true, decide_eq_true_eq] at hK
  obtain ⟨⟨⟨-, hN⟩, -⟩, hTL⟩ := hK
  rw [holdsL]
  by_cases k4 : x.kind = 4
  · rw [if_pos k4]
    refine lholds_core x.kind _ (by rw [k4]; exact hol4) g vl x.name x.v x.ao x.len x.cap _ w hT fun w1 hb => ?_
    have := lholds_4 g l vl x.name x.v x.ao x.len x.cap w1 (hl.keep hb)
    rw [← k4] at this
    exact this
  rw [if_neg k4]
  by_cases k5 : x.kind = 5
  · rw [if_pos k5]
    refine lholds_core x.kind _ (by rw [k5]; exact hol5) g vl x.name x.v x.ao x.len x.cap _ w hT fun w1 hb => ?_
    obtain ⟨lao, lcap, e⟩ : ∃ lao lcap, vl = .slice lao l.length lcap := by obtain ⟨a, c, e, -⟩ := hl; exact ⟨a, c, e⟩
    subst e
    have := lholds_5 g l.length lao lcap x.name x.v x.ao x.len x.cap w1
    rw [← k5] at this
    refine this.mono fun e w' hh => ret_bool' ?_ hh
    rw [Bool.eq_iff_iff]; simp
  rw [if_neg k5]
  by_cases k6 : x.kind = 6
  · rw [if_pos k6]
    have hn1 : kids.length = 1 := by rw [k6] at hN; simp [kidsN] at hN; omega
    match kids, xs, hk, hn1, hTL, ih, hr, hlen with
    | [t1], [z], hk, hn1, hTL, ih, hr, hlen =>
      obtain ⟨b, oo, ha, hKd⟩ := kid_at hr 0 (by simp)
      simp only [Nat.zero_mul, Nat.add_zero, List.getElem_cons_zero] at hKd
      have hT1 : Tx w t1 z := hk.2 0 (by simp) (by simp)
      have hf1 : termK t1 = true := by rw [termL, termL, Bool.and_true] at hTL; exact hTL
      have ex : xv x = .agg #[.int .i64 6, .string x.name, .int .i64 x.v.k, .int .i64 x.v.n, .float .f64 x.v.f, .string x.v.s, .slice (some ⟨b, oo, none⟩) 1 x.cap] := by
        unfold xv; rw [k6, ha, hlen]; rfl
      rw [ex, holdsLL, holdsLL]
      refine lholds_core 6 _ hol6 g vl x.name x.v (some ⟨b, oo, none⟩) 1 x.cap _ w hT fun w1 hb => ?_
      exact lholds_6 g vl x.name x.v b oo x.cap z (holdsL l t1) w1 (hKd.keep hb) (fun w2 hb2 => ih t1 (by simp) z vl w2 hf1 (hT.keep (Below.chain hb hb2)) (hT1.keep (Below.chain hb hb2)) (hl.keep (Below.chain hb hb2)))
    | [], _, hk, hn1, _, _, _, _ => cases hn1
    | _ :: _ :: _, _, hk, hn1, _, _, _, _ => simp at hn1
    | [_], [], hk, _, _, _, _, _ => cases hk.1
    | [_], _ :: _ :: _, hk, _, _, _, _, _ => have := hk.1; simp at this
  rw [if_neg k6]
  by_cases k7 : x.kind = 7
  · rw [if_pos k7]
    have hn2 : kids.length = 2 := by rw [k7] at hN; simp [kidsN] at hN; omega
    match kids, xs, hk, hn2, hTL, ih, hr, hlen with
    | [t1, t2], [z, z2], hk, hn2, hTL, ih, hr, hlen =>
      obtain ⟨b, oo, ha, hKd⟩ := kid_at hr 0 (by simp)
      obtain ⟨b', oo', ha', hKd2⟩ := kid_at hr 1 (by simp)
      rw [ha] at ha'
      cases ha'
      simp only [Nat.zero_mul, Nat.one_mul, Nat.add_zero, List.getElem_cons_zero, List.getElem_cons_succ] at hKd hKd2
      have hT1 : Tx w t1 z := hk.2 0 (by simp) (by simp)
      have hT2 : Tx w t2 z2 := hk.2 1 (by simp) (by simp)
      have hf : termK t1 = true ∧ termK t2 = true := by rw [termL, termL, termL, Bool.and_true, Bool.and_eq_true] at hTL; exact hTL
      have ex : xv x = .agg #[.int .i64 7, .string x.name, .int .i64 x.v.k, .int .i64 x.v.n, .float .f64 x.v.f, .string x.v.s, .slice (some ⟨b, oo, none⟩) 2 x.cap] := by
        unfold xv; rw [k7, ha, hlen]; rfl
      rw [ex, holdsLL, holdsLL, holdsLL]
      refine lholds_core 7 _ hol7 g vl x.name x.v (some ⟨b, oo, none⟩) 2 x.cap _ w hT fun w1 hb => ?_
      exact lholds_7 g vl x.name x.v b oo x.cap z z2 (holdsL l t1) (holdsL l t2) w1 (hKd.keep hb) (hKd2.keep hb) (fun w2 hb2 => ih t1 (by simp) z vl w2 hf.1 (hT.keep (Below.chain hb hb2)) (hT1.keep (Below.chain hb hb2)) (hl.keep (Below.chain hb hb2))) (fun w2 hb2 => ih t2 (by simp) z2 vl w2 hf.2 (hT.keep (Below.chain hb hb2)) (hT2.keep (Below.chain hb hb2)) (hl.keep (Below.chain hb hb2)))
    | [], _, hk, hn2, _, _, _, _ => cases hn2
    | [_], _, hk, hn2, _, _, _, _ => simp at hn2
    | _ :: _ :: _ :: _, _, hk, hn2, _, _, _, _ => simp at hn2
    | [_, _], [], hk, _, _, _, _, _ => cases hk.1
    | [_, _], [_], hk, _, _, _, _, _ => have := hk.1; simp at this
    | [_, _], _ :: _ :: _ :: _, hk, _, _, _, _, _ => have := hk.1; simp at this
  rw [if_neg k7]
  by_cases k8 : x.kind = 8
  · rw [if_pos k8]
    have hn2 : kids.length = 2 := by rw [k8] at hN; simp [kidsN] at hN; omega
    match kids, xs, hk, hn2, hTL, ih, hr, hlen with
    | [t1, t2], [z, z2], hk, hn2, hTL, ih, hr, hlen =>
      obtain ⟨b, oo, ha, hKd⟩ := kid_at hr 0 (by simp)
      obtain ⟨b', oo', ha', hKd2⟩ := kid_at hr 1 (by simp)
      rw [ha] at ha'
      cases ha'
      simp only [Nat.zero_mul, Nat.one_mul, Nat.add_zero, List.getElem_cons_zero, List.getElem_cons_succ] at hKd hKd2
      have hT1 : Tx w t1 z := hk.2 0 (by simp) (by simp)
      have hT2 : Tx w t2 z2 := hk.2 1 (by simp) (by simp)
      have hf : termK t1 = true ∧ termK t2 = true := by rw [termL, termL, termL, Bool.and_true, Bool.and_eq_true] at hTL; exact hTL
      have ex : xv x = .agg #[.int .i64 8, .string x.name, .int .i64 x.v.k, .int .i64 x.v.n, .float .f64 x.v.f, .string x.v.s, .slice (some ⟨b, oo, none⟩) 2 x.cap] := by
        unfold xv; rw [k8, ha, hlen]; rfl
      rw [ex, holdsLL, holdsLL, holdsLL]
      refine lholds_core 8 _ hol8 g vl x.name x.v (some ⟨b, oo, none⟩) 2 x.cap _ w hT fun w1 hb => ?_
      exact lholds_8 g vl x.name x.v b oo x.cap z z2 (holdsL l t1) (holdsL l t2) w1 (hKd.keep hb) (hKd2.keep hb) (fun w2 hb2 => ih t1 (by simp) z vl w2 hf.1 (hT.keep (Below.chain hb hb2)) (hT1.keep (Below.chain hb hb2)) (hl.keep (Below.chain hb hb2))) (fun w2 hb2 => ih t2 (by simp) z2 vl w2 hf.2 (hT.keep (Below.chain hb hb2)) (hT2.keep (Below.chain hb hb2)) (hl.keep (Below.chain hb hb2)))
    | [], _, hk, hn2, _, _, _, _ => cases hn2
    | [_], _, hk, hn2, _, _, _, _ => simp at hn2
    | _ :: _ :: _ :: _, _, hk, hn2, _, _, _, _ => simp at hn2
    | [_, _], [], hk, _, _, _, _, _ => cases hk.1
    | [_, _], [_], hk, _, _, _, _, _ => have := hk.1; simp at this
    | [_, _], _ :: _ :: _ :: _, hk, _, _, _, _, _ => have := hk.1; simp at this
  rw [if_neg k8]
  exfalso
  have e1 : kidsN x.kind = -1 := by unfold kidsN; rw [if_neg (by simp [k4, k5]), if_neg k6, if_neg (by simp [k7, k8])]
  rw [e1] at hN
  omega
theorem lhas_core (x : Xc) (vl : Value) (r b kb : Bool) (hkb : (x.kind == 0) = kb) (w : World) (C : ∀ w1, Below w.heap.size w w1 → Calls Try.prog 19 #[xv x] w1 fun e w' => e = .returned (.bool r) ∧ Below w1.heap.size w1 w')
    (D : r = true → kb = false → ∀ w1 g, Below w.heap.size w w1 → Tb w1 g → Calls Try.prog 30 #[.map (some g), xv x, vl] w1 fun e w' => e = .returned (.bool b) ∧ Below w1.heap.size w1 w') :
    Calls Try.prog 13 #[vl, xv x] w fun e w' => e = .returned (.bool (r && (kb || b))) ∧ Below w.heap.size w w' := by
  have c0 := below_a1 w (.cells (xcs x) 28)
  have Lz := lies7_new w x 28 (xcs x) rfl
  have S0 : ∀ W, Below (w.alloc (.cells (xcs x) 28)).heap.size (w.alloc (.cells (xcs x) 28)) W → C7 W w.heap.size x := fun W h => (Lz.keep h).at
  have HS := Lib.hid S0
  have C1 := Lib.hid fun w2 (hb : Below (w.alloc (.cells (xcs x) 28)).heap.size (w.alloc (.cells (xcs x) 28)) w2) => C w2 (Below.chain c0 hb)
  have HT := Lib.hid terms_tb
  have L := fun y : Later (w.alloc (.cells (xcs x) 28)) => S0 y.w y.kept
  have C2 := fun y : Later (w.alloc (.cells (xcs x) 28)) => C1.out y.w y.kept
  clear C Lz S0
  cases r
  · clear D HT
    go_enter Try.func13, Try.ntmps13
    go_wp2_with fail
    refine wp_region_later (by kernel_rfl) (by kernel_rfl) ?_
    repeat (go_big_quiet_step (first | with_reducible exact later_call (C2 _)))
    refine wpQuiet_nil ?_
    rintro w' ⟨x, rfl⟩
    have hch := x.kept
    go_wp2_with fail
    go_ret
    exact ⟨rfl, Below.chain c0 hch⟩
  cases kb
  · clear L C2
    have D1 := Lib.hid fun w2 g (hb : Below (w.alloc (.cells (xcs x) 28)).heap.size (w.alloc (.cells (xcs x) 28)) w2) (h : Tb w2 g) => D rfl rfl w2 g (Below.chain c0 hb) h
    clear D
    go_enter Try.func13, Try.ntmps13
    go_wp2_with fail
    go_region_held3 (fun W => W.cell? ⟨w.heap.size, 0, none⟩ = some (.int .i64 x.kind) ∧ W.cell? ⟨w.heap.size, 1, none⟩ = some (.string x.name) ∧ W.cell? ⟨w.heap.size, 2, none⟩ = some (.int .i64 x.v.k) ∧ W.cell? ⟨w.heap.size, 3, none⟩ = some (.int .i64 x.v.n) ∧ W.cell? ⟨w.heap.size, 4, none⟩ = some (.float .f64 x.v.f) ∧ W.cell? ⟨w.heap.size, 5, none⟩ = some (.string x.v.s) ∧ W.cell? ⟨w.heap.size, 6, none⟩ = some (.slice x.ao x.len x.cap))
      (first | exact HS.out _ (Below.refl _ _).drew | exact HS.out _ hch | exact HS.out _ hch2 | exact HS.out _ hch3)
      (first
        | ((with_reducible refine (C1.out _ (Below.refl _ _).drew).mono ?_); rintro e wt ⟨rfl, hbt⟩; have hch := Below.chain (Below.refl _ _).drew hbt)
        | ((with_reducible refine (HT.out _).mono ?_); rintro e wu ⟨g, rfl, hTt, hbu⟩; have hch2 := Below.chain hch hbu)
        | ((with_reducible refine (D1.out _ _ hch2 hTt).mono ?_); rintro e wv ⟨rfl, hbv⟩; have hch3 := Below.chain hch2 hbv))
    all_goals
      go_wp2_with fail
      go_ret
      exact ⟨rfl, Below.chain c0 hch3⟩
  · clear D HT
    go_enter Try.func13, Try.ntmps13
    go_wp2_with fail
    refine wp_region_later (by kernel_rfl) (by kernel_rfl) ?_
    repeat (go_big_quiet_step (first | with_reducible exact later_call (C2 _)))
    refine wpQuiet_nil ?_
    rintro w' ⟨x, rfl⟩
    have hch := x.kept
    go_wp2_with fail
    go_ret
    exact ⟨rfl, Below.chain c0 hch⟩
theorem lhas_any (l : List ByteArray) (t : Ex) (x : Xc) (vl : Value) (w : World) (h : Tx w t x) (hl : RwS w vl l) :
    Calls Try.prog 13 #[vl, xv x] w fun e w' => e = .returned (.bool (hasL l t)) ∧ Below w.heap.size w w' := by
  cases t with
  | node kind name v kids =>
    have hkx : x.kind = kind := (Tx.inv h).1
    have hrt : ∀ (_ : rightL (.node kind name v kids) = true) (_ : (x.kind == 0) = false), termK (.node kind name v kids) = true := by
      intro hr h0
      have h0' : ¬ kind = 0 := by rw [← hkx]; simpa using h0
      rw [rightL, if_neg h0'] at hr
      unfold termE at hr
      simp only [Bool.and_eq_true] at hr
      exact hr.2
    refine (lhas_core x vl (rightL (.node kind name v kids)) (holdsL l (.node kind name v kids)) (x.kind == 0) rfl w (fun w1 hb => lright_any _ x w1 (h.keep hb)) (fun hr h0 w1 g hb hT => lholds_any g l _ x vl w1 (hrt hr h0) hT (h.keep hb) (hl.keep hb))).mono fun e w' hh => ret_bool' ?_ hh
    unfold hasL
    by_cases h0 : x.kind = 0
    · have k0 : kind = 0 := by rw [← hkx]; exact h0
      have e1 : holdsL l (.node kind name v kids) = true := by
        rw [holdsL, if_neg (by omega), if_neg (by omega), if_neg (by omega), if_neg (by omega), if_neg (by omega)]
      rw [e1]; simp
    · have : (x.kind == 0) = false := by simp [h0]
      rw [this]; simp
end Go.Proofs.Ytlnmjbheohkanaa
