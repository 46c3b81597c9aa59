import Derived.Test.YtcbogapnhabhkaaPW
namespace Go.Proofs.Ytcbogapnhabhkaa
open Go Go.RowKit
set_option linter.unusedVariables false
theorem rvo (C : Int) (s : ByteArray) (hs : s.size ≤ 1000) (h0 : 0 < s.size) (hC : (s[0].toNat : Int) = C) (q1 : (C == 1) = false) (q2 : (C == 2) = false) (q18 : (C == 18) = false) (q3 : (C == 3) = false) (q4 : (C == 4) = false) (HR : Hid (∀ w, Calls Try.prog 15 #[.agg #[.int .i64 C, .int .i64 0, .float .f64 0, .string ⟨#[]⟩]] w fun e w' => e = .returned (.bool false) ∧ Below w.heap.size w w')) (w : World) :
    Calls Try.prog 24 #[.string s] w fun e w' => e = .returned (.tuple #[.agg #[.int .i64 0, .int .i64 0, .float .f64 0, .string ⟨#[]⟩], .int .i64 0, .bool false]) ∧ Below w.heap.size w w' := by
  have hsf := run_store_float
  have e0 : (s.toList == []) = false := by rw [toL, cons0 s h0]; rfl
  have i0 : (0 : Int) < (s.size : Int) := by omega
  have i1 : (1 : Int) ≤ (s.size : Int) := by omega
  have hc0 : 0 ≤ C := by omega
  have hc1 : C ≤ 255 := by have := s[0].toNat_lt; omega
  have lV : Lies ((w.alloc (.cells #[.int .i64 0, .int .i64 0, .float .f64 0, .string ⟨#[]⟩] 29)).alloc (.cells #[.int .i64 C, .int .i64 0, .float .f64 0, .string ⟨#[]⟩] 29)) (w.heap.size + 1) (.int .i64 C) (.int .i64 0) (.float .f64 0) (.string ⟨#[]⟩) := lies_two _ _ _ _ _ _ _
  have lR : Lies ((w.alloc (.cells #[.int .i64 0, .int .i64 0, .float .f64 0, .string ⟨#[]⟩] 29)).alloc (.cells #[.int .i64 C, .int .i64 0, .float .f64 0, .string ⟨#[]⟩] 29)) w.heap.size (.int .i64 0) (.int .i64 0) (.float .f64 0) (.string ⟨#[]⟩) := (lies_new w _ _ _ _ _).alloc _
  have fV : Free ((w.alloc (.cells #[.int .i64 0, .int .i64 0, .float .f64 0, .string ⟨#[]⟩] 29)).alloc (.cells #[.int .i64 C, .int .i64 0, .float .f64 0, .string ⟨#[]⟩] 29)) (w.heap.size + 1) := free_two _ _ _ _ _ _ _
  have fR : Free ((w.alloc (.cells #[.int .i64 0, .int .i64 0, .float .f64 0, .string ⟨#[]⟩] 29)).alloc (.cells #[.int .i64 C, .int .i64 0, .float .f64 0, .string ⟨#[]⟩] 29)) w.heap.size := free_one _ _ _ _ _ _ _
  have c0 : Below w.heap.size w ((w.alloc (.cells #[.int .i64 0, .int .i64 0, .float .f64 0, .string ⟨#[]⟩] 29)).alloc (.cells #[.int .i64 C, .int .i64 0, .float .f64 0, .string ⟨#[]⟩] 29)) := below_a2 _ _ _
  have LV := Lib.hid lV
  have LR := Lib.hid lR
  have FV := Lib.hid fV
  have FR := Lib.hid fR
  have CC := Lib.hid c0
  clear lV lR fV fR c0
  go_enter Try.func24, Try.ntmps24
  go_wp2_with fail
  refine (HR.out _).mono ?_; rintro e w9 ⟨rfl, hb9⟩
  have lV9 := LV.out.below hb9
  have lR9 := LR.out.below hb9
  have fR9 := FR.out.below LR.out hb9
  have c9 := Below.chain CC.out hb9
  go_wp2_with fail
  refine wp_region_later (by kernel_rfl) (by kernel_rfl) ?_
  repeat (go_big_quiet_step (first | fail))
  refine wpQuiet_nil ?_
  rintro w' ⟨x, rfl⟩
  have lRx := lR9.below x.kept
  have fRx := fR9.below lR9 x.kept
  have cx := Below.chain c9 x.kept
  have ⟨z0, z1, z2, z3⟩ := lRx
  have ⟨y0, y1, y2, y3⟩ := fRx
  go_wp2_with fail
  exact ret_vnb rfl rfl rfl rfl rfl (Lies.set lRx _ _ _ _) ⟨rfl, below_set4 cx (Nat.le_refl _) _ _ _ _⟩
theorem rve (s : ByteArray) (h0 : s.size = 0)  (w : World) :
    Calls Try.prog 24 #[.string s] w fun e w' => e = .returned (.tuple #[.agg #[.int .i64 0, .int .i64 0, .float .f64 0, .string ⟨#[]⟩], .int .i64 0, .bool false]) ∧ Below w.heap.size w w' := by
  have hsf := run_store_float
  have e0 : (s.toList == []) = true := by
    have : s.data.toList = [] := List.eq_nil_of_length_eq_zero (by simpa using h0)
    rw [toL, this]; rfl
  have LR : Hid (Lies ((w.alloc (.cells #[.int .i64 0, .int .i64 0, .float .f64 0, .string ⟨#[]⟩] 29)).alloc (.cells #[.int .i64 0, .int .i64 0, .float .f64 0, .string ⟨#[]⟩] 29)) w.heap.size (.int .i64 0) (.int .i64 0) (.float .f64 0) (.string ⟨#[]⟩)) := Lib.hid ((lies_new w _ _ _ _ _).alloc _)
  have CC : Hid (Below w.heap.size w ((w.alloc (.cells #[.int .i64 0, .int .i64 0, .float .f64 0, .string ⟨#[]⟩] 29)).alloc (.cells #[.int .i64 0, .int .i64 0, .float .f64 0, .string ⟨#[]⟩] 29))) := Lib.hid (below_a2 _ _ _)
  go_enter Try.func24, Try.ntmps24
  go_wp2_with fail
  exact ret_vnb rfl rfl rfl rfl rfl LR.out ⟨rfl, CC.out⟩
theorem rv3s (s : ByteArray) (h0 : 0 < s.size) (hC : (s[0].toNat : Int) = 3) (h9 : s.size < 9)  (w : World) :
    Calls Try.prog 24 #[.string s] w fun e w' => e = .returned (.tuple #[.agg #[.int .i64 0, .int .i64 0, .float .f64 0, .string ⟨#[]⟩], .int .i64 0, .bool false]) ∧ Below w.heap.size w w' := by
  have hsf := run_store_float
  have e0 : (s.toList == []) = false := by rw [toL, cons0 s h0]; rfl
  have i0 : (0 : Int) < (s.size : Int) := by omega
  have i9 : decide ((s.size : Int) < 9) = true := by simp; omega
  have LR : Hid (Lies ((w.alloc (.cells #[.int .i64 0, .int .i64 0, .float .f64 0, .string ⟨#[]⟩] 29)).alloc (.cells #[.int .i64 3, .int .i64 0, .float .f64 0, .string ⟨#[]⟩] 29)) w.heap.size (.int .i64 0) (.int .i64 0) (.float .f64 0) (.string ⟨#[]⟩)) := Lib.hid ((lies_new w _ _ _ _ _).alloc _)
  have CC : Hid (Below w.heap.size w ((w.alloc (.cells #[.int .i64 0, .int .i64 0, .float .f64 0, .string ⟨#[]⟩] 29)).alloc (.cells #[.int .i64 3, .int .i64 0, .float .f64 0, .string ⟨#[]⟩] 29))) := Lib.hid (below_a2 _ _ _)
  go_enter Try.func24, Try.ntmps24
  go_wp2_with fail
  exact ret_vnb rfl rfl rfl rfl rfl LR.out ⟨rfl, CC.out⟩
theorem ext_row (s : ByteArray) (R r : List UInt8) (h : s.data.toList = R ++ r) (K : Nat) (hK : K = R.length) : ((⟨R.toArray⟩ : ByteArray).toList == (s.extract 0 K).toList) = true := by
  have e1 : (⟨R.toArray⟩ : ByteArray).toList = R := by rw [toL]
  have e2 : (s.extract 0 K).toList = R := by rw [toL, sl_list, h, hK, List.drop_zero]; exact List.take_left
  rw [e1, e2]; simp
set_option maxHeartbeats 1000000 in
theorem rvalue_any (s : ByteArray) (hs : s.size ≤ 400) (w : World) : Calls Try.prog 24 #[.string s] w fun e w' => e = .returned (valT (valR s.data.toList) s.size) ∧ Below w.heap.size w w' := by
  have hlen : s.data.toList.length = s.size := by simp
  by_cases h0 : s.size = 0
  · have : s.data.toList = [] := List.eq_nil_of_length_eq_zero (by omega)
    rw [this]; exact rve s h0 w
  have h0' : 0 < s.size := by omega
  have hs' : s.size ≤ 1000 := by omega
  have hc := cons0 s h0'
  have hx : (s.extract 1 s.size).data.toList = s.data.toList.drop 1 := by
    rw [sl_list, ← hlen, List.take_length]
  have hxs : (s.extract 1 s.size).size = s.size - 1 := by simp
  have htl : (s.data.toList.drop 1).length = s.size - 1 := by simp
  have G := rget_any (s.extract 1 s.size) (by omega)
  have GT := rtextR_any (s.extract 1 s.size) (by omega)
  rw [hx, hxs] at G GT
  have hI : ∀ d : UInt8, s[0] = d → (s[0].toNat : Int) = (d.toNat : Int) := fun d h => by rw [h]
  -- what stands there, once it is known to be read
  have fin : ∀ (x : V4) (r : List UInt8), valR s.data.toList = some (x, r) → RV x ∧ s.data.toList = x.row ++ r ∧ x.row.length + r.length = s.size ∧ x.s.length ≤ 400 := fun x r h => by
    obtain ⟨h1, h2⟩ := valR_back h
    have h3 : x.row.length + r.length = s.size := by rw [← hlen, h2, List.length_append]
    exact ⟨h1, h2, h3, by have := row_ge x h1; omega⟩
  have HR : ∀ (k n : Int) (f : Nat) (S : ByteArray) (b : Bool), f < 18446744073709551616 → rightB k n f S = b → Hid (∀ w, Calls Try.prog 15 #[.agg #[.int .i64 k, .int .i64 n, .float .f64 f, .string S]] w fun e w' => e = .returned (.bool b) ∧ Below w.heap.size w w') := fun k n f S b hf hb => Lib.hid (by rw [← hb]; exact rright_any k n f hf S)
  have HP : ∀ (k n : Int) (f : Nat) (S : List UInt8), RV ⟨k, n, f, S⟩ → S.length ≤ 400 → Hid (∀ w, Calls Try.prog 18 #[.agg #[.int .i64 k, .int .i64 n, .float .f64 f, .string ⟨S.toArray⟩]] w fun e w' => e = .returned (.string ⟨(rowV k n f S).toArray⟩) ∧ Below w.heap.size w w') := fun k n f S hx hl => Lib.hid (fun w => rpv_right k n f ⟨S.toArray⟩ hx.right hx.n1 hx.n2 hx.f (by show S.toArray.size ≤ 400000; simp; omega) w)
  have hcons : valR s.data.toList = valR (s[0] :: s.data.toList.drop 1) := by rw [← hc]
  by_cases c0 : s[0] = 0
  · have hv : valR s.data.toList = some (⟨0, 0, 0, []⟩, s.data.toList.drop 1) := by rw [hcons, valR_cons, if_pos c0]
    obtain ⟨RX, hl, hk, hls⟩ := fin _ _ hv
    rw [hv]
    have := rv0 s hs' h0' (hI 0 c0) (HR 0 0 0 ⟨#[]⟩ true (by omega) RX.right) _ (HP 0 0 0 [] RX hls) (ext_row s _ _ hl 1 rfl) w
    refine this.mono fun e w' ⟨he, hb⟩ => ⟨he.trans ?_, hb⟩
    simp only [valT]
    have e1 : (s.size : Int) - ((s.data.toList.drop 1).length : Int) = 1 := by omega
    rw [e1]
  by_cases c1 : s[0] = 1
  · cases hn : numR (s.data.toList.drop 1) with
    | none =>
      rw [hn] at G
      have hv : valR s.data.toList = none := by rw [hcons, valR_cons, if_neg c0, if_pos c1, hn]
      rw [hv]; exact rv1n s hs' h0' (hI 1 c1) G w
    | some q =>
      obtain ⟨n, r⟩ := q
      have hrl := numR_len hn
      rw [hn] at G
      simp only [getT] at G
      rw [show (((s.size - 1 : Nat) : Int) - (r.length : Int)) = ((s.size - 1 - r.length : Nat) : Int) by omega] at G
      by_cases h1 : n ≤ 1
      · have hv : valR s.data.toList = some (⟨1, n, 0, []⟩, r) := by rw [hcons, valR_cons, if_neg c0, if_pos c1, hn]; simp only [if_pos h1]
        obtain ⟨RX, hl, hk, hls⟩ := fin _ _ hv
        rw [hv]
        have := rv1 s hs' h0' (hI 1 c1) n _ (1 + (s.size - 1 - r.length)) rfl (by omega) G (HR 1 n 0 ⟨#[]⟩ true (by omega) RX.right) _ (HP 1 n 0 [] RX hls) (ext_row s _ _ hl _ (by omega)) (by omega) w
        refine this.mono fun e w' ⟨he, hb⟩ => ⟨he.trans ?_, hb⟩
        simp only [valT]
        rw [show (s.size : Int) - (r.length : Int) = ((1 + (s.size - 1 - r.length) : Nat) : Int) by omega]
      · have hv : valR s.data.toList = none := by rw [hcons, valR_cons, if_neg c0, if_pos c1, hn]; simp only [if_neg h1]
        rw [hv]
        by_cases h63 : n < 9223372036854775808
        · exact rv1r s hs' h0' (hI 1 c1) n _ (1 + (s.size - 1 - r.length)) rfl h63 G (HR 1 n 0 ⟨#[]⟩ false (by omega) (by simp [rightB]; omega)) (by omega) w
        · exact rv1b s hs' h0' (hI 1 c1) n _ (by omega) G w
  by_cases c2 : s[0] = 2
  · cases hn : numR (s.data.toList.drop 1) with
    | none =>
      rw [hn] at G
      have hv : valR s.data.toList = none := by rw [hcons, valR_cons, if_neg c0, if_neg c1, if_pos c2, hn]
      rw [hv]; exact rv2n s hs' h0' (hI 2 c2) G w
    | some q =>
      obtain ⟨n, r⟩ := q
      have hrl := numR_len hn
      rw [hn] at G
      simp only [getT] at G
      rw [show (((s.size - 1 : Nat) : Int) - (r.length : Int)) = ((s.size - 1 - r.length : Nat) : Int) by omega] at G
      by_cases h63 : n < 9223372036854775808
      · have hv : valR s.data.toList = some (⟨2, (n : Int), 0, []⟩, r) := by rw [hcons, valR_cons, if_neg c0, if_neg c1, if_pos c2, hn]; simp only [if_pos h63]
        obtain ⟨RX, hl, hk, hls⟩ := fin _ _ hv
        rw [hv]
        have := rv2 s hs' h0' (hI 2 c2) n _ (1 + (s.size - 1 - r.length)) rfl h63 G (HR 2 ((n : Int)) 0 ⟨#[]⟩ true (by omega) RX.right) _ (HP 2 ((n : Int)) 0 [] RX hls) (ext_row s _ _ hl _ (by omega)) (by omega) w
        refine this.mono fun e w' ⟨he, hb⟩ => ⟨he.trans ?_, hb⟩
        simp only [valT]
        rw [show (s.size : Int) - (r.length : Int) = ((1 + (s.size - 1 - r.length) : Nat) : Int) by omega]
      · have hv : valR s.data.toList = none := by rw [hcons, valR_cons, if_neg c0, if_neg c1, if_pos c2, hn]; simp only [if_neg h63]
        rw [hv]; exact rv2b s hs' h0' (hI 2 c2) n _ (by omega) G w
  by_cases c18 : s[0] = 18
  · cases hn : numR (s.data.toList.drop 1) with
    | none =>
      rw [hn] at G
      have hv : valR s.data.toList = none := by rw [hcons, valR_cons, if_neg c0, if_neg c1, if_neg c2, if_pos c18, hn]
      rw [hv]; exact rv18n s hs' h0' (hI 18 c18) G w
    | some q =>
      obtain ⟨n, r⟩ := q
      have hrl := numR_len hn
      rw [hn] at G
      simp only [getT] at G
      rw [show (((s.size - 1 : Nat) : Int) - (r.length : Int)) = ((s.size - 1 - r.length : Nat) : Int) by omega] at G
      by_cases h63 : n < 9223372036854775808
      · have hv : valR s.data.toList = some (⟨2, -1 - (n : Int), 0, []⟩, r) := by rw [hcons, valR_cons, if_neg c0, if_neg c1, if_neg c2, if_pos c18, hn]; simp only [if_pos h63]
        obtain ⟨RX, hl, hk, hls⟩ := fin _ _ hv
        rw [hv]
        have := rv18 s hs' h0' (hI 18 c18) n _ (1 + (s.size - 1 - r.length)) rfl h63 G (HR 2 (-1 - (n : Int)) 0 ⟨#[]⟩ true (by omega) RX.right) _ (HP 2 (-1 - (n : Int)) 0 [] RX hls) (ext_row s _ _ hl _ (by omega)) (by omega) w
        refine this.mono fun e w' ⟨he, hb⟩ => ⟨he.trans ?_, hb⟩
        simp only [valT]
        rw [show (s.size : Int) - (r.length : Int) = ((1 + (s.size - 1 - r.length) : Nat) : Int) by omega]
      · have hv : valR s.data.toList = none := by rw [hcons, valR_cons, if_neg c0, if_neg c1, if_neg c2, if_pos c18, hn]; simp only [if_neg h63]
        rw [hv]; exact rv18b s hs' h0' (hI 18 c18) n _ (by omega) G w
  by_cases c3 : s[0] = 3
  · by_cases h9 : s.size < 9
    · have hv : valR s.data.toList = none := by
        have : fltR (s.data.toList.drop 1) = none := by unfold fltR; rw [if_neg (by omega)]
        rw [hcons, valR_cons, if_neg c0, if_neg c1, if_neg c2, if_neg c18, if_pos c3, this]
      rw [hv]; exact rv3s s h0' (hI 3 c3) h9 w
    · have hy : (s.extract 1 9).data.toList = (s.data.toList.drop 1).take 8 := by rw [sl_list, List.drop_take]
      have HN := fun w => rnum_any (s.extract 1 9) (by simp; omega) w
      rw [hy] at HN
      have hV := val8 (s.data.toList.drop 1)
      have hfl := rfl64_lt _ hV
      have HF := rfloat_any (valB ((s.data.toList.drop 1).take 8)) hV
      have hfR : fltR (s.data.toList.drop 1) = (ofk (valB ((s.data.toList.drop 1).take 8))).map fun f => (f, (s.data.toList.drop 1).drop 8) := by unfold fltR; rw [if_pos (by omega)]
      have hor := ofk_ref _ hV
      have h8l : ((s.data.toList.drop 1).take 8).length = 8 := by rw [List.length_take, htl]; omega
      have hdig := dig_valB ((s.data.toList.drop 1).take 8)
      rw [h8l] at hdig
      generalize valB ((s.data.toList.drop 1).take 8) = V at *
      by_cases hq : Flt.canon (rfl64 V) = rfl64 V ∧ Flt.kbits (rfl64 V) = V
      · rw [if_pos hq] at hor
        have hv : valR s.data.toList = some (⟨3, 0, rfl64 V, []⟩, (s.data.toList.drop 1).drop 8) := by rw [hcons, valR_cons, if_neg c0, if_neg c1, if_neg c2, if_neg c18, if_pos c3, hfR, hor]; rfl
        obtain ⟨RX, hl, hk, hls⟩ := fin _ _ hv
        rw [hv]
        have hr9 : (⟨3, 0, rfl64 V, []⟩ : V4).row.length = 9 := by simp [V4.row, rowV, dig_len]
        have := rv3 s hs' h0' (hI 3 c3) V _ HN HF (by omega) (HR 3 0 (rfl64 V) ⟨#[]⟩ true hfl RX.right) _ (HP 3 0 (rfl64 V) [] RX hls) (ext_row s _ _ hl 9 hr9.symm) w
        refine this.mono fun e w' ⟨he, hb⟩ => ⟨he.trans ?_, hb⟩
        simp only [valT]
        rw [show (s.size : Int) - (((s.data.toList.drop 1).drop 8).length : Int) = 9 by rw [List.length_drop, htl]; omega]
      · rw [if_neg hq] at hor
        have hv : valR s.data.toList = none := by rw [hcons, valR_cons, if_neg c0, if_neg c1, if_neg c2, if_neg c18, if_pos c3, hfR, hor]; rfl
        rw [hv]
        by_cases hcn : Flt.canon (rfl64 V) = rfl64 V
        · have hkb : Flt.kbits (rfl64 V) ≠ V := fun h => hq ⟨hcn, h⟩
          have hrt : rightB 3 0 (rfl64 V) ⟨#[]⟩ = true := by simp [rightB]; exact hcn.symm
          have RX : RV ⟨3, 0, rfl64 V, []⟩ := ⟨hrt, by simp, by simp, hfl, by simp⟩
          refine rv3m s hs' h0' (hI 3 c3) V _ HN HF (by omega) (HR 3 0 (rfl64 V) ⟨#[]⟩ true hfl hrt) _ (HP 3 0 (rfl64 V) [] RX (by simp)) ?_ w
          have e2 : (s.extract 0 9).toList = 3 :: (s.data.toList.drop 1).take 8 := by
            rw [toL, sl_list, List.drop_zero]
            conv => lhs; rw [hc, c3]
            rw [List.take_succ_cons]
          have e1 : (⟨(rowV 3 0 (rfl64 V) []).toArray⟩ : ByteArray).toList = 3 :: dig 8 (Flt.kbits (rfl64 V)) := by rw [toL]; simp [rowV]
          rw [e1, e2, ← hdig]
          simp only [beq_eq_false_iff_ne, ne_eq, List.cons.injEq, true_and]
          intro hd
          apply hkb
          have := congrArg valB hd
          rwa [valB_dig 8 _ (by rw [p8]; exact kbits_lt _ hfl), valB_dig 8 _ (by rw [p8]; exact hV)] at this
        · exact rv3r s hs' h0' (hI 3 c3) V _ HN HF (by omega) (HR 3 0 (rfl64 V) ⟨#[]⟩ false hfl (by simp [rightB]; exact fun h => hcn h.symm)) w
  by_cases c4 : s[0] = 4
  · cases hn : textR (s.data.toList.drop 1) with
    | none =>
      rw [hn] at GT
      have hv : valR s.data.toList = none := by rw [hcons, valR_cons, if_neg c0, if_neg c1, if_neg c2, if_neg c18, if_neg c3, if_pos c4, hn]
      rw [hv]; exact rv4n s hs' h0' (hI 4 c4) GT w
    | some q =>
      obtain ⟨S, r⟩ := q
      have hrl := textR_len hn
      rw [hn] at GT
      simp only [textT] at GT
      rw [show (((s.size - 1 : Nat) : Int) - (r.length : Int)) = ((s.size - 1 - r.length : Nat) : Int) by omega] at GT
      have hv : valR s.data.toList = some (⟨4, 0, 0, S⟩, r) := by rw [hcons, valR_cons, if_neg c0, if_neg c1, if_neg c2, if_neg c18, if_neg c3, if_pos c4, hn]
      obtain ⟨RX, hl, hk, hls⟩ := fin _ _ hv
      rw [hv]
      have := rv4 s hs' h0' (hI 4 c4) ⟨S.toArray⟩ _ (1 + (s.size - 1 - r.length)) rfl GT (HR 4 0 0 ⟨S.toArray⟩ true (by omega) RX.right) _ (HP 4 0 0 S RX hls) (ext_row s _ _ hl _ (by omega)) (by omega) w
      refine this.mono fun e w' ⟨he, hb⟩ => ⟨he.trans ?_, hb⟩
      simp only [valT]
      rw [show (s.size : Int) - (r.length : Int) = ((1 + (s.size - 1 - r.length) : Nat) : Int) by omega]
  · have hv : valR s.data.toList = none := by rw [hcons, valR_cons, if_neg c0, if_neg c1, if_neg c2, if_neg c18, if_neg c3, if_neg c4]
    rw [hv]
    have nq : ∀ d : UInt8, s[0] ≠ d → ((s[0].toNat : Int) == (d.toNat : Int)) = false := fun d hd => by simp only [beq_eq_false_iff_ne, ne_eq]; intro h; exact hd (UInt8.toNat_inj.1 (by omega))
    have nd : ∀ d : UInt8, s[0] ≠ d → ¬ ((s[0].toNat : Int) = (d.toNat : Int)) := fun d hd h => hd (UInt8.toNat_inj.1 (by omega))
    have m0 : ¬ ((s[0].toNat : Int) = 0) := nd 0 c0
    have m1 : ¬ ((s[0].toNat : Int) = 1) := nd 1 c1
    have m2 : ¬ ((s[0].toNat : Int) = 2) := nd 2 c2
    have m3 : ¬ ((s[0].toNat : Int) = 3) := nd 3 c3
    have m4 : ¬ ((s[0].toNat : Int) = 4) := nd 4 c4
    exact rvo _ s hs' h0' rfl (nq 1 c1) (nq 2 c2) (nq 18 c18) (nq 3 c3) (nq 4 c4) (HR _ 0 0 ⟨#[]⟩ false (by omega) (by unfold rightB; rw [if_neg m0, if_neg m1, if_neg m2, if_neg m3, if_neg m4])) w
end Go.Proofs.Ytcbogapnhabhkaa
