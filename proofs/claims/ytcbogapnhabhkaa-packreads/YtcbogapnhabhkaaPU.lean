import Derived.Test.YtcbogapnhabhkaaPT
namespace Go.Proofs.Ytcbogapnhabhkaa
open Go Go.RowKit
set_option linter.unusedVariables false
theorem take_snoc (s : ByteArray) (i : Nat) (h : i < s.size) : s.data.toList.take (i + 1) = s.data.toList.take i ++ [s[i]] := by
  rw [List.take_succ_eq_append_getElem (by simpa using h)]
  rfl
theorem rnum_any (s : ByteArray) (hs : s.size ≤ 8) (w : World) : Calls Try.prog 38 #[.string s] w fun e w' => e = .returned (.int .u64 (valB s.data.toList : Nat)) ∧ w = w' := by
  go_enter Try.func38, Try.ntmps38
  go_wp2_with fail
  go_loop [3, 4] (fun s3 s4 => ∃ k : Nat, k ≤ s.size ∧ s4 = .int .i64 k ∧ s3 = .int .u64 (valB (s.data.toList.take k) : Nat)) (fun _ s4 => s.size - (intOf s4).toNat)
  case atStart => exact ⟨0, by omega, rfl, rfl⟩
  case round =>
    obtain ⟨k, hk, rfl, rfl⟩ := hrel
    by_cases hlt : k < s.size
    · have ik : (k : Int) < (s.size : Int) := by omega
      have hv := valB_lt (s.data.toList.take k)
      have hval : valB (s.data.toList.take (k + 1)) = valB (s.data.toList.take k) * 256 + s[k].toNat := by rw [take_snoc s k hlt, valB_snoc]
      have hVl : valB (s.data.toList.take k) < 72057594037927936 := Nat.lt_of_lt_of_le hv (Nat.le_trans (Nat.pow_le_pow_right (by decide) (show (s.data.toList.take k).length ≤ 7 by simp; omega)) (by decide))
      have h8 := s[k].toNat_lt
      generalize valB (s.data.toList.take k) = V at *
      clear hv
      go_wp2_with fail
      go_round
      case rel => exact ⟨k + 1, by omega, by go_num, by rw [hval]; first | rfl | simp⟩
      case measure => simp [intOf]; omega
    · obtain rfl : k = s.size := by omega
      have e : s.data.toList.take s.size = s.data.toList := List.take_of_length_le (by simp)
      rw [e]
      go_wp2_with fail
      go_ret
      exact ⟨rfl, rfl⟩
theorem sl_list (s : ByteArray) (a b : Nat) : (s.extract a b).data.toList = (s.data.toList.take b).drop a := by
  simp [ByteArray.data_extract, List.drop_take]
theorem toL (s : ByteArray) : s.toList = s.data.toList := Lib.toList_data s
theorem cons0 (s : ByteArray) (h : 0 < s.size) : s.data.toList = s[0] :: s.data.toList.drop 1 := by
  have hl : 0 < s.data.toList.length := by simpa using h
  exact List.drop_eq_getElem_cons hl
theorem rget_core (s : ByteArray) (hs : s.size ≤ 1000) (C V K : Nat) (h0 : 0 < s.size) (hC : s[0].toNat = C) (h8 : C ≤ 8) (hK : K = 1 + C) (hKs : K ≤ s.size) (b : Bool)
    (HN : ∀ w, Calls Try.prog 38 #[.string (s.extract 1 K)] w fun e w' => e = .returned (.int .u64 (V : Nat)) ∧ w = w')
    (X : ByteArray) (HP : ∀ w, Calls Try.prog 16 #[.int .u64 (V : Int)] w fun e w' => e = .returned (.string X) ∧ Below w.heap.size w w')
    (hb : (X.toList == (s.extract 0 K).toList) = b) (w : World) :
    Calls Try.prog 20 #[.string s] w fun e w' => e = .returned (if b = true then .tuple #[.int .u64 V, .int .i64 K, .bool true] else .tuple #[.int .u64 0, .int .i64 0, .bool false]) ∧ Below w.heap.size w w' := by
  have e0 : (s.toList == []) = false := by
    rw [toL, cons0 s h0]; rfl
  have i0 : (0 : Int) < (s.size : Int) := by omega
  have i8 : decide ((8 : Int) < (s[0].toNat : Int)) = false := by simp; omega
  have iK : (1 : Int) + (s[0].toNat : Int) = (K : Int) := by omega
  have iKs : decide ((s.size : Int) < (K : Int)) = false := by simp; omega
  have jK : (K : Int) ≤ (s.size : Int) := by omega
  have jK1 : (1 : Int) ≤ (K : Int) := by omega
  have HN' := Lib.hid HN
  clear HN hC hK
  cases b
  · rw [if_neg (by simp)]
    go_enter Try.func20, Try.ntmps20
    go_wp2_with fail
    refine (HN'.out _).mono ?_; rintro e w' ⟨rfl, rfl⟩
    go_wp2_with fail
    refine wp_region_later (by kernel_rfl) (by kernel_rfl) ?_
    repeat (go_big_quiet_step (first | with_reducible exact later_call (HP _)))
    refine wpQuiet_nil ?_
    rintro w' ⟨x, rfl⟩
    go_wp2_with fail
    go_ret3
    exact ⟨rfl, x.kept⟩
  · rw [if_pos rfl]
    go_enter Try.func20, Try.ntmps20
    go_wp2_with fail
    refine (HN'.out _).mono ?_; rintro e w' ⟨rfl, rfl⟩
    go_wp2_with fail
    refine wp_region_later (by kernel_rfl) (by kernel_rfl) ?_
    repeat (go_big_quiet_step (first | with_reducible exact later_call (HP _)))
    refine wpQuiet_nil ?_
    rintro w' ⟨x, rfl⟩
    go_wp2_with fail
    go_ret3
    exact ⟨rfl, x.kept⟩
theorem rget_bad8 (s : ByteArray) (h0 : 0 < s.size) (h8 : 8 < s[0].toNat) (w : World) : Calls Try.prog 20 #[.string s] w fun e w' => e = .returned (.tuple #[.int .u64 0, .int .i64 0, .bool false]) ∧ Below w.heap.size w w' := by
  have e0 : (s.toList == []) = false := by rw [toL, cons0 s h0]; rfl
  have i0 : (0 : Int) < (s.size : Int) := by omega
  have i8 : decide ((8 : Int) < (s[0].toNat : Int)) = true := by simp; omega
  go_enter Try.func20, Try.ntmps20
  go_wp2_with fail
  go_ret3
  exact ⟨rfl, Below.refl _ _⟩
theorem rget_badl (s : ByteArray) (h0 : 0 < s.size) (h8 : s[0].toNat ≤ 8) (hl : s.size < 1 + s[0].toNat) (w : World) : Calls Try.prog 20 #[.string s] w fun e w' => e = .returned (.tuple #[.int .u64 0, .int .i64 0, .bool false]) ∧ Below w.heap.size w w' := by
  have e0 : (s.toList == []) = false := by rw [toL, cons0 s h0]; rfl
  have i0 : (0 : Int) < (s.size : Int) := by omega
  have i8 : decide ((8 : Int) < (s[0].toNat : Int)) = false := by simp; omega
  have iK : decide ((s.size : Int) < 1 + (s[0].toNat : Int)) = true := by simp; omega
  go_enter Try.func20, Try.ntmps20
  go_wp2_with fail
  go_ret3
  exact ⟨rfl, Below.refl _ _⟩
theorem rget_bad0 (s : ByteArray) (h0 : s.size = 0) (w : World) : Calls Try.prog 20 #[.string s] w fun e w' => e = .returned (.tuple #[.int .u64 0, .int .i64 0, .bool false]) ∧ Below w.heap.size w w' := by
  have e0 : (s.toList == []) = true := by
    have : s.data.toList = [] := List.eq_nil_of_length_eq_zero (by simpa using h0)
    rw [toL, this]; rfl
  go_enter Try.func20, Try.ntmps20
  go_wp2_with fail
  go_ret3
  exact ⟨rfl, Below.refl _ _⟩
theorem rget_any (s : ByteArray) (hs : s.size ≤ 1000) (w : World) : Calls Try.prog 20 #[.string s] w fun e w' => e = .returned (getT (numR s.data.toList) s.size) ∧ Below w.heap.size w w' := by
  have hlen : s.data.toList.length = s.size := by simp
  by_cases h0 : s.size = 0
  · have : s.data.toList = [] := List.eq_nil_of_length_eq_zero (by omega)
    rw [this]; exact rget_bad0 s h0 w
  have h0' : 0 < s.size := by omega
  have hc := cons0 s h0'
  have hdl : (s.data.toList.drop 1).length = s.size - 1 := by simp
  by_cases h8 : 8 < s[0].toNat
  · have e : numR s.data.toList = none := by rw [hc, numR_cons, if_neg (by omega)]
    rw [e]; exact rget_bad8 s h0' h8 w
  by_cases hl : s.size < 1 + s[0].toNat
  · have e : numR s.data.toList = none := by rw [hc, numR_cons, if_neg (by omega)]
    rw [e]; exact rget_badl s h0' (by omega) hl w
  · have hx : (s.extract 1 (1 + s[0].toNat)).data.toList = (s.data.toList.drop 1).take s[0].toNat := by
      rw [sl_list, List.drop_take]; congr 1; omega
    have hV := valB_lt ((s.data.toList.drop 1).take s[0].toNat)
    have htl : ((s.data.toList.drop 1).take s[0].toNat).length = s[0].toNat := by rw [List.length_take, hdl]; omega
    rw [htl] at hV
    have hVb := Nat.lt_of_lt_of_le hV (pow_le8 _ (by omega))
    have HN := fun w => rnum_any (s.extract 1 (1 + s[0].toNat)) (by simp; omega) w
    rw [hx] at HN
    have hcore := rget_core s hs s[0].toNat (valB ((s.data.toList.drop 1).take s[0].toNat)) (1 + s[0].toNat) h0' rfl (by omega) rfl (by omega) _ HN _ (fun w => rput_any _ hVb w) rfl w
    refine hcore.mono fun e w' ⟨he, hb⟩ => ⟨he.trans ?_, hb⟩
    congr 1
    have ht : (s.extract 0 (1 + s[0].toNat)).toList = s[0] :: (s.data.toList.drop 1).take s[0].toNat := by
      rw [toL, sl_list, List.drop_zero]
      conv => lhs; rw [hc]
      rw [Nat.add_comm, List.take_succ_cons]
    rw [ht, toL]
    by_cases hq : numB (valB ((s.data.toList.drop 1).take s[0].toNat)) = s[0] :: (s.data.toList.drop 1).take s[0].toNat
    · rw [if_pos (by simpa using hq)]
      have hl2 : s.data.toList = numB (valB ((s.data.toList.drop 1).take s[0].toNat)) ++ (s.data.toList.drop 1).drop s[0].toNat := by
        rw [hq, List.cons_append, List.take_append_drop]; exact hc
      conv => rhs; rw [hl2, numR_put _ hVb]
      simp only [getT]
      have : ((s.data.toList.drop 1).drop s[0].toNat).length = s.size - 1 - s[0].toNat := by rw [List.length_drop, hdl]
      rw [this]
      have e : ((1 + s[0].toNat : Nat) : Int) = (s.size : Int) - ((s.size - 1 - s[0].toNat : Nat) : Int) := by omega
      rw [e]
    · rw [if_neg (by simpa using hq)]
      cases hn : numR s.data.toList with
      | none => rfl
      | some q =>
        obtain ⟨n, r⟩ := q
        exfalso
        apply hq
        obtain ⟨hnb, hl2⟩ := numR_back hn
        rw [hc] at hl2
        have h9 : numB n = UInt8.ofNat (cntB n) :: dig (cntB n) n := rfl
        rw [h9, List.cons_append] at hl2
        injection hl2 with hh1 hh2
        have hcn := cnt_le n hnb
        have hC : s[0].toNat = cntB n := by rw [hh1]; simp; omega
        have htk : (s.data.toList.drop 1).take s[0].toNat = dig (cntB n) n := by
          rw [hC, hh2]
          conv => lhs; arg 1; rw [← dig_len (cntB n) n]
          exact List.take_left
        rw [htk, valB_dig _ _ (cnt_spec _ n hnb rfl).1, h9, ← hh1]
theorem rtext_ok2 (s : ByteArray) (hs : s.size ≤ 1000) (n K e : Nat) (G : ∀ w, Calls Try.prog 20 #[.string s] w fun e w' => e = .returned (.tuple #[.int .u64 (n : Nat), .int .i64 (K : Nat), .bool true]) ∧ Below w.heap.size w w') (hK : K ≤ s.size) (hn : n ≤ s.size - K) (he : e = K + n) (w : World) :
    Calls Try.prog 22 #[.string s] w fun e' w' => e' = .returned (.tuple #[.string (s.extract K e), .int .i64 (e : Nat), .bool true]) ∧ Below w.heap.size w w' := by
  have i1 : decide (((s.size - K : Nat) : Int) < (n : Int)) = false := by simp; omega
  have i2 : (s.size : Int) - (K : Int) = ((s.size - K : Nat) : Int) := by omega
  have i3 : (K : Int) + (n : Int) = (e : Int) := by omega
  have i4 : (K : Int) ≤ (e : Int) := by omega
  have i5 : (e : Int) ≤ (s.size : Int) := by omega
  clear he
  go_enter Try.func22, Try.ntmps22
  go_wp2_with fail
  refine (G _).mono ?_; rintro e w1 ⟨rfl, hb⟩
  go_wp2_with fail
  go_ret3
  exact ⟨rfl, hb⟩
theorem rtext_big (s : ByteArray) (hs : s.size ≤ 1000) (n K : Nat) (G : ∀ w, Calls Try.prog 20 #[.string s] w fun e w' => e = .returned (.tuple #[.int .u64 (n : Nat), .int .i64 (K : Nat), .bool true]) ∧ Below w.heap.size w w') (hK : K ≤ s.size) (hn : s.size - K < n) (w : World) :
    Calls Try.prog 22 #[.string s] w fun e' w' => e' = .returned (.tuple #[.string ⟨#[]⟩, .int .i64 0, .bool false]) ∧ Below w.heap.size w w' := by
  have i1 : decide (((s.size - K : Nat) : Int) < (n : Int)) = true := by simp; omega
  have i2 : (s.size : Int) - (K : Int) = ((s.size - K : Nat) : Int) := by omega
  go_enter Try.func22, Try.ntmps22
  go_wp2_with fail
  refine (G _).mono ?_; rintro e w1 ⟨rfl, hb⟩
  go_wp2_with fail
  go_ret3
  exact ⟨rfl, hb⟩
theorem rtext_none (s : ByteArray) (G : ∀ w, Calls Try.prog 20 #[.string s] w fun e w' => e = .returned (.tuple #[.int .u64 0, .int .i64 0, .bool false]) ∧ Below w.heap.size w w') (w : World) :
    Calls Try.prog 22 #[.string s] w fun e' w' => e' = .returned (.tuple #[.string ⟨#[]⟩, .int .i64 0, .bool false]) ∧ Below w.heap.size w w' := by
  go_enter Try.func22, Try.ntmps22
  go_wp2_with fail
  refine (G _).mono ?_; rintro e w1 ⟨rfl, hb⟩
  go_wp2_with fail
  go_ret3
  exact ⟨rfl, hb⟩
theorem rtextR_any (s : ByteArray) (hs : s.size ≤ 1000) (w : World) : Calls Try.prog 22 #[.string s] w fun e w' => e = .returned (textT (textR s.data.toList) s.size) ∧ Below w.heap.size w w' := by
  have hlen : s.data.toList.length = s.size := by simp
  have G := rget_any s hs
  cases hn : numR s.data.toList with
  | none =>
    rw [hn] at G
    have e : textR s.data.toList = none := by unfold textR; rw [hn]
    rw [e]; exact rtext_none s G w
  | some q =>
    obtain ⟨n, r⟩ := q
    obtain ⟨hnb, hl⟩ := numR_back hn
    have hr : s.size = (numB n).length + r.length := by rw [← hlen, hl, List.length_append]
    rw [hn] at G
    simp only [getT] at G
    have e1 : (s.size : Int) - (r.length : Int) = (((numB n).length : Nat) : Int) := by omega
    rw [e1] at G
    by_cases hle : n ≤ r.length
    · have e : textR s.data.toList = some (r.take n, r.drop n) := by unfold textR; rw [hn]; simp only [if_pos hle]
      rw [e]
      simp only [textT]
      refine (rtext_ok2 s hs n _ ((numB n).length + n) G (by omega) (by omega) rfl w).mono fun e' w' ⟨he, hb⟩ => ⟨he.trans ?_, hb⟩
      have hx : (s.extract (numB n).length ((numB n).length + n)).data.toList = r.take n := by
        rw [sl_list, hl, List.take_length_add_append, List.drop_left]
      have hy : s.extract (numB n).length ((numB n).length + n) = ⟨(r.take n).toArray⟩ := by
        rw [← hx, bytes_eta]
      have hz : (((numB n).length + n : Nat) : Int) = (s.size : Int) - ((r.drop n).length : Int) := by rw [List.length_drop]; omega
      rw [hy, hz]
    · have e : textR s.data.toList = none := by unfold textR; rw [hn]; simp only [if_neg hle]
      rw [e]; exact rtext_big s hs n _ G (by omega) (by omega) w
/-- the reference's float of a key -/
def rfl64 (K : Nat) : Nat := if K = 18446744073709551615 then 9221120237041090561 else if 9223372036854775808 ≤ K then K - 9223372036854775808 else 18446744073709551615 - K
theorem rfloat_a (k : Int) (q : (k == 18446744073709551615) = true) (w : World) : Calls Try.prog 43 #[.int .u64 k] w fun e w' => e = .returned (.float .f64 9221120237041090561) ∧ w = w' := by
  have h2 := run_frombits
  go_enter Try.func43, Try.ntmps43
  go_wp2_with fail
  go_ret
  exact ⟨rfl, rfl⟩
theorem rfloat_b (k : Int) (F : Nat) (q : (k == 18446744073709551615) = false) (q2 : ((k / 9223372036854775808 == 1) : Bool) = true) (q3 : IntKind.u64.wrap (k - 9223372036854775808) = (F : Int)) (w : World) : Calls Try.prog 43 #[.int .u64 k] w fun e w' => e = .returned (.float .f64 F) ∧ w = w' := by
  have h2 := run_frombits
  go_enter Try.func43, Try.ntmps43
  go_wp2_with fail
  go_ret
  exact ⟨rfl, rfl⟩
theorem rfloat_c (k : Int) (F : Nat) (q : (k == 18446744073709551615) = false) (q2 : ((k / 9223372036854775808 == 1) : Bool) = false) (q3 : IntKind.u64.wrap (18446744073709551615 - k) = (F : Int)) (w : World) : Calls Try.prog 43 #[.int .u64 k] w fun e w' => e = .returned (.float .f64 F) ∧ w = w' := by
  have h2 := run_frombits
  go_enter Try.func43, Try.ntmps43
  go_wp2_with fail
  go_ret
  exact ⟨rfl, rfl⟩
theorem rfloat_any (K : Nat) (hK : K < 18446744073709551616) (w : World) : Calls Try.prog 43 #[.int .u64 (K : Int)] w fun e w' => e = .returned (.float .f64 (rfl64 K)) ∧ w = w' := by
  unfold rfl64
  by_cases h1 : K = 18446744073709551615
  · rw [if_pos h1]
    exact rfloat_a _ (by simp; omega) w
  · rw [if_neg h1]
    have q : ((K : Int) == 18446744073709551615) = false := by simp only [beq_eq_false_iff_ne, ne_eq]; omega
    by_cases hs : 9223372036854775808 ≤ K
    · rw [if_pos hs]
      exact rfloat_b _ _ q (by simp only [beq_iff_eq]; omega) (by rw [IntKind.wrap_u64]; omega) w
    · rw [if_neg hs]
      exact rfloat_c _ _ q (by simp only [beq_eq_false_iff_ne, ne_eq]; omega) (by rw [IntKind.wrap_u64]; omega) w
theorem rfl64_lt (K : Nat) (hK : K < 18446744073709551616) : rfl64 K < 18446744073709551616 := by unfold rfl64; (repeat' split) <;> omega
/-- a key is a float's just if the reference's float is canonical and has that key -/
theorem ofk_ref (K : Nat) (hK : K < 18446744073709551616) : ofk K = if Flt.canon (rfl64 K) = rfl64 K ∧ Flt.kbits (rfl64 K) = K then some (rfl64 K) else none := by
  have hc := canon_canon
  by_cases h1 : K = 18446744073709551615
  · subst h1; decide
  unfold ofk okb rfl64
  rw [if_neg h1]
  generalize hb : (if 9223372036854775808 ≤ K then K - 9223372036854775808 else 18446744073709551615 - K) = b
  by_cases hn : Flt.isNan b = true
  · have e : Flt.canon b = 9221120237041090561 := by unfold Flt.canon; rw [if_pos hn]
    have hk1 : Flt.kbits 9221120237041090561 = 18446744073709551615 := by decide
    rw [e, hk1, if_neg (by omega), if_neg (by rw [Flt.kbits_nan hn]; omega)]
  · have e : Flt.canon b = b := by unfold Flt.canon; rw [if_neg hn]
    rw [e]
    by_cases hk : Flt.kbits b = K
    · rw [if_pos hk, if_pos ⟨rfl, hk⟩]
    · rw [if_neg hk, if_neg (fun h => hk h.2)]
end Go.Proofs.Ytcbogapnhabhkaa
