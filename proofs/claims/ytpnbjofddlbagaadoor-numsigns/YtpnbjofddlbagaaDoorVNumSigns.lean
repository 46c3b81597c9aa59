/- The walk of the law NumSigns. -/
import Derived.Test.YtpnbjofddlbagaaDoorWo
import Derived.Test.YtpnbjofddlbagaaDoorWq
namespace Go.Proofs.YtpnbjofddlbagaaDoor.NumSigns
open Go Go.RowKit
set_option linter.unusedVariables false
theorem of_int (a : Int) (b : Nat) (h : a.toNat = b) (w : World) : Calls Tryd.prog 13 #[.int .u64 a] w fun e w' => e = .returned (.float .f64 b) ∧ w = w' := h ▸ of_any a w
theorem coreN (a y : Nat) (x z : Int) (p : Int) (t : List UInt8) (hy : (z : Int) = bits .xor .u64 x 9223372036854775808) (hn : (FloatKind.f64.format.order a a != some Ordering.eq) = true)
    (OX : ∀ w, Calls Tryd.prog 13 #[.int .u64 x] w fun e w' => e = .returned (.float .f64 a) ∧ w = w') (OY : ∀ w, Calls Tryd.prog 13 #[.int .u64 z] w fun e w' => e = .returned (.float .f64 y) ∧ w = w')
    (KX : ∀ w, Calls Tryd.prog 19 #[.float .f64 a] w fun e w' => e = .returned (.int .u64 p) ∧ w = w') (KY : ∀ w, Calls Tryd.prog 19 #[.float .f64 y] w fun e w' => e = .returned (.int .u64 p) ∧ w = w')
    (TX : ∀ w, Tabs w → Calls Tryd.prog 25 #[.float .f64 a] w fun e w' => e = .returned (.string ⟨t.toArray⟩) ∧ Below w.heap.size w w')
    (TY : ∀ w, Tabs w → Calls Tryd.prog 25 #[.float .f64 y] w fun e w' => e = .returned (.string ⟨t.toArray⟩) ∧ Below w.heap.size w w') (w : World) (hT : Tabs w) :
    Calls Tryd.prog 9 #[.int .u64 x] w fun e w' => e = .returned (.bool true) ∧ Below w.heap.size w w' := by
  have hy' := hy.symm
  clear hy
  go_enter Tryd.func9, Tryd.ntmps9
  go_wp2_with fail
  refine (shown_any _ hT).mono ?_; rintro e w1 ⟨rfl, hb1⟩
  go_wp2_with fail
  refine (OX _).mono ?_; rintro e w' ⟨rfl, rfl⟩
  go_wp2_with fail
  refine (OY _).mono ?_; rintro e w' ⟨rfl, rfl⟩
  go_wp2_with fail
  refine (KX _).mono ?_; rintro e w' ⟨rfl, rfl⟩
  go_wp2_with fail
  refine (KY _).mono ?_; rintro e w' ⟨rfl, rfl⟩
  go_wp2_with fail
  refine (TX _ (hT.below hb1)).mono ?_; rintro e w2 ⟨rfl, hb2⟩
  have c2 := Below.chain hb1 hb2
  go_wp2_with fail
  refine (TY _ (hT.below c2)).mono ?_; rintro e w3 ⟨rfl, hb3⟩
  go_wp2_with fail
  go_ret
  exact ⟨rfl, Below.chain c2 hb3⟩
set_option maxHeartbeats 2000000 in
theorem coreP (a y : Nat) (x z : Int) (p q o : Int) (t u : List UInt8) (ht0 : t.length ≤ 50) (hu : (u == (ByteArray.mk #[45] ++ ByteArray.mk t.toArray).toList) = true) (hy : (z : Int) = bits .xor .u64 x 9223372036854775808) (hn : (FloatKind.f64.format.order a a != some Ordering.eq) = false)
    (hx' : ((x / 9223372036854775808 == 1) : Bool) = false) (h1 : p + q ≤ 18446744073709551615) (h2 : 18446744073709551615 ≤ p + q) (p0 : 0 ≤ p) (q0 : 0 ≤ q) (o1 : -1 ≤ o) (o2 : o ≤ 1)
    (OX : ∀ w, Calls Tryd.prog 13 #[.int .u64 x] w fun e w' => e = .returned (.float .f64 a) ∧ w = w') (OY : ∀ w, Calls Tryd.prog 13 #[.int .u64 z] w fun e w' => e = .returned (.float .f64 y) ∧ w = w')
    (KX : ∀ w, Calls Tryd.prog 19 #[.float .f64 a] w fun e w' => e = .returned (.int .u64 p) ∧ w = w') (KY : ∀ w, Calls Tryd.prog 19 #[.float .f64 y] w fun e w' => e = .returned (.int .u64 q) ∧ w = w')
    (RX : ∀ w, Calls Tryd.prog 17 #[.float .f64 a, .float .f64 y] w fun e w' => e = .returned (.int .i64 (-o)) ∧ w = w') (RY : ∀ w, Calls Tryd.prog 17 #[.float .f64 y, .float .f64 a] w fun e w' => e = .returned (.int .i64 o) ∧ w = w')
    (TX : ∀ w, Tabs w → Calls Tryd.prog 25 #[.float .f64 a] w fun e w' => e = .returned (.string ⟨t.toArray⟩) ∧ Below w.heap.size w w')
    (TY : ∀ w, Tabs w → Calls Tryd.prog 25 #[.float .f64 y] w fun e w' => e = .returned (.string ⟨u.toArray⟩) ∧ Below w.heap.size w w') (w : World) (hT : Tabs w) :
    Calls Tryd.prog 9 #[.int .u64 x] w fun e w' => e = .returned (.bool true) ∧ Below w.heap.size w w' := by
  have hy' := hy.symm
  clear hy
  go_enter Tryd.func9, Tryd.ntmps9
  go_wp2_with fail
  refine (shown_any _ hT).mono ?_; rintro e w1 ⟨rfl, hb1⟩
  go_wp2_with fail
  refine (OX _).mono ?_; rintro e w' ⟨rfl, rfl⟩
  go_wp2_with fail
  refine (OY _).mono ?_; rintro e w' ⟨rfl, rfl⟩
  go_wp2_with fail
  refine (TX _ (hT.below hb1)).mono ?_; rintro e w2 ⟨rfl, hb2⟩
  have c2 := Below.chain hb1 hb2
  go_wp2_with fail
  refine (TY _ (hT.below c2)).mono ?_; rintro e w3 ⟨rfl, hb3⟩
  have c3 := Below.chain c2 hb3
  go_wp2_with fail
  refine (KX _).mono ?_; rintro e w' ⟨rfl, rfl⟩
  go_wp2_with fail
  refine (KY _).mono ?_; rintro e w' ⟨rfl, rfl⟩
  go_wp2_with fail
  refine (RX _).mono ?_; rintro e w' ⟨rfl, rfl⟩
  go_wp2_with fail
  refine (RY _).mono ?_; rintro e w' ⟨rfl, rfl⟩
  go_wp2_with fail
  go_ret
  refine ⟨ret_bool (b := true) ?_, c3⟩
  first | with_reducible rfl | simp
set_option maxHeartbeats 2000000 in
theorem coreM (a y : Nat) (x z : Int) (p q o : Int) (t u : List UInt8) (ht0 : t.length ≤ 50) (hu : (u == (ByteArray.mk #[45] ++ ByteArray.mk t.toArray).toList) = true) (hy : (z : Int) = bits .xor .u64 x 9223372036854775808) (hn : (FloatKind.f64.format.order a a != some Ordering.eq) = false)
    (hx' : ((x / 9223372036854775808 == 1) : Bool) = true) (h1 : p + q ≤ 18446744073709551615) (h2 : 18446744073709551615 ≤ p + q) (p0 : 0 ≤ p) (q0 : 0 ≤ q) (o1 : -1 ≤ o) (o2 : o ≤ 1)
    (OX : ∀ w, Calls Tryd.prog 13 #[.int .u64 x] w fun e w' => e = .returned (.float .f64 a) ∧ w = w') (OY : ∀ w, Calls Tryd.prog 13 #[.int .u64 z] w fun e w' => e = .returned (.float .f64 y) ∧ w = w')
    (KX : ∀ w, Calls Tryd.prog 19 #[.float .f64 a] w fun e w' => e = .returned (.int .u64 p) ∧ w = w') (KY : ∀ w, Calls Tryd.prog 19 #[.float .f64 y] w fun e w' => e = .returned (.int .u64 q) ∧ w = w')
    (RX : ∀ w, Calls Tryd.prog 17 #[.float .f64 a, .float .f64 y] w fun e w' => e = .returned (.int .i64 (-o)) ∧ w = w') (RY : ∀ w, Calls Tryd.prog 17 #[.float .f64 y, .float .f64 a] w fun e w' => e = .returned (.int .i64 o) ∧ w = w')
    (TX : ∀ w, Tabs w → Calls Tryd.prog 25 #[.float .f64 a] w fun e w' => e = .returned (.string ⟨u.toArray⟩) ∧ Below w.heap.size w w')
    (TY : ∀ w, Tabs w → Calls Tryd.prog 25 #[.float .f64 y] w fun e w' => e = .returned (.string ⟨t.toArray⟩) ∧ Below w.heap.size w w') (w : World) (hT : Tabs w) :
    Calls Tryd.prog 9 #[.int .u64 x] w fun e w' => e = .returned (.bool true) ∧ Below w.heap.size w w' := by
  have hy' := hy.symm
  clear hy
  go_enter Tryd.func9, Tryd.ntmps9
  go_wp2_with fail
  refine (shown_any _ hT).mono ?_; rintro e w1 ⟨rfl, hb1⟩
  go_wp2_with fail
  refine (OX _).mono ?_; rintro e w' ⟨rfl, rfl⟩
  go_wp2_with fail
  refine (OY _).mono ?_; rintro e w' ⟨rfl, rfl⟩
  go_wp2_with fail
  refine (TX _ (hT.below hb1)).mono ?_; rintro e w2 ⟨rfl, hb2⟩
  have c2 := Below.chain hb1 hb2
  go_wp2_with fail
  refine (TY _ (hT.below c2)).mono ?_; rintro e w3 ⟨rfl, hb3⟩
  have c3 := Below.chain c2 hb3
  go_wp2_with fail
  refine (KX _).mono ?_; rintro e w' ⟨rfl, rfl⟩
  go_wp2_with fail
  refine (KY _).mono ?_; rintro e w' ⟨rfl, rfl⟩
  go_wp2_with fail
  refine (RX _).mono ?_; rintro e w' ⟨rfl, rfl⟩
  go_wp2_with fail
  refine (RY _).mono ?_; rintro e w' ⟨rfl, rfl⟩
  go_wp2_with fail
  go_ret
  refine ⟨ret_bool (b := true) ?_, c3⟩
  first | with_reducible rfl | simp

theorem xor_neg (a : Nat) (ha : a < 18446744073709551616) : ((Flt.negBits a : Nat) : Int) = bits .xor .u64 (a : Int) 9223372036854775808 := by
  have h := u64_xor_nat a 9223372036854775808 ha (by decide)
  have h2 : a ^^^ 9223372036854775808 = Flt.negBits a := by
    have := Flt.negFloat_eq a ha
    unfold Op.negFloat at this
    exact this
  rw [h2] at h
  exact h.symm
theorem negBits_lt (a : Nat) (ha : a < 18446744073709551616) : Flt.negBits a < 18446744073709551616 := by unfold Flt.negBits; split <;> omega
theorem rung_negBits (a : Nat) (ha : a < 18446744073709551616) : Flt.rung (Flt.negBits a) = Flt.rung a := by unfold Flt.negBits Flt.rung; split <;> omega
theorem nan_negBits (a : Nat) (ha : a < 18446744073709551616) : Flt.isNan (Flt.negBits a) = Flt.isNan a := by unfold Flt.isNan; rw [rung_negBits a ha]
theorem text_minus (a : Nat) (ha : a < 9223372036854775808) (hn : Flt.isNan a = false) : Flt.text (a + 9223372036854775808) = 45 :: Flt.text a := by
  have hnb : Flt.negBits a = a + 9223372036854775808 := by unfold Flt.negBits; rw [if_neg (by omega)]
  have hn2 : Flt.isNan (a + 9223372036854775808) = false := by rw [← hnb, nan_negBits a (by omega), hn]
  have hr2 : Flt.rung (a + 9223372036854775808) = Flt.rung a := by rw [← hnb, rung_negBits a (by omega)]
  unfold Flt.text
  rw [hn, hn2, if_neg (show ¬ (false = true) by decide), if_neg (show ¬ a + 9223372036854775808 = 9218868437227405312 by omega)]
  rw [if_neg (show ¬ (false = true) by decide)]
  by_cases h : a = 9218868437227405312
  · rw [if_pos h, if_pos (by omega)]
  · rw [if_neg h, if_neg (show ¬ a + 9223372036854775808 = 18442240474082181120 by omega), if_neg (show ¬ a = 18442240474082181120 by omega), hr2, show Flt.neg (a + 9223372036854775808) = true from by unfold Flt.neg; simp, show Flt.neg a = false from by unfold Flt.neg; simp; omega]
    rfl
theorem dash_eq {t u : List UInt8} (h : u = 45 :: t) : (u == (ByteArray.mk #[45] ++ ByteArray.mk t.toArray).toList) = true := by
  rw [Lib.toList_data, show (ByteArray.mk #[45] ++ ByteArray.mk t.toArray) = ByteArray.mk (45 :: t).toArray from ByteArray.mk_append_mk [45] t, h]
  simp
theorem cmp3_neg (x y : Int) : Flt.cmp3 x y = - Flt.cmp3 y x ∧ -1 ≤ Flt.cmp3 y x ∧ Flt.cmp3 y x ≤ 1 := by
  unfold Flt.cmp3
  (repeat' split) <;> omega
theorem walk (a : Nat) (ha : a < 18446744073709551616) (w : World) (hT : Tabs w) :
    Calls Tryd.prog 9 #[.int .u64 (a : Int)] w fun e w' => e = .returned (.bool true) ∧ Below w.heap.size w w' := by
  have hl := negBits_lt a ha
  have OX := of_int (a : Int) a (by simp)
  have OY := of_int ((Flt.negBits a : Nat) : Int) (Flt.negBits a) (by simp)
  have ho := Flt.ord_self ha
  have hc := cmp3_neg (Flt.kbits a : Nat) (Flt.kbits (Flt.negBits a) : Nat)
  have RX := order_any a (Flt.negBits a) ha hl
  rw [hc.1] at RX
  have RY := order_any (Flt.negBits a) a hl ha
  cases hn : Flt.isNan a
  · rw [hn] at ho
    have hn2 := nan_negBits a ha
    rw [hn] at hn2
    by_cases hs : a < 9223372036854775808
    · have e1 : Flt.negBits a = a + 9223372036854775808 := by unfold Flt.negBits; rw [if_neg (by omega)]
      have k1 := Flt.kbits_pos hn hs
      have k2 := Flt.kbits_neg hn2 (by omega)
      have ht := text_minus a hs hn
      exact coreP a (Flt.negBits a) _ _ _ _ _ (Flt.text a) (Flt.text (Flt.negBits a)) (text_len a ha) (dash_eq (by rw [e1]; exact ht)) (xor_neg a ha) ho (by rw [beq_eq_false_iff_ne]; omega) (by omega) (by omega) (by omega) (by omega) hc.2.1 hc.2.2 OX OY (key_any a ha) (key_any _ hl) RX RY (fun w hT => text_any a ha w hT) (fun w hT => text_any _ hl w hT) w hT
    · have e1 : Flt.negBits a = a - 9223372036854775808 := by unfold Flt.negBits; rw [if_pos (by omega)]
      have k1 := Flt.kbits_neg hn (by omega)
      have k2 := Flt.kbits_pos hn2 (by omega)
      have ht := text_minus (Flt.negBits a) (by omega) hn2
      rw [show Flt.negBits a + 9223372036854775808 = a from by omega] at ht
      exact coreM a (Flt.negBits a) _ _ _ _ _ (Flt.text (Flt.negBits a)) (Flt.text a) (text_len _ hl) (dash_eq ht) (xor_neg a ha) ho (by rw [beq_iff_eq]; omega) (by omega) (by omega) (by omega) (by omega) hc.2.1 hc.2.2 OX OY (key_any a ha) (key_any _ hl) RX RY (fun w hT => text_any a ha w hT) (fun w hT => text_any _ hl w hT) w hT
  · rw [hn] at ho
    have hn2 := nan_negBits a ha
    rw [hn] at hn2
    have TX := fun w hT => text_any a ha w hT
    have TY := fun w hT => text_any (Flt.negBits a) hl w hT
    rw [show Flt.text a = [110, 97, 110] from by unfold Flt.text; rw [if_pos hn]] at TX
    rw [show Flt.text (Flt.negBits a) = [110, 97, 110] from by unfold Flt.text; rw [if_pos hn2]] at TY
    have KX := key_any a ha
    have KY := key_any (Flt.negBits a) hl
    rw [Flt.kbits_nan hn] at KX
    rw [Flt.kbits_nan hn2] at KY
    exact coreN a (Flt.negBits a) _ _ _ [110, 97, 110] (xor_neg a ha) ho OX OY KX KY TX TY w hT
end Go.Proofs.YtpnbjofddlbagaaDoor.NumSigns
