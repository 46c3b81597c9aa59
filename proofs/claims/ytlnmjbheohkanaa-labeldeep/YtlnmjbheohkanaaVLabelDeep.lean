/- The walk of the law LabelDeep. -/
import Derived.Test.YtlnmjbheohkanaaKU
namespace Go.Proofs.Ytlnmjbheohkanaa.LabelDeep
open Go Go.RowKit
set_option linter.unusedVariables false
def notN : Nat → Ex
  | 0 => nmE sA
  | n + 1 => notE (notN n)
theorem deep_N : ∀ n, deep (notN n) = n + 1
  | 0 => by rw [notN, deep, deepL]
  | n + 1 => by rw [notN, deep_not, deep_N n]; omega
theorem termK_N : ∀ n, termK (notN n) = true
  | 0 => termK_nm sA word_A
  | n + 1 => termK_not _ (termK_N n)
theorem kind_N (n : Nat) : ∃ k nm v kids, notN n = .node k nm v kids ∧ ¬ k = 0 := by
  cases n with
  | zero => exact ⟨_, _, _, _, rfl, by decide⟩
  | succ n => exact ⟨_, _, _, _, rfl, by decide⟩
theorem right_N (n : Nat) : rightL (notN n) = decide (n < 50) := by
  obtain ⟨k, nm, v, kids, e, hk⟩ := kind_N n
  have h : rightL (notN n) = termE 50 (notN n) := by rw [e]; exact right_nz _ _ _ _ hk
  rw [h]
  unfold termE
  rw [termK_N, deep_N, Bool.and_true, Bool.eq_iff_iff]
  simp only [decide_eq_true_eq]
  omega
theorem holds_N (l : List ByteArray) : ∀ n, holdsL l (notN n) = (inB l sA == decide (n % 2 = 0))
  | 0 => by rw [notN, holds_nm]; simp
  | n + 1 => by
    rw [notN, holds_not, holds_N l n]
    rcases Nat.mod_two_eq_zero_or_one n with h | h
    · have h2 : (n + 1) % 2 = 1 := by omega
      rw [h, h2]; cases inB l sA <;> decide
    · have h2 : (n + 1) % 2 = 0 := by omega
      rw [h, h2]; cases inB l sA <;> decide
theorem has_N (l : List ByteArray) (n : Nat) : hasL l (notN n) = (decide (n < 50) && (inB l sA == decide (n % 2 = 0))) := by
  unfold hasL
  rw [right_N, holds_N]
theorem namesT_N : ∀ n, namesT (notN n) = [sA]
  | 0 => by rw [notN, namesT_node, if_pos rfl, namesTL_nil]; rfl
  | n + 1 => by rw [notN, namesT_node, if_neg (by decide), namesTL_cons, namesTL_nil, namesT_N n]; rfl
theorem names_N (n : Nat) : (namesL (notN n)).length = if n < 50 then 1 else 0 := by
  by_cases h : n < 50
  · rw [if_pos h, namesL_ok (by rw [right_N]; simpa using h), namesT_N]
    have := addB_len [] [sA]
    have h2 : sA ∈ addB [] [sA] := by rw [addB_mem]; simp
    have h3 : 0 < (addB [] [sA]).length := List.length_pos_of_mem h2
    simp at this; omega
  · rw [if_neg h, namesL_bad (by rw [right_N]; simpa using h)]; rfl
theorem and_mask (a : Int) : ∃ A : Nat, bits BinOp.and IntKind.i64 a 65535 = (A : Int) ∧ A < 65536 := by
  have nm : ∀ n : Nat, n &&& 65535 = n % 65536 := fun n => Nat.and_two_pow_sub_one_eq_mod n 16
  refine ⟨(BitVec.ofInt 64 a).toNat % 65536, ?_, Nat.mod_lt _ (by decide)⟩
  show IntKind.i64.wrap ((BitVec.ofInt 64 a &&& BitVec.ofInt 64 65535).toNat : Int) = _
  have e : (BitVec.ofInt 64 65535).toNat = 65535 := by decide
  rw [BitVec.toNat_and, e, nm, IntKind.wrap_i64]
  have := Nat.mod_lt (BitVec.ofInt 64 a).toNat (show 0 < 65536 by decide)
  omega
set_option maxHeartbeats 8000000 in
set_option maxRecDepth 100000 in
theorem walk (a : Int) (has : Bool) (ha1 : -9223372036854775808 ≤ a) (ha2 : a ≤ 9223372036854775807) (w : World) :
    Calls Try.prog 7 #[.int .i64 a, .bool has] w fun e w' => e = .returned (.bool true) ∧ Below w.heap.size w w' := by
  have hsf := run_store_float
  obtain ⟨A, hA, hA2⟩ := and_mask a
  obtain ⟨N, hN⟩ : ∃ N : Nat, N = A % 61 := ⟨_, rfl⟩
  have hT : Int.tmod (A : Int) 61 = (N : Int) := by rw [hN]; rfl
  have hN61 : N < 61 := by rw [hN]; exact Nat.mod_lt _ (by decide)
  have hT2 : Int.tmod (N : Int) 2 = ((N % 2 : Nat) : Int) := rfl
  have B0 := Lib.hid (Below.refl w.heap.size w)
  clear hN hA2 ha1 ha2
  go_enter Try.func7, Try.ntmps7
  go_wp2_with fail
  (with_reducible refine (shown6_any w).mono ?_); rintro e w1 ⟨rfl, b1⟩
  have B1 := Lib.hid (Below.chain B0.out b1)
  clear b1
  go_wp2_with fail
  (with_reducible refine (xname_any sA w1).mono ?_); rintro e w2 ⟨x0, rfl, t0, b2⟩
  have B2 := Lib.hid (Below.chain B1.out b2)
  have T0 := Lib.hid ((TxS.of_leaf (S := fun b => w2.heap.size < b) t0).keep (below_a1 w2 (.cells (xcs x0) 28)))
  have V0 := Lib.hid (Vr.new w2 28 (xcs x0))
  have BA := Lib.hid (Below.chain B2.out (below_a1 w2 (.cells (xcs x0) 28)))
  have HW := Lib.hid B2.out.size
  clear t0 b2
  go_wp2_with fail
  go_loopg [7] N (fun gk s7 wr => ∃ (i : Nat) (z : Xc), gk + i = N ∧ s7 = .int .i64 i ∧ Vr wr w2.heap.size 28 (xcs z) ∧ TxS (fun b => w2.heap.size < b) wr (notN i) z ∧ Below w.heap.size w wr)
  case atStart => exact ⟨0, x0, rfl, rfl, V0.out, T0.out, BA.out⟩
  case round =>
    obtain ⟨i, z, hg, rfl, hV, hTz, hb⟩ := hrel
    by_cases hlt : i < N
    · have ii : (i : Int) < (N : Int) := by omega
      have ⟨y0, y1, y2, y3, y4, y5, y6⟩ := hV.cells7
      have C := Lib.hid (not6S_any (fun b => w2.heap.size < b) (notN i) z wr hTz (fun b h => Nat.lt_of_lt_of_le hV.lt h))
      have HV := Lib.hid hV
      have HB := Lib.hid hb
      clear hV hTz hb
      go_wp2_with fail
      (with_reducible refine C.out.mono ?_); rintro e w4 ⟨z', rfl, hT4, b4⟩
      have V4 := HV.out.keep b4
      have F4 := V4.thaw
      have V5 := Lib.hid (V4.set (xcs z'))
      have T5 := Lib.hid (show TxS (fun b => w2.heap.size < b) (w4.setRow w2.heap.size (xcs z')) (notN (i + 1)) z' from TrS.move hT4 fun b o u hs hc => ⟨hs, by
        have : (w4.setRow w2.heap.size (xcs z')).heap[b]? = w4.heap[b]? := setRow_other w4 w2.heap.size b (xcs z') (by omega)
        simp only [World.cell?, this]
        exact hc⟩)
      have B5 := Lib.hid (below_setRow (Below.chain HB.out b4) HW.out (xcs z'))
      have V4h := Lib.hid V4
      clear V4 F4 hT4 b4 y0 y1 y2 y3 y4 y5 y6
      go_wp2_with (refine wpList_store_x z' rfl _ _ rfl rfl rfl V4h.out rfl ?_)
      go_roundg (N - (i + 1))
      case rel => exact ⟨i + 1, z', by omega, by go_num, V5.out, T5.out, B5.out⟩
      case measure => omega
    · obtain rfl : N = i := by omega
      have ii : ¬ ((N : Int) < (N : Int)) := by omega
      have HV := Lib.hid hV
      have TZ := Lib.hid hTz.tx
      have LZ := Lib.hid (hV.lies7 (x := z) rfl)
      have BB := Lib.hid hb
      clear hV hTz hb
      have BC := Lib.hid (Below.chain BB.out (below_a1 wr (.cells #[.string sB] 9)))
      have OB := Lib.hid (one_new wr sB)
      have RN := Lib.hid (right_N N)
      have NN := Lib.hid (names_N N)
      have NT := Lib.hid (show rightL (notN N) = true → (namesT (notN N)).length ≤ 1000 from fun _ => by rw [namesT_N]; decide)
      have hpar := Nat.mod_two_eq_zero_or_one N
      cases has
      · have D0 := Lib.hid (below_a1 wr (.cells #[.string sB] 9))
        have HL := Lib.hid (has_N [sB] N)
        have HB := Lib.hid (show inB [sB] sA = false by rw [inB_dec]; decide)
        rw [HB.out] at HL
        by_cases hN50 : N < 50
        · have in50 : (N : Int) < 50 := by omega
          rw [decide_eq_true hN50] at RN HL
          rw [if_pos hN50] at NN
          rcases hpar with hp | hp
          all_goals
            rw [hp] at HL hT2
            clear hN50 hp
            have U0 := Lib.hid (Below.refl (wr.alloc (.cells #[.string sB] 9)).heap.size (wr.alloc (.cells #[.string sB] 9)))
            have ⟨y0, y1, y2, y3, y4, y5, y6⟩ := (LZ.out.keep D0.out).at
            have K := Lib.hid (lright_any _ z (wr.alloc (.cells #[.string sB] 9)) (TZ.out.keep D0.out))
            rw [RN.out] at K
            go_wp2_with fail
            (with_reducible refine (K.out).mono ?_); rintro e w11 ⟨rfl, b11⟩
            have B11 := Lib.hid (Below.chain U0.out b11)
            clear b11
            clear K y0 y1 y2 y3 y4 y5 y6
            have ⟨y0, y1, y2, y3, y4, y5, y6⟩ := (LZ.out.keep (Below.chain D0.out B11.out)).at
            have K := Lib.hid (lhas_any _ _ z _ w11 (TZ.out.keep (Below.chain D0.out B11.out)) (Rw.keep OB.out B11.out))
            rw [HL.out] at K
            simp only [Bool.true_and] at K
            go_wp2_with fail
            (with_reducible refine (K.out).mono ?_); rintro e w12 ⟨rfl, b12⟩
            have B12 := Lib.hid (Below.chain B11.out b12)
            clear b12
            clear K y0 y1 y2 y3 y4 y5 y6
            have ⟨y0, y1, y2, y3, y4, y5, y6⟩ := (LZ.out.keep (Below.chain D0.out B12.out)).at
            have K := Lib.hid (lnames_any _ z w12 (TZ.out.keep (Below.chain D0.out B12.out)) NT.out)
            go_wp2_with fail
            (with_reducible refine (K.out).mono ?_); rintro e w13 ⟨u, rfl, ho, b13⟩
            have B13 := Lib.hid (Below.chain B12.out b13)
            obtain ⟨uo, uc, rfl⟩ := Ow.shape ho
            rw [NN.out]
            clear ho b13
            go_wp2_with fail
            go_ret
            exact ⟨rfl, Below.chain BC.out B13.out⟩
        · have in50 : ¬ (N : Int) < 50 := by omega
          rw [decide_eq_false hN50] at RN HL
          rw [if_neg hN50] at NN
          clear hN50 hpar
          have U0 := Lib.hid (Below.refl (wr.alloc (.cells #[.string sB] 9)).heap.size (wr.alloc (.cells #[.string sB] 9)))
          have ⟨y0, y1, y2, y3, y4, y5, y6⟩ := (LZ.out.keep D0.out).at
          have K := Lib.hid (lright_any _ z (wr.alloc (.cells #[.string sB] 9)) (TZ.out.keep D0.out))
          rw [RN.out] at K
          go_wp2_with fail
          (with_reducible refine (K.out).mono ?_); rintro e w11 ⟨rfl, b11⟩
          have B11 := Lib.hid (Below.chain U0.out b11)
          clear b11
          clear K y0 y1 y2 y3 y4 y5 y6
          have ⟨y0, y1, y2, y3, y4, y5, y6⟩ := (LZ.out.keep (Below.chain D0.out B11.out)).at
          have K := Lib.hid (lhas_any _ _ z _ w11 (TZ.out.keep (Below.chain D0.out B11.out)) (Rw.keep OB.out B11.out))
          rw [HL.out] at K
          simp only [Bool.false_and] at K
          go_wp2_with fail
          (with_reducible refine (K.out).mono ?_); rintro e w12 ⟨rfl, b12⟩
          have B12 := Lib.hid (Below.chain B11.out b12)
          clear b12
          clear K y0 y1 y2 y3 y4 y5 y6
          have ⟨y0, y1, y2, y3, y4, y5, y6⟩ := (LZ.out.keep (Below.chain D0.out B12.out)).at
          have K := Lib.hid (lnames_any _ z w12 (TZ.out.keep (Below.chain D0.out B12.out)) NT.out)
          go_wp2_with fail
          (with_reducible refine (K.out).mono ?_); rintro e w13 ⟨u, rfl, ho, b13⟩
          have B13 := Lib.hid (Below.chain B12.out b13)
          obtain ⟨uo, uc, rfl⟩ := Ow.shape ho
          rw [NN.out]
          clear ho b13
          go_wp2_with fail
          go_ret
          exact ⟨rfl, Below.chain BC.out B13.out⟩
      · have OL := Lib.hid (show OwS ((wr.alloc (.cells #[.string sB] 9)).alloc (.cells #[.string sA] 9)) wr.heap.size (.slice (some ⟨wr.heap.size, 0, none⟩) 1 1) [sB] from Ow.below (Ow.lit (E := encS) (e := 9) wr wr.heap.size [sB] (Nat.le_refl _) (by simp) #[.string sB] rfl) (below_a1 _ _))
        have R1 := one_new (wr.alloc (.cells #[.string sB] 9)) sA
        rw [show (wr.alloc (.cells #[.string sB] 9)).heap.size = wr.heap.size + 1 by simp] at R1
        have R1h := Lib.hid R1
        have A2 := Lib.hid (below_a2 wr (.cells #[.string sB] 9) (.cells #[.string sA] 9))
        have HL := Lib.hid (has_N ([sB] ++ [sA]) N)
        have HB := Lib.hid (show inB ([sB] ++ [sA]) sA = true by rw [inB_dec]; decide)
        rw [HB.out] at HL
        clear R1
        go_upto_region 11 with (at_builtin; refine wpList_append_rw (E := encS) rfl _ _ _ rfl Try.underlying22 info_str rfl (by decide) (by decide) rfl rfl OL.out R1h.out (by decide) A2.out.size ?_; intro v9 w9 o9 g9 at9)
        have D0 := Lib.hid (A2.out.grown g9 A2.out.size OL.out.row)
        have OB2 := Lib.hid o9.rw
        have BD := Lib.hid (Below.chain BB.out D0.out)
        clear o9 g9 at9
        by_cases hN50 : N < 50
        · have in50 : (N : Int) < 50 := by omega
          rw [decide_eq_true hN50] at RN HL
          rw [if_pos hN50] at NN
          rcases hpar with hp | hp
          all_goals
            rw [hp] at HL hT2
            clear hN50 hp
            have U0 := Lib.hid (Below.refl (w9).heap.size (w9))
            have ⟨y0, y1, y2, y3, y4, y5, y6⟩ := (LZ.out.keep D0.out).at
            have K := Lib.hid (lright_any _ z (w9) (TZ.out.keep D0.out))
            rw [RN.out] at K
            go_wp2_with fail
            (with_reducible refine (K.out).mono ?_); rintro e w11 ⟨rfl, b11⟩
            have B11 := Lib.hid (Below.chain U0.out b11)
            clear b11
            clear K y0 y1 y2 y3 y4 y5 y6
            have ⟨y0, y1, y2, y3, y4, y5, y6⟩ := (LZ.out.keep (Below.chain D0.out B11.out)).at
            have K := Lib.hid (lhas_any _ _ z _ w11 (TZ.out.keep (Below.chain D0.out B11.out)) (Rw.keep OB2.out B11.out))
            rw [HL.out] at K
            simp only [Bool.true_and] at K
            go_wp2_with fail
            (with_reducible refine (K.out).mono ?_); rintro e w12 ⟨rfl, b12⟩
            have B12 := Lib.hid (Below.chain B11.out b12)
            clear b12
            clear K y0 y1 y2 y3 y4 y5 y6
            have ⟨y0, y1, y2, y3, y4, y5, y6⟩ := (LZ.out.keep (Below.chain D0.out B12.out)).at
            have K := Lib.hid (lnames_any _ z w12 (TZ.out.keep (Below.chain D0.out B12.out)) NT.out)
            go_wp2_with fail
            (with_reducible refine (K.out).mono ?_); rintro e w13 ⟨u, rfl, ho, b13⟩
            have B13 := Lib.hid (Below.chain B12.out b13)
            obtain ⟨uo, uc, rfl⟩ := Ow.shape ho
            rw [NN.out]
            clear ho b13
            go_wp2_with fail
            go_ret
            exact ⟨rfl, Below.chain BD.out B13.out⟩
        · have in50 : ¬ (N : Int) < 50 := by omega
          rw [decide_eq_false hN50] at RN HL
          rw [if_neg hN50] at NN
          clear hN50 hpar
          have U0 := Lib.hid (Below.refl (w9).heap.size (w9))
          have ⟨y0, y1, y2, y3, y4, y5, y6⟩ := (LZ.out.keep D0.out).at
          have K := Lib.hid (lright_any _ z (w9) (TZ.out.keep D0.out))
          rw [RN.out] at K
          go_wp2_with fail
          (with_reducible refine (K.out).mono ?_); rintro e w11 ⟨rfl, b11⟩
          have B11 := Lib.hid (Below.chain U0.out b11)
          clear b11
          clear K y0 y1 y2 y3 y4 y5 y6
          have ⟨y0, y1, y2, y3, y4, y5, y6⟩ := (LZ.out.keep (Below.chain D0.out B11.out)).at
          have K := Lib.hid (lhas_any _ _ z _ w11 (TZ.out.keep (Below.chain D0.out B11.out)) (Rw.keep OB2.out B11.out))
          rw [HL.out] at K
          simp only [Bool.false_and] at K
          go_wp2_with fail
          (with_reducible refine (K.out).mono ?_); rintro e w12 ⟨rfl, b12⟩
          have B12 := Lib.hid (Below.chain B11.out b12)
          clear b12
          clear K y0 y1 y2 y3 y4 y5 y6
          have ⟨y0, y1, y2, y3, y4, y5, y6⟩ := (LZ.out.keep (Below.chain D0.out B12.out)).at
          have K := Lib.hid (lnames_any _ z w12 (TZ.out.keep (Below.chain D0.out B12.out)) NT.out)
          go_wp2_with fail
          (with_reducible refine (K.out).mono ?_); rintro e w13 ⟨u, rfl, ho, b13⟩
          have B13 := Lib.hid (Below.chain B12.out b13)
          obtain ⟨uo, uc, rfl⟩ := Ow.shape ho
          rw [NN.out]
          clear ho b13
          go_wp2_with fail
          go_ret
          exact ⟨rfl, Below.chain BD.out B13.out⟩
end Go.Proofs.Ytlnmjbheohkanaa.LabelDeep
