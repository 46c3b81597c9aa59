import Derived.Test.YtainigcchlgehaaGreatDoorBM
import Derived.Test.YtainigcchlgehaaGreatDoorB5
import Derived.Test.YtainigcchlgehaaGreatDoorA4
import Derived.Lib.SmallJoins
namespace Go.Proofs.YtainigcchlgehaaGreatDoor
open Go Go.RowKit
set_option linter.unusedVariables false
theorem rsign_any (n : Int) (b : Bool) (hb : decide (n < 0) = b) (w : World) : Calls Tryz.prog 24 #[.int .i64 n] w fun e w' => e = .returned (.string (if b = true then ⟨#[45]⟩ else ⟨#[]⟩)) ∧ w = w' := by
  cases b
  all_goals
    go_enter Tryz.func24, Tryz.ntmps24
    go_wp2_with fail
    go_ret
    exact ⟨rfl, rfl⟩
theorem rtv_bad (k n : Int) (f : Nat) (s : ByteArray) (R : ∀ w, Calls Tryz.prog 22 #[.agg #[.int .i64 k, .int .i64 n, .float .f64 f, .string s]] w fun e w' => e = .returned (.bool false) ∧ Below w.heap.size w w') (w : World) :
    Calls Tryz.prog 14 #[.agg #[.int .i64 k, .int .i64 n, .float .f64 f, .string s]] w fun e w' => e = .returned (.tuple #[.string ⟨#[]⟩, .int .i64 1]) ∧ Below w.heap.size w w' := by
  go_enter Tryz.func14, Tryz.ntmps14
  go_wp2_with fail
  refine (R _).mono ?_; rintro e w1 ⟨rfl, hb1⟩
  go_wp2_with fail
  go_ret2
  exact ⟨rfl, Below.chain (below_a1 _ _) hb1⟩
theorem rtv0 (n : Int) (f : Nat) (s : ByteArray) (R : ∀ w, Calls Tryz.prog 22 #[.agg #[.int .i64 0, .int .i64 n, .float .f64 f, .string s]] w fun e w' => e = .returned (.bool true) ∧ Below w.heap.size w w') (w : World) :
    Calls Tryz.prog 14 #[.agg #[.int .i64 0, .int .i64 n, .float .f64 f, .string s]] w fun e w' => e = .returned (.tuple #[.string ⟨#[110, 117, 108, 108]⟩, .int .i64 0]) ∧ Below w.heap.size w w' := by
  have L0 := Lib.hid (lies_new w (.int .i64 0) (.int .i64 n) (.float .f64 f) (.string s) 41)
  go_enter Tryz.func14, Tryz.ntmps14
  go_wp2_with fail
  refine (R _).mono ?_; rintro e w1 ⟨rfl, hb1⟩
  have ⟨_, _, _, _⟩ := L0.out.below hb1
  go_wp2_with fail
  go_ret2
  exact ⟨rfl, Below.chain (below_a1 _ _) hb1⟩
theorem rtv1 (n : Int) (f : Nat) (s : ByteArray) (b : Bool) (hb : (n == 1) = b) (R : ∀ w, Calls Tryz.prog 22 #[.agg #[.int .i64 1, .int .i64 n, .float .f64 f, .string s]] w fun e w' => e = .returned (.bool true) ∧ Below w.heap.size w w') (w : World) :
    Calls Tryz.prog 14 #[.agg #[.int .i64 1, .int .i64 n, .float .f64 f, .string s]] w fun e w' => e = .returned (.tuple #[.string (if b = true then ⟨#[116, 114, 117, 101]⟩ else ⟨#[102, 97, 108, 115, 101]⟩), .int .i64 0]) ∧ Below w.heap.size w w' := by
  have L0 := Lib.hid (lies_new w (.int .i64 1) (.int .i64 n) (.float .f64 f) (.string s) 41)
  cases b
  all_goals
    go_enter Tryz.func14, Tryz.ntmps14
    go_wp2_with fail
    refine (R _).mono ?_; rintro e w1 ⟨rfl, hb1⟩
    have ⟨_, _, _, _⟩ := L0.out.below hb1
    go_wp2_with fail
    go_ret2
    exact ⟨rfl, Below.chain (below_a1 _ _) hb1⟩
theorem rtv3 (n : Int) (f : Nat) (hf : f < 18446744073709551616) (s : ByteArray) (R : ∀ w, Calls Tryz.prog 22 #[.agg #[.int .i64 3, .int .i64 n, .float .f64 f, .string s]] w fun e w' => e = .returned (.bool true) ∧ Below w.heap.size w w') (w : World) :
    Calls Tryz.prog 14 #[.agg #[.int .i64 3, .int .i64 n, .float .f64 f, .string s]] w fun e w' => e = .returned (.tuple #[.string ⟨(Flt.text f).toArray⟩, .int .i64 0]) ∧ Below w.heap.size w w' := by
  have L0 := Lib.hid (lies_new w (.int .i64 3) (.int .i64 n) (.float .f64 f) (.string s) 41)
  have T := Lib.hid (rtext_any f hf)
  go_enter Tryz.func14, Tryz.ntmps14
  go_wp2_with fail
  refine (R _).mono ?_; rintro e w1 ⟨rfl, hb1⟩
  have ⟨_, _, _, _⟩ := L0.out.below hb1
  go_wp2_with fail
  refine (T.out _).mono ?_; rintro e w2 ⟨rfl, hb2⟩
  go_wp2_with fail
  go_ret2
  exact ⟨rfl, Below.chain (Below.chain (below_a1 _ _) hb1) hb2⟩
/-- one digit below nought -/
theorem rtv2s (n : Int) (f : Nat) (s : ByteArray) (D : List UInt8) (hD : D.length ≤ 30) (h1 : decide (n < 0) = true) (h2 : decide (-10 < n) = true) (I : ∀ w, Calls Tryz.prog 23 #[.int .i64 n] w fun e w' => e = .returned (.string ⟨D.toArray⟩) ∧ Below w.heap.size w w')
    (R : ∀ w, Calls Tryz.prog 22 #[.agg #[.int .i64 2, .int .i64 n, .float .f64 f, .string s]] w fun e w' => e = .returned (.bool true) ∧ Below w.heap.size w w') (w : World) :
    Calls Tryz.prog 14 #[.agg #[.int .i64 2, .int .i64 n, .float .f64 f, .string s]] w fun e w' => e = .returned (.tuple #[.string ⟨([45] ++ D).toArray⟩, .int .i64 0]) ∧ Below w.heap.size w w' := by
  have L0 := Lib.hid (lies_new w (.int .i64 2) (.int .i64 n) (.float .f64 f) (.string s) 41)
  have HS := Lib.hid (ByteArray.mk_append_mk [45] D)
  go_enter Tryz.func14, Tryz.ntmps14
  go_wp2_with fail
  refine (R _).mono ?_; rintro e w1 ⟨rfl, hb1⟩
  have ⟨_, _, _, _⟩ := L0.out.below hb1
  go_wp2_with fail
  refine (I _).mono ?_; rintro e w2 ⟨rfl, hb2⟩
  go_wp2_with fail
  go_ret2
  exact ⟨ret_tup2 (congrArg Value.string HS.out) rfl, Below.chain (Below.chain (below_a1 _ _) hb1) hb2⟩
theorem rtv2 (n : Int) (f : Nat) (s : ByteArray) (D : List UInt8) (hD : D.length ≤ 30) (b c : Bool) (h1 : decide (n < 0) = b) (h2 : decide (-10 < n) = c) (hbc : b = false ∨ c = false) (I : ∀ w, Calls Tryz.prog 23 #[.int .i64 n] w fun e w' => e = .returned (.string ⟨D.toArray⟩) ∧ Below w.heap.size w w')
    (R : ∀ w, Calls Tryz.prog 22 #[.agg #[.int .i64 2, .int .i64 n, .float .f64 f, .string s]] w fun e w' => e = .returned (.bool true) ∧ Below w.heap.size w w') (w : World) :
    Calls Tryz.prog 14 #[.agg #[.int .i64 2, .int .i64 n, .float .f64 f, .string s]] w fun e w' => e = .returned (.tuple #[.string ⟨((if b = true then [45] else []) ++ D).toArray⟩, .int .i64 0]) ∧ Below w.heap.size w w' := by
  have L0 := Lib.hid (lies_new w (.int .i64 2) (.int .i64 n) (.float .f64 f) (.string s) 41)
  cases b
  · have SG := rsign_any n false h1
    have HS := Lib.hid (ByteArray.mk_append_mk [] D)
    go_enter Tryz.func14, Tryz.ntmps14
    go_wp2_with fail
    refine (R _).mono ?_; rintro e w1 ⟨rfl, hb1⟩
    have LX := fun x : Later w1 => (L0.out.below hb1).below x.kept
    have ⟨_, _, _, _⟩ := L0.out.below hb1
    unfold Lies at LX
    go_wp2_with fail
    refine wp_region_later (by kernel_rfl) (by kernel_rfl) ?_
    repeat (go_big_quiet_step (first | with_reducible exact later_same (SG _) | with_reducible exact later_call (I _)))
    refine wpQuiet_nil ?_
    rintro w' ⟨x, rfl⟩
    go_wp2_with fail
    go_ret2
    exact ⟨ret_tup2 (congrArg Value.string HS.out) rfl, Below.chain (Below.chain (below_a1 _ _) hb1) x.kept⟩
  · have hc : c = false := by rcases hbc with h | h; cases h; exact h
    subst hc
    have SG := rsign_any n true h1
    have HS := Lib.hid (ByteArray.mk_append_mk [45] D)
    go_enter Tryz.func14, Tryz.ntmps14
    go_wp2_with fail
    refine (R _).mono ?_; rintro e w1 ⟨rfl, hb1⟩
    have LX := fun x : Later w1 => (L0.out.below hb1).below x.kept
    have ⟨_, _, _, _⟩ := L0.out.below hb1
    unfold Lies at LX
    go_wp2_with fail
    refine wp_region_later (by kernel_rfl) (by kernel_rfl) ?_
    repeat (go_big_quiet_step (first | with_reducible exact later_same (SG _) | with_reducible exact later_call (I _)))
    refine wpQuiet_nil ?_
    rintro w' ⟨x, rfl⟩
    go_wp2_with fail
    go_ret2
    exact ⟨ret_tup2 (congrArg Value.string HS.out) rfl, Below.chain (Below.chain (below_a1 _ _) hb1) x.kept⟩
theorem ext1 (s : ByteArray) (i : Nat) (h : i < s.size) : (s.extract i (i + 1)).data.toList = [s[i]] := by
  have hl : i < s.data.toList.length := by simpa using h
  rw [Lib.extract_data, Nat.add_sub_cancel_left, List.drop_eq_getElem_cons hl]
  rfl
theorem dapp (a b : ByteArray) : (a ++ b).data.toList = a.data.toList ++ b.data.toList := by simp
theorem mk_of {S : ByteArray} {l : List UInt8} (h : S.data.toList = l) : S = ⟨l.toArray⟩ := by
  rw [← h]
set_option maxHeartbeats 1000000 in
theorem rtv4 (n : Int) (f : Nat) (s : ByteArray) (hs : s.size ≤ 1000000) (R : ∀ w, Calls Tryz.prog 22 #[.agg #[.int .i64 4, .int .i64 n, .float .f64 f, .string s]] w fun e w' => e = .returned (.bool true) ∧ Below w.heap.size w w') (w : World) :
    Calls Tryz.prog 14 #[.agg #[.int .i64 4, .int .i64 n, .float .f64 f, .string s]] w fun e w' => e = .returned (.tuple #[.string ⟨(39 :: escL s.data.toList ++ [39]).toArray⟩, .int .i64 0]) ∧ Below w.heap.size w w' := by
  have L0 := Lib.hid (lies_new w (.int .i64 4) (.int .i64 n) (.float .f64 f) (.string s) 41)
  go_enter Tryz.func14, Tryz.ntmps14
  go_wp2_with fail
  refine (R _).mono ?_; rintro e w1 ⟨rfl, hb1⟩
  have ⟨_, _, _, _⟩ := L0.out.below hb1
  go_wp2_with fail
  go_loopg [5, 6] s.size (fun g s5 s6 wr => ∃ (i : Nat) (S : ByteArray), g + i = s.size ∧ s6 = .int .i64 i ∧ s5 = .string S ∧ S.data.toList = 39 :: escL (s.data.toList.take i) ∧ S.size ≤ 1 + 2 * i ∧ w1 = wr)
  case atStart => exact ⟨0, ⟨#[39]⟩, by omega, rfl, rfl, by simp [escL], by decide, rfl⟩
  case round =>
    obtain ⟨i, S, hg, rfl, rfl, hS, hz, rfl⟩ := hrel
    have HS := Lib.hid hS
    clear hS
    by_cases hlt : i < s.size
    · have il : (i : Int) < (s.size : Int) := by omega
      have i1 : (i : Int) + 1 ≤ (s.size : Int) := by omega
      have hz2 : S.size ≤ 2000001 := by omega
      have q1 : ((s[i].toNat : Int) == 92) = true ↔ s[i] = 92 := by rw [beq_iff_eq, ← UInt8.toNat_inj]; simp; omega
      have q2 : ((s[i].toNat : Int) == 39) = true ↔ s[i] = 39 := by rw [beq_iff_eq, ← UInt8.toNat_inj]; simp; omega
      have q3 : ((s[i].toNat : Int) == 10) = true ↔ s[i] = 10 := by rw [beq_iff_eq, ← UInt8.toNat_inj]; simp; omega
      have hstep : escL (s.data.toList.take (i + 1)) = escL (s.data.toList.take i) ++ escW s[i] := by
        have hl : i < s.data.toList.length := by simpa using hlt
        rw [List.take_succ_eq_append_getElem hl, escL_app]
        show _ ++ (escW s.data.toList[i] ++ []) = _
        rw [List.append_nil]; rfl
      have hex := ext1 s i hlt
      have HX := Lib.hid hex
      have hexs : (s.extract i (i + 1)).size = 1 := by simp; omega
      have HST := Lib.hid hstep
      clear hstep hex
      by_cases e1 : s[i] = 92
      · have b1 := q1.2 e1
        have HW := Lib.hid (show escW s[i] = [92, 92] by rw [e1]; rfl)
        have hl2 : (⟨#[92, 92]⟩ : ByteArray).size = 2 := rfl
        have HL2 := Lib.hid hl2
        clear hl2
        clear q1 q2 q3 e1
        go_wp2_with fail
        go_roundg (s.size - (i + 1))
        case measure => omega
        case rel => exact ⟨i + 1, _, by omega, by go_num, rfl, by rw [dapp, HS.out, HST.out, HW.out]; rfl, by rw [ByteArray.size_append, HL2.out]; omega, rfl⟩
      have b1 : ((s[i].toNat : Int) == 92) = false := Bool.eq_false_iff.2 fun q => e1 (q1.1 q)
      by_cases e2 : s[i] = 39
      · have b2 := q2.2 e2
        have HW := Lib.hid (show escW s[i] = [92, 39] by rw [e2]; rfl)
        have hl2 : (⟨#[92, 39]⟩ : ByteArray).size = 2 := rfl
        have HL2 := Lib.hid hl2
        clear hl2
        clear q1 q2 q3 e1 e2
        go_wp2_with fail
        go_roundg (s.size - (i + 1))
        case measure => omega
        case rel => exact ⟨i + 1, _, by omega, by go_num, rfl, by rw [dapp, HS.out, HST.out, HW.out]; rfl, by rw [ByteArray.size_append, HL2.out]; omega, rfl⟩
      have b2 : ((s[i].toNat : Int) == 39) = false := Bool.eq_false_iff.2 fun q => e2 (q2.1 q)
      by_cases e3 : s[i] = 10
      · have b3 := q3.2 e3
        have HW := Lib.hid (show escW s[i] = [92, 110] by rw [e3]; rfl)
        have hl2 : (⟨#[92, 110]⟩ : ByteArray).size = 2 := rfl
        have HL2 := Lib.hid hl2
        clear hl2
        clear q1 q2 q3 e1 e2 e3
        go_wp2_with fail
        go_roundg (s.size - (i + 1))
        case measure => omega
        case rel => exact ⟨i + 1, _, by omega, by go_num, rfl, by rw [dapp, HS.out, HST.out, HW.out]; rfl, by rw [ByteArray.size_append, HL2.out]; omega, rfl⟩
      have b3 : ((s[i].toNat : Int) == 10) = false := Bool.eq_false_iff.2 fun q => e3 (q3.1 q)
      have HW := Lib.hid (show escW s[i] = [s[i]] by unfold escW; rw [if_neg (by simp [e1, e2]), if_neg e3])
      clear q1 q2 q3 e1 e2 e3
      go_wp2_with fail
      go_roundg (s.size - (i + 1))
      case measure => omega
      case rel => exact ⟨i + 1, _, by omega, by go_num, rfl, by rw [dapp, HS.out, HST.out, HW.out, HX.out]; rfl, by simp; omega, rfl⟩
    · obtain rfl : i = s.size := by omega
      have hz2 : S.size ≤ 2000001 := by omega
      go_wp2_with fail
      go_ret2
      refine ⟨ret_tup2 (congrArg Value.string (mk_of ?_)) rfl, Below.chain (below_a1 _ _) hb1⟩
      rw [dapp, HS.out, List.take_of_length_le (by simp)]
      rfl
def rqT : Option (List UInt8 × Nat) → Value
  | some (t, n) => .tuple #[.string ⟨t.toArray⟩, .int .i64 (n : Int)]
  | none => .tuple #[.string ⟨#[]⟩, .int .i64 0]
theorem ret_rq {T T' : Option (List UInt8 × Nat)} (h : T = T') {e : Ending} (he : e = .returned (rqT T)) : e = .returned (rqT T') := h ▸ he
set_option maxHeartbeats 1000000 in
theorem rquo_any (s : ByteArray) (h1 : 1 ≤ s.size) (hs : s.size ≤ 1000000) (w : World) :
    Calls Tryz.prog 55 #[.string s] w fun e w' => e = .returned (rqT (rq (s.size + 1) (s.data.toList.drop 1) [] 1)) ∧ w = w' := by
  obtain ⟨T, hT⟩ : ∃ T, T = rq (s.size + 1) (s.data.toList.drop 1) [] 1 := ⟨_, rfl⟩
  rw [← hT]
  have HT := Lib.hid hT
  clear hT
  go_enter Tryz.func55, Tryz.ntmps55
  go_wp2_with fail
  go_loopg [4, 5, 6] (s.size + 1) (fun g s4 s5 s6 wr => ∃ (i : Nat) (S : ByteArray), 1 ≤ i ∧ i ≤ s.size ∧ s.size < g + i ∧ s5 = .int .i64 i ∧ s4 = .string S ∧ S.size ≤ i ∧ rq g (s.data.toList.drop i) S.data.toList i = T ∧ w = wr)
  case atStart => exact ⟨1, ⟨#[]⟩, by omega, by omega, by omega, rfl, rfl, by decide, HT.out.symm, rfl⟩
  case round =>
    obtain ⟨i, S, i1, i2, hg, rfl, rfl, hz, hr, rfl⟩ := hrel
    have HR := Lib.hid hr
    clear hr
    have hz2 : S.size ≤ 1000000 := by omega
    by_cases hlt : i < s.size
    · have hi := get_at s i hlt
      have hd := drop_cons hi
      obtain ⟨g', rfl⟩ : ∃ g', gk = g' + 1 := ⟨gk - 1, by omega⟩
      have hr2 := HR.out
      rw [hd] at hr2
      simp only [rq] at hr2
      have HR2 := Lib.hid hr2
      have HX := Lib.hid (ext1 s i hlt)
      have hexs : (s.extract i (i + 1)).size = 1 := by simp; omega
      clear hr2 hi hd
      have il : (i : Int) < (s.size : Int) := by omega
      have il2 : (i : Int) + 1 ≤ (s.size : Int) := by omega
      have q1 : ((s[i].toNat : Int) == 39) = true ↔ s[i] = 39 := by rw [beq_iff_eq, ← UInt8.toNat_inj]; simp; omega
      have q2 : ((s[i].toNat : Int) == 10) = true ↔ s[i] = 10 := by rw [beq_iff_eq, ← UInt8.toNat_inj]; simp; omega
      have q3 : ((s[i].toNat : Int) == 92) = true ↔ s[i] = 92 := by rw [beq_iff_eq, ← UInt8.toNat_inj]; simp; omega
      by_cases e1 : s[i] = 39
      · have b1 := q1.2 e1
        have r := HR2.out
        rw [if_pos e1] at r
        have HRR := Lib.hid r
        clear q1 q2 q3 e1 r HR2 HR
        go_wp2_with fail
        go_ret2
        refine ⟨ret_rq HRR.out ?_, rfl⟩
        exact ret_tup2 (congrArg Value.string (mk_of rfl)) (by go_num)
      have b1 : ((s[i].toNat : Int) == 39) = false := Bool.eq_false_iff.2 fun q => e1 (q1.1 q)
      by_cases e2 : s[i] = 10
      · have b2 := q2.2 e2
        have r := HR2.out
        rw [if_neg e1, if_pos e2] at r
        have HRR := Lib.hid r
        clear q1 q2 q3 e1 e2 r HR2 HR
        go_wp2_with fail
        go_ret2
        exact ⟨ret_rq HRR.out rfl, rfl⟩
      have b2 : ((s[i].toNat : Int) == 10) = false := Bool.eq_false_iff.2 fun q => e2 (q2.1 q)
      by_cases e3 : s[i] = 92
      · have b3 := q3.2 e3
        have b3' : ((s[i].toNat : Int) != 92) = false := by rw [bne, b3]; rfl
        have r := HR2.out
        rw [if_neg e1, if_neg e2, if_pos e3] at r
        have HRR := Lib.hid r
        clear q1 q2 q3 e1 e2 e3 r HR2 HR HX
        by_cases hend : i + 1 = s.size
        · have hnil : s.data.toList.drop (i + 1) = [] := List.drop_eq_nil_of_le (by simp; omega)
          have r := HRR.out
          rw [hnil] at r
          have HRS := Lib.hid r
          have be : ((i : Int) + 1 == (s.size : Int)) = true := by rw [beq_iff_eq]; omega
          clear r hnil HRR hend
          go_wp2_with fail
          go_ret2
          exact ⟨ret_rq HRS.out rfl, rfl⟩
        · have hlt2 : i + 1 < s.size := by omega
          have be : ((i : Int) + 1 == (s.size : Int)) = false := by rw [beq_eq_false_iff_ne]; omega
          have hcons := drop_cons (get_at s (i + 1) hlt2)
          have HX2 := Lib.hid (ext1 s (i + 1) hlt2)
          have hexs2 : (s.extract (i + 1) (i + 1 + 1)).size = 1 := by simp; omega
          have il3 : (i : Int) + 1 < (s.size : Int) := by omega
          have il4 : (i : Int) + 1 + 1 ≤ (s.size : Int) := by omega
          have r := HRR.out
          rw [hcons] at r
          simp only [] at r
          have p1 : ((s[i + 1].toNat : Int) == 92) = true ↔ s[i + 1] = 92 := by rw [beq_iff_eq, ← UInt8.toNat_inj]; simp; omega
          have p2 : ((s[i + 1].toNat : Int) == 39) = true ↔ s[i + 1] = 39 := by rw [beq_iff_eq, ← UInt8.toNat_inj]; simp; omega
          have p3 : ((s[i + 1].toNat : Int) == 110) = true ↔ s[i + 1] = 110 := by rw [beq_iff_eq, ← UInt8.toNat_inj]; simp; omega
          clear hcons hend HRR
          by_cases c1 : s[i + 1] = 92
          · have d1 := p1.2 c1
            have he : escB s[i + 1] = some s[i + 1] := by unfold escB; rw [if_pos (.inl c1)]
            rw [he] at r
            have HRS := Lib.hid r
            clear r he p1 p2 p3 c1
            go_wp2_with fail
            go_roundg g'
            case measure => omega
            case rel => exact ⟨i + 2, _, by omega, by omega, by omega, by go_num, rfl, by simp; omega, by rw [dapp, HX2.out]; exact HRS.out, rfl⟩
          have d1 : ((s[i + 1].toNat : Int) == 92) = false := Bool.eq_false_iff.2 fun q => c1 (p1.1 q)
          by_cases c2 : s[i + 1] = 39
          · have d2 := p2.2 c2
            have he : escB s[i + 1] = some s[i + 1] := by unfold escB; rw [if_pos (.inr c2)]
            rw [he] at r
            have HRS := Lib.hid r
            clear r he p1 p2 p3 c1 c2
            go_wp2_with fail
            go_roundg g'
            case measure => omega
            case rel => exact ⟨i + 2, _, by omega, by omega, by omega, by go_num, rfl, by simp; omega, by rw [dapp, HX2.out]; exact HRS.out, rfl⟩
          have d2 : ((s[i + 1].toNat : Int) == 39) = false := Bool.eq_false_iff.2 fun q => c2 (p2.1 q)
          by_cases c3 : s[i + 1] = 110
          · have d3 := p3.2 c3
            have he : escB s[i + 1] = some 10 := by unfold escB; rw [if_neg (by simp [c1, c2]), if_pos c3]
            rw [he] at r
            have HRS := Lib.hid r
            clear r he p1 p2 p3 c1 c2 c3 HX2
            go_wp2_with fail
            go_roundg g'
            case measure => omega
            case rel => exact ⟨i + 2, _, by omega, by omega, by omega, by go_num, rfl, by rw [ByteArray.size_append, show (⟨#[10]⟩ : ByteArray).size = 1 from rfl]; omega, by rw [dapp]; exact HRS.out, rfl⟩
          · have d3 : ((s[i + 1].toNat : Int) == 110) = false := Bool.eq_false_iff.2 fun q => c3 (p3.1 q)
            have he : escB s[i + 1] = none := by unfold escB; rw [if_neg (by simp [c1, c2]), if_neg c3]
            rw [he] at r
            have HRS := Lib.hid r
            clear r he p1 p2 p3 c1 c2 c3 HX2
            go_wp2_with fail
            go_ret2
            exact ⟨ret_rq HRS.out rfl, rfl⟩
      · have b3 : ((s[i].toNat : Int) == 92) = false := Bool.eq_false_iff.2 fun q => e3 (q3.1 q)
        have b3' : ((s[i].toNat : Int) != 92) = true := by rw [bne, b3]; rfl
        have r := HR2.out
        rw [if_neg e1, if_neg e2, if_neg e3] at r
        have HRR := Lib.hid r
        clear q1 q2 q3 e1 e2 e3 r HR2 HR
        go_wp2_with fail
        go_roundg g'
        case measure => omega
        case rel => exact ⟨i + 1, _, by omega, by omega, by omega, by go_num, rfl, by simp; omega, by rw [dapp, HX.out]; exact HRR.out, rfl⟩
    · obtain rfl : i = s.size := by omega
      have hnil : s.data.toList.drop s.size = [] := List.drop_eq_nil_of_le (by simp)
      have r := HR.out
      rw [hnil] at r
      obtain ⟨g', rfl⟩ : ∃ g', gk = g' + 1 := ⟨gk - 1, by omega⟩
      simp only [rq] at r
      have HRR := Lib.hid r
      clear r hnil HR
      go_wp2_with fail
      go_ret2
      exact ⟨ret_rq HRR.out rfl, rfl⟩
end Go.Proofs.YtainigcchlgehaaGreatDoor


