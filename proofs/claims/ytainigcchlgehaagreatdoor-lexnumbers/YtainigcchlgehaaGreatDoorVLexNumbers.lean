/- The walk of the law LexNumbers. -/
import Derived.Test.YtainigcchlgehaaGreatDoorXO
import Derived.Test.YtainigcchlgehaaGreatDoorB7
import Derived.Laws.StructEq
namespace Go.Proofs.YtainigcchlgehaaGreatDoor.LexNumbers
open Go Go.ChangeShapes Go.WideShapes Go.ChangeAt Go.RowKit
open Go.Joins
set_option linter.unusedVariables false
theorem vrd_int (n : Int) (n1 : -9223372036854775808 ≤ n) (n2 : n ≤ 9223372036854775807) : ∃ v, vrdSem (Lib.itoa n) = some ((Lib.itoa n).length, v) := by
  have hr : rightB 2 n 0 ⟨#[]⟩ = true := by simp [rightB]
  have h := fwd 2 n 0 ⟨#[]⟩ [] n1 n2 (by decide) hr
  have e : textV 2 n 0 ⟨#[]⟩ = Lib.itoa n := by simp [textV]
  rw [e] at h
  have h2 := (vrd_more _ [] _ _ h).2.2.2
  rw [List.take_left] at h2
  exact ⟨_, h2⟩
theorem vrd_quo (s : ByteArray) : ∃ v, vrdSem (39 :: escL s.data.toList ++ [39]) = some ((39 :: escL s.data.toList ++ [39]).length, v) := by
  have hr : rightB 4 0 0 s = true := by simp [rightB]
  have h := fwd 4 0 0 s [] (by decide) (by decide) (by decide) hr
  have e : textV 4 0 0 s = 39 :: escL s.data.toList ++ [39] := by simp [textV]
  rw [e] at h
  have h2 := (vrd_more _ [] _ _ h).2.2.2
  rw [List.take_left] at h2
  exact ⟨_, h2⟩
theorem digit_ne {c : UInt8} (h : digitB c.toNat = true) : c ≠ 39 ∧ c ≠ 45 ∧ c ≠ 91 ∧ c ≠ 62 ∧ blanksL.contains c = false ∧ begB c.toNat = false := by
  refine ⟨?_, ?_, ?_, ?_, ?_, ?_⟩
  · rintro rfl; revert h; decide
  · rintro rfl; revert h; decide
  · rintro rfl; revert h; decide
  · rintro rfl; revert h; decide
  · cases hb : blanksL.contains c with
    | false => rfl
    | true =>
      have := List.contains_iff_mem.1 hb
      simp only [blanksL, List.mem_cons, List.not_mem_nil, or_false] at this
      rcases this with rfl | rfl | rfl | rfl <;> (revert h; decide)
  · cases hb : begB c.toNat with
    | false => rfl
    | true => rw [beg_dig _ hb] at h; cases h
theorem good_num {l : Bt} {c : UInt8} {t : Bt} (hl : l = c :: t) (hd : digitB c.toNat = true) (h : numN l = l.length) (p : Nat) : GoodTk ⟨3, l, p⟩ := by
  refine ⟨?_, ?_, ?_⟩
  · show firstF l = (3, l.length)
    rw [hl, firstF_cons, if_pos hd, ← hl, h]
  · show l ≠ []; rw [hl]; simp
  · intro d r e
    have e' : l = d :: r := e
    rw [hl] at e'
    injection e' with e1 _
    rw [← e1]; exact (digit_ne hd).2.2.2.2.1
theorem good_quo (s : ByteArray) (p : Nat) : GoodTk ⟨4, 39 :: escL s.data.toList ++ [39], p⟩ := by
  obtain ⟨v, hv⟩ := vrd_quo s
  refine ⟨?_, by simp, ?_⟩
  · show firstF (39 :: escL s.data.toList ++ [39]) = (4, (39 :: escL s.data.toList ++ [39]).length)
    have : firstF (39 :: (escL s.data.toList ++ [39])) = (4, szR (vrdSem (39 :: (escL s.data.toList ++ [39])))) := by
      rw [firstF_cons, if_neg (by decide), if_neg (by decide), if_pos rfl]
    rw [List.cons_append, this, ← List.cons_append, hv]; rfl
  · intro d r e
    have e' : 39 :: (escL s.data.toList ++ [39]) = d :: r := e
    injection e' with e1 _
    rw [← e1]; decide
theorem good_truth (b : Bool) (p : Nat) : GoodTk ⟨2, if b = true then [116, 114, 117, 101] else [102, 97, 108, 115, 101], p⟩ := by
  cases b
  · exact ⟨(by decide +kernel : firstF [102, 97, 108, 115, 101] = (2, 5)), by simp, fun c r e => by injection e with e1 _; rw [← e1]; decide⟩
  · exact ⟨(by decide +kernel : firstF [116, 114, 117, 101] = (2, 4)), by simp, fun c r e => by injection e with e1 _; rw [← e1]; decide⟩
theorem good_null (p : Nat) : GoodTk ⟨2, [110, 117, 108, 108], p⟩ := ⟨(by decide +kernel : firstF [110, 117, 108, 108] = (2, 4)), by simp, fun c r e => by injection e with e1 _; rw [← e1]; decide⟩
theorem itoa_pos {n : Int} (h : 0 ≤ n) : Lib.itoa n = Lib.decDigits n.toNat := by
  unfold Lib.itoa; rw [if_neg (by omega)]
theorem itoa_neg {n : Int} (h : n < 0) : Lib.itoa n = 45 :: Lib.decDigits n.natAbs := by
  unfold Lib.itoa; rw [if_pos h]
theorem dec_head (n : Nat) : ∃ c t, Lib.decDigits n = c :: t ∧ digitB c.toNat = true := by
  cases h : Lib.decDigits n with
  | nil =>
    exact absurd h (dec_ne n)
  | cons c t =>
    refine ⟨c, t, rfl, ?_⟩
    obtain ⟨h1, h2⟩ := dec_digits n c (by rw [h]; simp)
    unfold digitB
    simp only [Bool.and_eq_true, decide_eq_true_eq]
    exact ⟨h1, h2⟩
theorem num_pos {n : Int} (h : 0 ≤ n) (n2 : n ≤ 9223372036854775807) : numN (Lib.itoa n) = (Lib.itoa n).length := by
  obtain ⟨v, hv⟩ := vrd_int n (by omega) n2
  have := numN_le (Lib.itoa n)
  unfold numN at this ⊢
  rw [hv] at this ⊢
  show max (Lib.itoa n).length _ = _
  have e : szR (some ((Lib.itoa n).length, v)) = (Lib.itoa n).length := rfl
  rw [e] at this
  omega
theorem num_neg {n : Int} (h : n < 0) (n1 : -9223372036854775808 ≤ n) : numN (Lib.decDigits n.natAbs) = (Lib.decDigits n.natAbs).length := by
  obtain ⟨v, hv⟩ := vrd_int n n1 (by omega)
  rw [itoa_neg h] at hv
  have := numN_le (Lib.decDigits n.natAbs)
  unfold numN at this ⊢
  rw [hv] at this ⊢
  have e : szR (some ((45 :: Lib.decDigits n.natAbs).length, v)) = (45 :: Lib.decDigits n.natAbs).length := rfl
  rw [e] at this ⊢
  simp only [List.length_cons] at this ⊢
  omega
theorem minus_first {c : UInt8} {t : Bt} (h : digitB c.toNat = true) : firstF (45 :: c :: t) = (5, 1) := by
  obtain ⟨h1, h2, h3, h4, -, -⟩ := digit_ne h
  rw [firstF_cons, if_neg (by decide), if_neg (by decide), if_neg (by decide)]
  congr 1
  have hs : ∀ s ∈ signsL, Lib.hasPrefix (45 :: c :: t) s = true → s = [45] := by
    intro s hs hp
    rw [hp_pref] at hp
    have : ∀ s ∈ signsL, s = [45] ∨ s.head? ≠ some 45 ∨ s.take 2 = [45, 91] ∨ s.take 2 = [45, 62] := by decide
    obtain ⟨r, hr⟩ := hp
    rcases this s hs with h | h | h | h
    · exact h
    · exfalso
      cases s with
      | nil => revert hs; decide
      | cons a s => rw [List.cons_append] at hr; injection hr with e1 _; exact h (by rw [e1]; rfl)
    · exfalso
      match s, h with
      | a :: b :: s, h =>
        simp only [List.take_succ_cons, List.take_zero, List.cons.injEq, and_true] at h
        rw [List.cons_append, List.cons_append] at hr
        injection hr with _ e2
        injection e2 with e3 _
        exact h3 (e3.symm.trans h.2)
    · exfalso
      match s, h with
      | a :: b :: s, h =>
        simp only [List.take_succ_cons, List.take_zero, List.cons.injEq, and_true] at h
        rw [List.cons_append, List.cons_append] at hr
        injection hr with _ e2
        injection e2 with e3 _
        exact h4 (e3.symm.trans h.2)
  have key : ∀ S : List Bt, (∀ s ∈ S, Lib.hasPrefix (45 :: c :: t) s = true → s = [45]) → [45] ∈ S → findS (45 :: c :: t) S = 1 := by
    intro S
    induction S with
    | nil => intro _ h; cases h
    | cons s S ih =>
      intro hS hm
      rw [findS_cons]
      by_cases hp : Lib.hasPrefix (45 :: c :: t) s = true
      · rw [if_pos hp, hS s (by simp) hp]; rfl
      · rw [if_neg hp]
        refine ih (fun z hz => hS z (by simp [hz])) ?_
        rcases List.mem_cons.1 hm with rfl | hm
        · exact absurd (by simp [Lib.hasPrefix, List.isPrefixOf]) hp
        · exact hm
  exact key signsL hs (by decide)
theorem toks_pos {n : Int} (h : 0 ≤ n) (n2 : n ≤ 9223372036854775807) (s : ByteArray) (b : Bool) : ∃ r, lexT (Lib.itoa n ++ 32 :: ((39 :: escL s.data.toList ++ [39]) ++ 32 :: ((if b = true then [116, 114, 117, 101] else [102, 97, 108, 115, 101]) ++ [32, 110, 117, 108, 108]))) 0 = .ok r ∧
    Alike r [⟨3, Lib.itoa n, 0⟩, ⟨4, 39 :: escL s.data.toList ++ [39], 0⟩, ⟨2, if b = true then [116, 114, 117, 101] else [102, 97, 108, 115, 101], 0⟩, ⟨2, [110, 117, 108, 108], 0⟩] := by
  have hi := itoa_pos h
  obtain ⟨c, t, hc, hd⟩ := dec_head n.toNat
  refine lex_back [⟨3, Lib.itoa n, 0⟩, ⟨4, 39 :: escL s.data.toList ++ [39], 0⟩, ⟨2, if b = true then [116, 114, 117, 101] else [102, 97, 108, 115, 101], 0⟩, ⟨2, [110, 117, 108, 108], 0⟩] 0 ?_
  intro x hx
  simp only [List.mem_cons, List.not_mem_nil, or_false] at hx
  rcases hx with rfl | rfl | rfl | rfl
  · exact good_num (hi.trans hc) hd (num_pos h n2) 0
  · exact good_quo s 0
  · exact good_truth b 0
  · exact good_null 0
theorem toks_neg {n : Int} (h : n < 0) (n1 : -9223372036854775808 ≤ n) (s : ByteArray) (b : Bool) : ∃ r, lexT (Lib.itoa n ++ 32 :: ((39 :: escL s.data.toList ++ [39]) ++ 32 :: ((if b = true then [116, 114, 117, 101] else [102, 97, 108, 115, 101]) ++ [32, 110, 117, 108, 108]))) 0 = .ok (⟨5, [45], 0⟩ :: r) ∧
    Alike r [⟨3, Lib.decDigits n.natAbs, 0⟩, ⟨4, 39 :: escL s.data.toList ++ [39], 0⟩, ⟨2, if b = true then [116, 114, 117, 101] else [102, 97, 108, 115, 101], 0⟩, ⟨2, [110, 117, 108, 108], 0⟩] := by
  obtain ⟨c, t, hc, hd⟩ := dec_head n.natAbs
  obtain ⟨r, hr, ha⟩ := lex_back [⟨3, Lib.decDigits n.natAbs, 0⟩, ⟨4, 39 :: escL s.data.toList ++ [39], 0⟩, ⟨2, if b = true then [116, 114, 117, 101] else [102, 97, 108, 115, 101], 0⟩, ⟨2, [110, 117, 108, 108], 0⟩] 1 (by
    intro x hx
    simp only [List.mem_cons, List.not_mem_nil, or_false] at hx
    rcases hx with rfl | rfl | rfl | rfl
    · exact good_num hc hd (num_neg h n1) 0
    · exact good_quo s 0
    · exact good_truth b 0
    · exact good_null 0)
  refine ⟨r, ?_, ha⟩
  have hj : joinT [⟨3, Lib.decDigits n.natAbs, 0⟩, ⟨4, 39 :: escL s.data.toList ++ [39], 0⟩, ⟨2, if b = true then [116, 114, 117, 101] else [102, 97, 108, 115, 101], 0⟩, ⟨2, [110, 117, 108, 108], 0⟩] = Lib.decDigits n.natAbs ++ 32 :: ((39 :: escL s.data.toList ++ [39]) ++ 32 :: ((if b = true then [116, 114, 117, 101] else [102, 97, 108, 115, 101]) ++ [32, 110, 117, 108, 108])) := rfl
  rw [hj] at hr
  rw [itoa_neg h, List.cons_append]
  generalize hy : (39 :: escL s.data.toList ++ [39]) ++ 32 :: ((if b = true then [116, 114, 117, 101] else [102, 97, 108, 115, 101]) ++ [32, 110, 117, 108, 108]) = y at hr ⊢
  rw [hc, List.cons_append] at hr ⊢
  have hf := minus_first (t := t ++ 32 :: y) hd
  have h0 : blN (45 :: c :: (t ++ 32 :: y)) = 0 := blN_zero (by decide)
  have hdd : (45 :: c :: (t ++ 32 :: y)).drop (blN (45 :: c :: (t ++ 32 :: y))) = 45 :: c :: (t ++ 32 :: y) := by rw [h0]; rfl
  rw [lexT_cons 0 hdd (by rw [hf]; decide), hf, h0]
  show (match lexT (c :: (t ++ 32 :: y)) 1 with | .error e => _ | .ok r' => _) = _
  rw [hr]; rfl
theorem alike_len : ∀ {r s : List Tk}, Alike r s → r.length = s.length
  | [], [], _ => rfl
  | a :: r, b :: s, h => by rw [List.length_cons, List.length_cons, alike_len h.2.2]
  | [], b :: s, h => h.elim
  | a :: r, [], h => h.elim
theorem alike_at : ∀ {r s : List Tk}, Alike r s → ∀ (k : Nat) (h1 : k < r.length) (h2 : k < s.length), r[k].kind = s[k].kind ∧ r[k].text = s[k].text
  | a :: r, b :: s, h, 0, _, _ => ⟨h.1, h.2.1⟩
  | a :: r, b :: s, h, k + 1, h1, h2 => alike_at h.2.2 k (Nat.lt_of_succ_lt_succ h1) (Nat.lt_of_succ_lt_succ h2)
  | [], _, _, k, h1, _ => by simp at h1
  | a :: r, [], h, _, _, _ => h.elim
set_option maxHeartbeats 8000000 in
set_option maxRecDepth 100000 in
theorem core0 (n : Int) (s S : ByteArray) (b : Bool) (m : Nat) (hm : min (s.size : Int) 50 = (m : Int)) (ml : (m : Int) ≤ (s.size : Int)) (hS : s.extract 0 m = S) (A B C Z : ByteArray) (hZ : A ++ ⟨#[32]⟩ ++ B ++ ⟨#[32]⟩ ++ C ++ ⟨#[32, 110, 117, 108, 108]⟩ = Z) (la : A.size ≤ 20) (lb : B.size ≤ 102) (lc : C.size ≤ 5)
    (N : ByteArray) (hN : A.extract 0 A.size = N) (hn : decide (n < 0) = false) (hAp : (0 : Int) ≤ (A.size : Int))
    (T1 : ∀ w, Calls Tryz.prog 14 #[.agg #[.int .i64 2, .int .i64 n, .float .f64 0, .string ⟨#[]⟩]] w fun e w' => e = .returned (.tuple #[.string A, .int .i64 0]) ∧ Below w.heap.size w w')
    (T2 : ∀ w, Calls Tryz.prog 14 #[.agg #[.int .i64 4, .int .i64 0, .float .f64 0, .string S]] w fun e w' => e = .returned (.tuple #[.string B, .int .i64 0]) ∧ Below w.heap.size w w')
    (T3 : ∀ w, Calls Tryz.prog 14 #[.agg #[.int .i64 1, .int .i64 (b01 b), .float .f64 0, .string ⟨#[]⟩]] w fun e w' => e = .returned (.tuple #[.string C, .int .i64 0]) ∧ Below w.heap.size w w')
    (r : List Tk) (x : lexT Z.data.toList 0 = .ok r) (ha : Alike r [⟨3, N.data.toList, 0⟩, ⟨4, B.data.toList, 0⟩, ⟨2, C.data.toList, 0⟩, ⟨2, [110, 117, 108, 108], 0⟩]) (w : World) (hT : TabsX w) :
    Calls Tryz.prog 7 #[.int .i64 n, .string s, .bool b] w fun e w' => e = .returned (.bool true) ∧ Below w.heap.size w w' := by
  have CS := Lib.hid (shown10_any w hT)
  have lz : Z.size ≤ 150 := by
    rw [← hZ]
    simp only [ByteArray.size_append]
    have h1 : (ByteArray.mk #[32]).size = 1 := rfl
    have h2 : (ByteArray.mk #[32, 110, 117, 108, 108]).size = 5 := rfl
    omega
  have CL := Lib.hid (fun u hu => lex_any Z (by omega) u hu)
  have X := Lib.hid x
  have hr4 : r.length = 4 := alike_len ha
  have HR4 := Lib.hid hr4
  have HA0 := Lib.hid (alike_at ha 0 (by omega) (by simp))
  have HA1 := Lib.hid (alike_at ha 1 (by omega) (by simp))
  have HA2 := Lib.hid (alike_at ha 2 (by omega) (by simp))
  have HA3 := Lib.hid (alike_at ha 3 (by omega) (by simp))
  have HT1 := Lib.hid T1
  have HT2 := Lib.hid T2
  have HT3 := Lib.hid T3
  have HTR := Lib.hid (rtruth_any b)
  have m0 : (0 : Int) ≤ (m : Int) := by omega
  have lai : (A.size : Int) ≤ 20 := by omega
  have lbi : (B.size : Int) ≤ 102 := by omega
  have lci : (C.size : Int) ≤ 5 := by omega
  have lzi : (Z.size : Int) ≤ 150 := by omega
  clear x ha T1 T2 T3
  go_enter Tryz.func7, Tryz.ntmps7
  go_wp2_with fail
  refine CS.out.mono ?_; rintro e w1 ⟨rfl, hb1⟩
  go_wp2_with fail
  refine (HT1.out _).mono ?_; rintro e w2 ⟨rfl, hb2⟩
  have c2 := Below.chain hb1 hb2
  clear hb1 hb2
  go_wp2_with fail
  refine (HT2.out _).mono ?_; rintro e w3 ⟨rfl, hb3⟩
  have c3 := Below.chain c2 hb3
  clear c2 hb3
  go_wp2_with fail
  refine (HTR.out _).mono ?_; rintro e w4 ⟨rfl, hb4⟩
  have c4 := Below.chain c3 hb4
  clear c3 hb4
  go_wp2_with fail
  refine (HT3.out _).mono ?_; rintro e w5 ⟨rfl, hb5⟩
  have c5 := Below.chain c4 hb5
  clear c4 hb5
  go_wp2_with fail
  refine (CL.out _ (hT.below c5)).mono ?_; rintro e w6 h6
  obtain ⟨⟨v, rfl, hO⟩, hb6⟩ := lexR_ok h6 X.out
  obtain ⟨va, vc, rfl⟩ := hO.shape
  have c6 := Below.chain c5 hb6
  obtain ⟨b1, o1, rfl, hc⟩ := RwK.at hO.rw 0 (by rw [HR4.out]; decide)
  obtain ⟨p0, q0, -⟩ := hc 0 (by rw [HR4.out]; decide)
  rw [HA0.out.1] at p0
  rw [HA0.out.2] at q0
  simp only [List.getElem_cons_zero, Nat.reduceMul, Nat.add_zero] at p0 q0
  obtain ⟨p1, q1, -⟩ := hc 1 (by rw [HR4.out]; decide)
  rw [HA1.out.1] at p1
  rw [HA1.out.2] at q1
  simp only [List.getElem_cons_succ, List.getElem_cons_zero, Nat.reduceMul] at p1 q1
  obtain ⟨p2, q2, -⟩ := hc 2 (by rw [HR4.out]; decide)
  rw [HA2.out.1] at p2
  rw [HA2.out.2] at q2
  simp only [List.getElem_cons_succ, List.getElem_cons_zero, Nat.reduceMul] at p2 q2
  obtain ⟨p3, q3, -⟩ := hc 3 (by rw [HR4.out]; decide)
  rw [HA3.out.1] at p3
  rw [HA3.out.2] at q3
  simp only [List.getElem_cons_succ, List.getElem_cons_zero, Nat.reduceMul] at p3 q3
  rw [show (⟨N.data.toList.toArray⟩ : ByteArray) = N from rfl] at q0
  rw [show (⟨B.data.toList.toArray⟩ : ByteArray) = B from rfl] at q1
  rw [show (r : List Tk).length = 4 by exact HR4.out]
  clear hc hb6 h6 hO c5
  go_wp2_with fail
  go_quiet (fail)
  all_goals
    go_wp2_with fail
    go_ret
    exact ⟨rfl, below_drewN c6 _⟩

set_option maxHeartbeats 8000000 in
set_option maxRecDepth 100000 in
theorem core1 (n : Int) (s S : ByteArray) (b : Bool) (m : Nat) (hm : min (s.size : Int) 50 = (m : Int)) (ml : (m : Int) ≤ (s.size : Int)) (hS : s.extract 0 m = S) (A B C Z : ByteArray) (hZ : A ++ ⟨#[32]⟩ ++ B ++ ⟨#[32]⟩ ++ C ++ ⟨#[32, 110, 117, 108, 108]⟩ = Z) (la : A.size ≤ 20) (lb : B.size ≤ 102) (lc : C.size ≤ 5)
    (N : ByteArray) (hN : A.extract 1 A.size = N) (hn : decide (n < 0) = true) (hAp : (1 : Int) ≤ (A.size : Int))
    (T1 : ∀ w, Calls Tryz.prog 14 #[.agg #[.int .i64 2, .int .i64 n, .float .f64 0, .string ⟨#[]⟩]] w fun e w' => e = .returned (.tuple #[.string A, .int .i64 0]) ∧ Below w.heap.size w w')
    (T2 : ∀ w, Calls Tryz.prog 14 #[.agg #[.int .i64 4, .int .i64 0, .float .f64 0, .string S]] w fun e w' => e = .returned (.tuple #[.string B, .int .i64 0]) ∧ Below w.heap.size w w')
    (T3 : ∀ w, Calls Tryz.prog 14 #[.agg #[.int .i64 1, .int .i64 (b01 b), .float .f64 0, .string ⟨#[]⟩]] w fun e w' => e = .returned (.tuple #[.string C, .int .i64 0]) ∧ Below w.heap.size w w')
    (r : List Tk) (x : lexT Z.data.toList 0 = .ok (⟨5, [45], 0⟩ :: r)) (ha : Alike r [⟨3, N.data.toList, 0⟩, ⟨4, B.data.toList, 0⟩, ⟨2, C.data.toList, 0⟩, ⟨2, [110, 117, 108, 108], 0⟩]) (w : World) (hT : TabsX w) :
    Calls Tryz.prog 7 #[.int .i64 n, .string s, .bool b] w fun e w' => e = .returned (.bool true) ∧ Below w.heap.size w w' := by
  have CS := Lib.hid (shown10_any w hT)
  have lz : Z.size ≤ 150 := by
    rw [← hZ]
    simp only [ByteArray.size_append]
    have h1 : (ByteArray.mk #[32]).size = 1 := rfl
    have h2 : (ByteArray.mk #[32, 110, 117, 108, 108]).size = 5 := rfl
    omega
  have CL := Lib.hid (fun u hu => lex_any Z (by omega) u hu)
  have X := Lib.hid x
  have hr4 : r.length = 4 := alike_len ha
  have HR4 := Lib.hid hr4
  have HA0 := Lib.hid (alike_at ha 0 (by omega) (by simp))
  have HA1 := Lib.hid (alike_at ha 1 (by omega) (by simp))
  have HA2 := Lib.hid (alike_at ha 2 (by omega) (by simp))
  have HA3 := Lib.hid (alike_at ha 3 (by omega) (by simp))
  have HT1 := Lib.hid T1
  have HT2 := Lib.hid T2
  have HT3 := Lib.hid T3
  have HTR := Lib.hid (rtruth_any b)
  have m0 : (0 : Int) ≤ (m : Int) := by omega
  have lai : (A.size : Int) ≤ 20 := by omega
  have lbi : (B.size : Int) ≤ 102 := by omega
  have lci : (C.size : Int) ≤ 5 := by omega
  have lzi : (Z.size : Int) ≤ 150 := by omega
  clear x ha T1 T2 T3
  go_enter Tryz.func7, Tryz.ntmps7
  go_wp2_with fail
  refine CS.out.mono ?_; rintro e w1 ⟨rfl, hb1⟩
  go_wp2_with fail
  refine (HT1.out _).mono ?_; rintro e w2 ⟨rfl, hb2⟩
  have c2 := Below.chain hb1 hb2
  clear hb1 hb2
  go_wp2_with fail
  refine (HT2.out _).mono ?_; rintro e w3 ⟨rfl, hb3⟩
  have c3 := Below.chain c2 hb3
  clear c2 hb3
  go_wp2_with fail
  refine (HTR.out _).mono ?_; rintro e w4 ⟨rfl, hb4⟩
  have c4 := Below.chain c3 hb4
  clear c3 hb4
  go_wp2_with fail
  refine (HT3.out _).mono ?_; rintro e w5 ⟨rfl, hb5⟩
  have c5 := Below.chain c4 hb5
  clear c4 hb5
  go_wp2_with fail
  refine (CL.out _ (hT.below c5)).mono ?_; rintro e w6 h6
  obtain ⟨⟨v, rfl, hO⟩, hb6⟩ := lexR_ok h6 X.out
  obtain ⟨va, vc, rfl⟩ := hO.shape
  have c6 := Below.chain c5 hb6
  obtain ⟨b1, o1, rfl, hc⟩ := RwK.at hO.rw 1 (by rw [List.length_cons, HR4.out]; decide)
  obtain ⟨-, z1, -⟩ := hc 0 (by rw [List.length_cons]; omega)
  simp only [List.getElem_cons_zero, Nat.reduceMul, Nat.add_zero] at z1
  obtain ⟨p0, q0, -⟩ := hc 1 (by rw [List.length_cons, HR4.out]; decide)
  simp only [List.getElem_cons_succ] at p0 q0
  rw [HA0.out.1] at p0
  rw [HA0.out.2] at q0
  simp only [List.getElem_cons_zero, Nat.reduceMul] at p0 q0
  obtain ⟨p1, q1, -⟩ := hc 2 (by rw [List.length_cons, HR4.out]; decide)
  simp only [List.getElem_cons_succ] at p1 q1
  rw [HA1.out.1] at p1
  rw [HA1.out.2] at q1
  simp only [List.getElem_cons_succ, List.getElem_cons_zero, Nat.reduceMul] at p1 q1
  obtain ⟨p2, q2, -⟩ := hc 3 (by rw [List.length_cons, HR4.out]; decide)
  simp only [List.getElem_cons_succ] at p2 q2
  rw [HA2.out.1] at p2
  rw [HA2.out.2] at q2
  simp only [List.getElem_cons_succ, List.getElem_cons_zero, Nat.reduceMul] at p2 q2
  obtain ⟨p3, q3, -⟩ := hc 4 (by rw [List.length_cons, HR4.out]; decide)
  simp only [List.getElem_cons_succ] at p3 q3
  rw [HA3.out.1] at p3
  rw [HA3.out.2] at q3
  simp only [List.getElem_cons_succ, List.getElem_cons_zero, Nat.reduceMul] at p3 q3
  rw [show (⟨N.data.toList.toArray⟩ : ByteArray) = N from rfl] at q0
  rw [show (⟨B.data.toList.toArray⟩ : ByteArray) = B from rfl] at q1
  rw [show ((⟨5, [45], 0⟩ :: r) : List Tk).length = 5 by rw [List.length_cons, HR4.out]]
  clear hc hb6 h6 hO c5
  go_wp2_with fail
  go_quiet (fail)
  all_goals
    go_wp2_with fail
    go_ret
    exact ⟨rfl, below_drewN c6 _⟩

theorem walk (n : Int) (s : ByteArray) (b : Bool) (n1 : -9223372036854775808 ≤ n) (n2 : n ≤ 9223372036854775807) (hs : s.size ≤ maxLen) (w : World) (hT : TabsX w) :
    Calls Tryz.prog 7 #[.int .i64 n, .string s, .bool b] w fun e w' => e = .returned (.bool true) ∧ Below w.heap.size w w' := by
  obtain ⟨m, hm⟩ : ∃ m, m = min s.size 50 := ⟨_, rfl⟩
  have sA : (s.extract 0 m).size = m := by rw [ByteArray.size_extract]; omega
  have r1 : rightB 2 n 0 ⟨#[]⟩ = true := by simp [rightB]
  have r2 : rightB 4 0 0 (s.extract 0 m) = true := by simp [rightB]
  have r3 : rightB 1 (b01 b) 0 ⟨#[]⟩ = true := by cases b <;> simp [rightB, b01]
  have T1 := fun w => rtxt_right 2 n 0 ⟨#[]⟩ n1 n2 (by decide) (by decide) r1 w
  have T2 := fun w => rtxt_right 4 0 0 (s.extract 0 m) (by decide) (by decide) (by decide) (by omega) r2 w
  have T3 := fun w => rtxt_right 1 (b01 b) 0 ⟨#[]⟩ (by cases b <;> decide) (by cases b <;> decide) (by decide) (by decide) r3 w
  have e1 : textV 2 n 0 ⟨#[]⟩ = Lib.itoa n := by simp [textV]
  have e2 : textV 4 0 0 (s.extract 0 m) = 39 :: escL (s.extract 0 m).data.toList ++ [39] := by simp [textV]
  have e3 : textV 1 (b01 b) 0 ⟨#[]⟩ = if b = true then [116, 114, 117, 101] else [102, 97, 108, 115, 101] := by cases b <;> simp [textV, b01]
  rw [e1] at T1
  rw [e2] at T2
  rw [e3] at T3
  have l1 := itoa_len20 n n1 n2
  have l2 := escL_len (s.extract 0 m).data.toList
  rw [lx_len] at l2
  have l3 : (if b = true then ([116, 114, 117, 101] : Bt) else [102, 97, 108, 115, 101]).length ≤ 5 := by cases b <;> decide
  have sz1 := tk_size (Lib.itoa n)
  have sz2 := tk_size (39 :: escL (s.extract 0 m).data.toList ++ [39])
  have sz3 := tk_size (if b = true then [116, 114, 117, 101] else [102, 97, 108, 115, 101])
  have sz2' : (39 :: escL (s.extract 0 m).data.toList ++ [39]).length ≤ 102 := by rw [List.length_append, List.length_cons, List.length_singleton]; omega
  by_cases h : 0 ≤ n
  · obtain ⟨r, hr, ha⟩ := toks_pos h n2 (s.extract 0 m) b
    refine core0 n s _ b m (by omega) (by omega) rfl ⟨(Lib.itoa n).toArray⟩ ⟨(39 :: escL (s.extract 0 m).data.toList ++ [39]).toArray⟩ ⟨(if b = true then [116, 114, 117, 101] else [102, 97, 108, 115, 101]).toArray⟩ _ rfl (by omega) (by omega) (by omega) ⟨(Lib.itoa n).toArray⟩ (ba_of (by rw [lx_ext_drop]; rfl)) (by simp; omega) (by omega) T1 T2 T3 r ?_ ha w hT
    rw [← hr]; congr 1; simp
  · obtain ⟨r, hr, ha⟩ := toks_neg (show n < 0 by omega) n1 (s.extract 0 m) b
    refine core1 n s _ b m (by omega) (by omega) rfl ⟨(Lib.itoa n).toArray⟩ ⟨(39 :: escL (s.extract 0 m).data.toList ++ [39]).toArray⟩ ⟨(if b = true then [116, 114, 117, 101] else [102, 97, 108, 115, 101]).toArray⟩ _ rfl (by omega) (by omega) (by omega) ⟨(Lib.decDigits n.natAbs).toArray⟩ (ba_of (by rw [lx_ext_drop]; show (Lib.itoa n).drop 1 = _; rw [itoa_neg (by omega)]; rfl)) (by simp; omega) (by rw [sz1, itoa_neg (by omega)]; simp only [List.length_cons]; omega) T1 T2 T3 r ?_ ha w hT
    rw [← hr]; congr 1; simp
end Go.Proofs.YtainigcchlgehaaGreatDoor.LexNumbers
