import Derived.Test.YtainigcchlgehaaGreatDoorB4
import Derived.Test.YtainigcchlgehaaGreatDoorB2
namespace Go.Proofs.YtainigcchlgehaaGreatDoor
open Go Go.RowKit
set_option linter.unusedVariables false
/-- the byte that is meant behind a backslash -/
def escB (d : UInt8) : Option UInt8 := if d = 92 ∨ d = 39 then some d else if d = 110 then some 10 else none
def escT : Option UInt8 → Value
  | some c => .tuple #[.int .u8 (c.toNat : Int), .bool true]
  | none => .tuple #[.int .u8 0, .bool false]
theorem esc_empty (t : ByteArray) (h : (t.toList == []) = true) (h' : t.toList.isEmpty = true) (w : World) : Calls Tryz.prog 67 #[.string t] w fun e w' => e = .returned (.tuple #[.int .u8 0, .bool false]) ∧ w = w' := by
  go_enter Tryz.func67, Tryz.ntmps67
  go_wp2_with fail
  go_ret2
  exact ⟨rfl, rfl⟩
theorem esc_core (t : ByteArray) (h : (t.toList == []) = false) (h' : t.toList.isEmpty = false) (h0 : 0 < t.size) (a b c : Bool) (ha : ((t[0].toNat : Int) == 92) = a) (hb : ((t[0].toNat : Int) == 39) = b) (hc : ((t[0].toNat : Int) == 110) = c) (w : World) :
    Calls Tryz.prog 67 #[.string t] w fun e w' => e = .returned (if (a || b) = true then .tuple #[.int .u8 (t[0].toNat : Int), .bool true] else if c = true then .tuple #[.int .u8 10, .bool true] else .tuple #[.int .u8 0, .bool false]) ∧ w = w' := by
  cases a <;> cases b <;> cases c
  all_goals
    go_enter Tryz.func67, Tryz.ntmps67
    go_wp2_with fail
    go_ret2
    exact ⟨rfl, rfl⟩
theorem esc_any (t : ByteArray) (w : World) : Calls Tryz.prog 67 #[.string t] w fun e w' => e = .returned (escT (t.data.toList.head?.bind escB)) ∧ w = w' := by
  have el : t.toList = t.data.toList := Lib.toList_data t
  by_cases hz : t.size = 0
  · have hn : t.data.toList = [] := List.eq_nil_of_length_eq_zero (by simpa using hz)
    rw [hn]
    exact esc_empty t (by rw [el, hn]; rfl) (by rw [el, hn]; rfl) w
  · have h0 : 0 < t.size := by omega
    have hg := get_at t 0 h0
    have hne : t.data.toList ≠ [] := fun q => hz (by have := congrArg List.length q; simpa using this)
    refine (esc_core t (by rw [el]; simpa using hne) (by rw [el]; simpa using hne) h0 _ _ _ rfl rfl rfl w).mono fun e w' ⟨he, hw⟩ => ⟨?_, hw⟩
    rw [he, List.head?_eq_getElem?, hg]
    congr 1
    simp only [Option.bind, escB]
    have q1 : ((t[0].toNat : Int) == 92) = true ↔ t[0] = 92 := by rw [beq_iff_eq, ← UInt8.toNat_inj]; simp; omega
    have q2 : ((t[0].toNat : Int) == 39) = true ↔ t[0] = 39 := by rw [beq_iff_eq, ← UInt8.toNat_inj]; simp; omega
    have q3 : ((t[0].toNat : Int) == 110) = true ↔ t[0] = 110 := by rw [beq_iff_eq, ← UInt8.toNat_inj]; simp; omega
    simp only [Bool.or_eq_true]
    by_cases c1 : t[0] = 92 ∨ t[0] = 39
    · rw [if_pos c1, if_pos (by rcases c1 with c | c; exact Or.inl (q1.2 c); exact Or.inr (q2.2 c))]; rfl
    · rw [if_neg c1, if_neg (fun q => c1 (by rcases q with c | c; exact Or.inl (q1.1 c); exact Or.inr (q2.1 c)))]
      by_cases c2 : t[0] = 110
      · rw [if_pos c2, if_pos (q3.2 c2)]; rfl
      · rw [if_neg c2, if_neg (fun q => c2 (q3.1 q))]; rfl
/-- the text in quotes: what is read so far, the place -/
def rq : Nat → List UInt8 → List UInt8 → Nat → Option (List UInt8 × Nat)
  | 0, _, _, _ => none
  | _ + 1, [], _, _ => none
  | g + 1, c :: l, acc, i => if c = 39 then some (acc, i + 1) else if c = 10 then none else if c = 92 then (match l with
      | [] => none
      | d :: l' => match escB d with
        | some e => rq g l' (acc ++ [e]) (i + 2)
        | none => none) else rq g l (acc ++ [c]) (i + 1)
def rqTuple : Option (List UInt8 × Nat) → Value
  | some (t, n) => .tuple #[.agg #[.int .i64 4, .int .i64 0, .float .f64 0, .string ⟨t.toArray⟩], .int .i64 (n : Int), .bool true]
  | none => .tuple #[.agg #[.int .i64 0, .int .i64 0, .float .f64 0, .string ⟨#[]⟩], .int .i64 0, .bool false]
theorem drop_cons {l : List UInt8} {i : Nat} {c : UInt8} (h : l[i]? = some c) : l.drop i = c :: l.drop (i + 1) := by
  obtain ⟨hi, rfl⟩ := List.getElem?_eq_some_iff.1 h
  exact List.drop_eq_getElem_cons hi
theorem ext_drop0 (s : ByteArray) (p : Nat) : (s.extract p s.size).data.toList = s.data.toList.drop p := by
  rw [Lib.extract_data]; simp [List.take_of_length_le]
theorem bc_snoc (acc : List UInt8) (c : UInt8) : Lib.byteCells acc ++ [.int .u8 (c.toNat : Int)] = Lib.byteCells (acc ++ [c]) := by simp [Lib.byteCells]
set_option maxHeartbeats 1000000 in
theorem rquoted_any (s : ByteArray) (h1 : 1 ≤ s.size) (hs : s.size ≤ 1000000) (w : World) :
    Calls Tryz.prog 52 #[.string s] w fun e w' => e = .returned (rqTuple (rq (s.size + 1) (s.data.toList.drop 1) [] 1)) ∧ Below w.heap.size w w' := by
  have hsf := run_store_float
  obtain ⟨T, hT⟩ : ∃ T, T = rq (s.size + 1) (s.data.toList.drop 1) [] 1 := ⟨_, rfl⟩
  rw [← hT]
  have HT := Lib.hid hT
  clear hT
  have c0 := below_a1 w N0
  go_enter Tryz.func52, Tryz.ntmps52
  go_wp2_with fail
  go_loopg [6, 7, 8] (s.size + 1) (fun g s6 s7 s8 wr => ∃ (i : Nat) (acc : List UInt8), 1 ≤ i ∧ i ≤ s.size ∧ s.size < g + i ∧ s6 = .int .i64 i ∧ acc.length ≤ i ∧ rq g (s.data.toList.drop i) acc i = T ∧ Lib.IsBuilder 54 5 (w.heap.size + 1) (w.heap.size + 1) (Lib.byteCells acc) wr ∧ Below (w.heap.size + 1) (w.alloc N0) wr ∧ w.heap.size + 1 ≤ wr.heap.size)
  case atStart =>
    refine ⟨1, [], by omega, by omega, by omega, rfl, by simp, HT.out.symm, ?_, ?_, ?_⟩
    · have := Lib.fresh_isBuilder 54 5 (w.alloc N0)
      rw [show (w.alloc N0).heap.size = w.heap.size + 1 from by simp] at this
      exact this
    · have := below_a1 (w.alloc N0) (.cells #[.pointer none, .slice none 0 0] 54)
      rw [show (w.alloc N0).heap.size = w.heap.size + 1 from by simp] at this
      exact this
    · simp
  case round =>
    obtain ⟨i, acc, i1, i2, hg, rfl, ha, hr, hI, hb, hz⟩ := hrel
    have HR := Lib.hid hr
    clear hr
    have hb' : Below (w.alloc N0).heap.size (w.alloc N0) wr := by simpa using hb
    obtain ⟨hc, hf⟩ := bcell hb'
    have hzz : w.heap.size < wr.heap.size := by omega
    by_cases hlt : i < s.size
    · have hi := get_at s i hlt
      have hd := drop_cons hi
      obtain ⟨g', rfl⟩ : ∃ g', gk = g' + 1 := ⟨gk - 1, by omega⟩
      have hr2 := HR.out
      rw [hd] at hr2
      simp only [rq] at hr2
      have HR2 := Lib.hid hr2
      clear hr2 hi hd
      have il : (i : Int) < (s.size : Int) := by omega
      have q1 : ((s[i].toNat : Int) == 39) = true ↔ s[i] = 39 := by rw [beq_iff_eq, ← UInt8.toNat_inj]; simp; omega
      have q2 : ((s[i].toNat : Int) == 10) = true ↔ s[i] = 10 := by rw [beq_iff_eq, ← UInt8.toNat_inj]; simp; omega
      have q3 : ((s[i].toNat : Int) == 92) = true ↔ s[i] = 92 := by rw [beq_iff_eq, ← UInt8.toNat_inj]; simp; omega
      by_cases e1 : s[i] = 39
      · have b1 := q1.2 e1
        have r := HR2.out
        rw [if_pos e1] at r
        have HRR := Lib.hid r
        clear q1 q2 q3 e1 r HR2 HR
        have BS := Tryz.Builder_String_any (w.heap.size + 1) (w.heap.size + 1) acc wr hI hz
        go_wp2_with fail
        refine BS.mono ?_; rintro e w1 ⟨rfl, hb1⟩
        have cB : Below (w.heap.size + 1) (w.alloc N0) w1 := hb.trans hb1
        go_wp2_with fail
        refine (vtext_any _ _).mono ?_; rintro e w2 ⟨rfl, hb2⟩
        have cC : Below (w.heap.size + 1) (w.alloc N0) w2 := cB.trans (hb2.mono (by have := hb1.size; omega))
        have cD : Below (w.alloc N0).heap.size (w.alloc N0) w2 := by rw [show (w.alloc N0).heap.size = w.heap.size + 1 from by simp]; exact cC
        obtain ⟨hc2, hf2⟩ := bcell cD
        clear hc hf BS
        go_wp2_with fail
        rw [← HRR.out]
        exact ret_vnb rfl rfl rfl rfl rfl (((lies1 _ _ _ _ _).below cD).set _ _ _ _) ⟨rfl, below_set4 (Below.chain c0 cD) (by omega) _ _ _ _⟩
      have b1 : ((s[i].toNat : Int) == 39) = false := Bool.eq_false_iff.2 fun q => e1 (q1.1 q)
      by_cases e2 : s[i] = 10
      · have b2 := q2.2 e2
        have r := HR2.out
        rw [if_neg e1, if_pos e2] at r
        have HRR := Lib.hid r
        clear q1 q2 q3 e1 e2 r HR2 HR
        go_wp2_with fail
        rw [← HRR.out]
        exact ret_vnb rfl rfl rfl rfl rfl (((lies1 _ _ _ _ _).below hb').set _ _ _ _) ⟨rfl, below_set4 (Below.chain c0 hb') (by omega) _ _ _ _⟩
      have b2 : ((s[i].toNat : Int) == 10) = false := Bool.eq_false_iff.2 fun q => e2 (q2.1 q)
      by_cases e3 : s[i] = 92
      · have b3 := q3.2 e3
        have r := HR2.out
        rw [if_neg e1, if_neg e2, if_pos e3] at r
        have HRR := Lib.hid r
        clear q1 q2 q3 e1 e2 e3 r HR2 HR
        have ES := esc_any (s.extract (i + 1) s.size)
        rw [ext_drop0] at ES
        have il2 : (i : Int) + 1 ≤ (s.size : Int) := by omega
        by_cases hend : i + 1 = s.size
        · have hnil : s.data.toList.drop (i + 1) = [] := List.drop_eq_nil_of_le (by simp; omega)
          have r := HRR.out
          rw [hnil] at r ES
          simp only [List.head?_nil, Option.bind, escT] at r ES
          have HRS := Lib.hid r
          clear r hnil HRR hend
          go_wp2_with fail
          refine (ES _).mono ?_; rintro e w' ⟨rfl, rfl⟩
          go_wp2_with fail
          rw [← HRS.out]
          exact ret_vnb rfl rfl rfl rfl rfl (((lies1 _ _ _ _ _).below hb').set _ _ _ _) ⟨rfl, below_set4 (Below.chain c0 hb') (by omega) _ _ _ _⟩
        · have hlt2 : i + 1 < s.size := by omega
          have hcons := drop_cons (get_at s (i + 1) hlt2)
          have r := HRR.out
          rw [hcons] at r ES
          simp only [List.head?_cons, Option.bind] at r ES
          obtain ⟨d, hd⟩ : ∃ d, d = s[i + 1] := ⟨_, rfl⟩
          rw [← hd] at r ES
          clear hcons hd hend
          cases he : escB d with
          | none =>
            rw [he] at r ES
            simp only [escT] at r ES
            have HRS := Lib.hid r
            clear r HRR he
            go_wp2_with fail
            refine (ES _).mono ?_; rintro e w' ⟨rfl, rfl⟩
            go_wp2_with fail
            rw [← HRS.out]
            exact ret_vnb rfl rfl rfl rfl rfl (((lies1 _ _ _ _ _).below hb').set _ _ _ _) ⟨rfl, below_set4 (Below.chain c0 hb') (by omega) _ _ _ _⟩
          | some x =>
            rw [he] at r ES
            simp only [escT] at r ES
            have HRS := Lib.hid r
            clear r HRR he
            have WB := Tryz.Builder_WriteByte (w.heap.size + 1) (w.heap.size + 1) (Lib.byteCells acc) (x.toNat : Int) wr hI (by rw [Lib.byteCells_length]; omega) hz
            rw [bc_snoc] at WB
            go_wp2_with fail
            refine (ES _).mono ?_; rintro e w' ⟨rfl, rfl⟩
            go_wp2_with fail
            refine WB.mono ?_; rintro e w1 ⟨rfl, hB, hb1⟩
            go_wp2_with fail
            go_roundg g'
            case measure => omega
            case rel => exact ⟨i + 2, acc ++ [x], by omega, by omega, by omega, by go_num, by simp; omega, HRS.out, Or.inr hB, hb.trans hb1, by have := hb1.size; omega⟩
      · have b3 : ((s[i].toNat : Int) == 92) = false := Bool.eq_false_iff.2 fun q => e3 (q3.1 q)
        have r := HR2.out
        rw [if_neg e1, if_neg e2, if_neg e3] at r
        have HRR := Lib.hid r
        clear q1 q2 q3 e1 e2 e3 r HR2 HR
        have WB := Tryz.Builder_WriteByte (w.heap.size + 1) (w.heap.size + 1) (Lib.byteCells acc) (s[i].toNat : Int) wr hI (by rw [Lib.byteCells_length]; omega) hz
        rw [bc_snoc] at WB
        go_wp2_with fail
        refine WB.mono ?_; rintro e w1 ⟨rfl, hB, hb1⟩
        go_wp2_with fail
        go_roundg g'
        case measure => omega
        case rel => exact ⟨i + 1, acc ++ [s[i]], by omega, by omega, by omega, by go_num, by simp; omega, HRR.out, Or.inr hB, hb.trans hb1, by have := hb1.size; omega⟩
    · have hi : i = s.size := by omega
      have ij : decide ((i : Int) < (s.size : Int)) = false := by simp; omega
      have ij' : decide (i < s.size) = false := by simpa using hlt
      go_wp2_with fail
      have hr2 := HR.out
      rw [List.drop_eq_nil_of_le (by simp; omega)] at hr2
      obtain ⟨g', rfl⟩ : ∃ g', gk = g' + 1 := ⟨gk - 1, by omega⟩
      simp only [rq] at hr2
      rw [← hr2]
      exact ret_vnb rfl rfl rfl rfl rfl (((lies1 _ _ _ _ _).below hb').set _ _ _ _) ⟨rfl, below_set4 (Below.chain c0 hb') (by omega) _ _ _ _⟩
end Go.Proofs.YtainigcchlgehaaGreatDoor
namespace Go.Proofs.YtainigcchlgehaaGreatDoor
open Go Go.RowKit
set_option linter.unusedVariables false
theorem rd_quote (s : ByteArray) (h1 : 1 ≤ s.size) (hs : s.size ≤ 1000000) (hq : Lib.hasPrefix s.data.toList [39] = true) (w : World) :
    Calls Tryz.prog 31 #[.string s] w fun e w' => e = .returned (rqTuple (rq (s.size + 1) (s.data.toList.drop 1) [] 1)) ∧ Below w.heap.size w w' := by
  have hsf := run_store_float
  have HP := Tryz.strings_HasPrefix s ⟨#[39]⟩
  rw [hq] at HP
  clear hq
  have RQ := rquoted_any s h1 hs
  cases hr : rq (s.size + 1) (s.data.toList.drop 1) [] 1 with
  | none =>
    rw [hr] at RQ
    simp only [rqTuple] at RQ ⊢
    clear hr
    go_enter Tryz.func31, Tryz.ntmps31
    go_wp2_with fail
    refine (HP _).mono ?_; rintro e w' ⟨rfl, rfl⟩
    go_wp2_with fail
    refine (RQ _).mono ?_; rintro e w1 ⟨rfl, hb⟩
    obtain ⟨hc, hf⟩ := bcell hb
    have hz : w.heap.size < w1.heap.size := by have := hb.size; simp at this; omega
    go_wp2_with fail
    exact ret_vnb rfl rfl rfl rfl rfl (((lies1 _ _ _ _ _).below hb).set _ _ _ _) ⟨rfl, below_set4 (Below.chain (below_a1 _ _) hb) (by omega) _ _ _ _⟩
  | some v =>
    obtain ⟨t, m⟩ := v
    rw [hr] at RQ
    simp only [rqTuple] at RQ ⊢
    clear hr
    go_enter Tryz.func31, Tryz.ntmps31
    go_wp2_with fail
    refine (HP _).mono ?_; rintro e w' ⟨rfl, rfl⟩
    go_wp2_with fail
    refine (RQ _).mono ?_; rintro e w1 ⟨rfl, hb⟩
    obtain ⟨hc, hf⟩ := bcell hb
    have hz : w.heap.size < w1.heap.size := by have := hb.size; simp at this; omega
    go_wp2_with fail
    exact ret_vnb rfl rfl rfl rfl rfl (((lies1 _ _ _ _ _).below hb).set _ _ _ _) ⟨rfl, below_set4 (Below.chain (below_a1 _ _) hb) (by omega) _ _ _ _⟩
/-- what Read tells: how long, kind, number, float, text -/
def vrdSem (l : List UInt8) : Option (Nat × Int × Int × Nat × List UInt8) :=
  if Lib.hasPrefix l [39] = true then (rq (l.length + 1) (l.drop 1) [] 1).map fun p => (p.2, 4, 0, 0, p.1) else (findR l (runN 23 l)).map fun p => (p.1, p.2.1, p.2.2.1, p.2.2.2, [])
def vrdTuple : Option (Nat × Int × Int × Nat × List UInt8) → Value
  | some (m, k, n, f, t) => .tuple #[.agg #[.int .i64 k, .int .i64 n, .float .f64 f, .string ⟨t.toArray⟩], .int .i64 (m : Int), .bool true]
  | none => .tuple #[.agg #[.int .i64 0, .int .i64 0, .float .f64 0, .string ⟨#[]⟩], .int .i64 0, .bool false]
theorem hp_iff (l : List UInt8) : Lib.hasPrefix l [39] = true ↔ l.head? = some 39 := by
  cases l with
  | nil => simp [Lib.hasPrefix]
  | cons c l =>
    simp [Lib.hasPrefix]
    exact ⟨fun h => h.symm, fun h => h.symm⟩
theorem vread_any (s : ByteArray) (hs : s.size ≤ 1000000) (w : World) (hT : Tabs w) :
    Calls Tryz.prog 31 #[.string s] w fun e w' => e = .returned (vrdTuple (vrdSem s.data.toList)) ∧ Below w.heap.size w w' := by
  unfold vrdSem
  by_cases hq : Lib.hasPrefix s.data.toList [39] = true
  · rw [if_pos hq]
    have h1 : 1 ≤ s.size := by
      rcases Nat.eq_zero_or_pos s.size with h | h
      · have hn : s.data.toList = [] := List.eq_nil_of_length_eq_zero (by simpa using h)
        rw [hn] at hq; simp [Lib.hasPrefix] at hq
      · exact h
    refine (rd_quote s h1 hs hq w).mono fun e w' ⟨he, hw⟩ => ⟨?_, hw⟩
    rw [he]
    have el : s.data.toList.length = s.size := by simp
    rw [el]
    cases rq (s.size + 1) (s.data.toList.drop 1) [] 1 <;> rfl
  · rw [if_neg hq]
    refine (rd_plain s (by omega) (by simpa using hq) w hT).mono fun e w' ⟨he, hw⟩ => ⟨?_, hw⟩
    rw [he]
    cases findR s.data.toList (runN 23 s.data.toList) <;> rfl
theorem runN_app (x : List UInt8) : ∀ (m : Nat) (l : List UInt8), runN m (l ++ 32 :: x) = runN m l
  | 0, _ => by simp [runN]
  | m + 1, [] => by simp [runN, plainB]
  | m + 1, c :: l => by simp [runN, runN_app x m l]
theorem findR_app (r l : List UInt8) : ∀ n, n ≤ l.length → findR (l ++ r) n = findR l n
  | 0, _ => rfl
  | n + 1, h => by
    simp only [findR]
    rw [List.take_append_of_le_length h, findR_app r l n (by omega)]
theorem findR_some (l : List UInt8) : ∀ (R n : Nat) (v : Int × Int × Nat), findR l R = some (n, v) → n ≤ R ∧ 1 ≤ n ∧ rpSem (l.take n) = some v
  | 0, _, _, h => by simp [findR] at h
  | R + 1, n, v, h => by
    simp only [findR] at h
    cases hr : rpSem (l.take (R + 1)) with
    | some u => rw [hr] at h; simp at h; obtain ⟨rfl, rfl⟩ := h; exact ⟨by omega, by omega, hr⟩
    | none =>
      rw [hr] at h
      obtain ⟨a, b, c⟩ := findR_some l R n v h
      exact ⟨by omega, b, c⟩
theorem runN_take : ∀ (m n : Nat) (l : List UInt8), n ≤ runN m l → runN m (l.take n) = n
  | 0, n, l, h => by simp [runN] at h ⊢; omega
  | m + 1, 0, l, h => by simp [runN]
  | m + 1, n + 1, [], h => by simp [runN] at h
  | m + 1, n + 1, c :: l, h => by
    simp only [runN] at h
    split at h
    · rename_i hc
      simp only [List.take_succ_cons, runN, hc, if_true]
      rw [runN_take m n l (by omega)]
    · omega
theorem rq_some : ∀ (g : Nat) (l acc : List UInt8) (i : Nat) (t : List UInt8) (n : Nat), rq g l acc i = some (t, n) → i < n ∧ n - i ≤ l.length ∧ ∀ g' r, n - i ≤ g' → rq g' (l.take (n - i) ++ r) acc i = some (t, n)
  | 0, _, _, _, _, _, h => by simp [rq] at h
  | g + 1, [], _, _, _, _, h => by simp [rq] at h
  | g + 1, c :: l, acc, i, t, n, h => by
    simp only [rq] at h
    by_cases c1 : c = 39
    · rw [if_pos c1] at h
      simp at h
      obtain ⟨rfl, rfl⟩ := h
      refine ⟨by omega, by simp, fun g' r hg => ?_⟩
      obtain ⟨g'', rfl⟩ : ∃ g'', g' = g'' + 1 := ⟨g' - 1, by omega⟩
      rw [show i + 1 - i = 1 from by omega]
      simp [rq, c1]
    rw [if_neg c1] at h
    by_cases c2 : c = 10
    · rw [if_pos c2] at h; cases h
    rw [if_neg c2] at h
    by_cases c3 : c = 92
    · rw [if_pos c3] at h
      cases l with
      | nil => simp at h
      | cons d l' =>
        simp only at h
        cases he : escB d with
        | none => rw [he] at h; simp at h
        | some e =>
          rw [he] at h
          simp only at h
          obtain ⟨a, b, cc⟩ := rq_some g l' (acc ++ [e]) (i + 2) t n h
          refine ⟨by omega, by simp; omega, fun g' r hg => ?_⟩
          obtain ⟨g'', rfl⟩ : ∃ g'', g' = g'' + 1 := ⟨g' - 1, by omega⟩
          rw [show n - i = (n - (i + 2)) + 1 + 1 from by omega]
          simp only [List.take_succ_cons, List.cons_append, rq]
          rw [if_neg c1, if_neg c2, if_pos c3, he]
          exact cc g'' r (by omega)
    · rw [if_neg c3] at h
      obtain ⟨a, b, cc⟩ := rq_some g l (acc ++ [c]) (i + 1) t n h
      refine ⟨by omega, by simp; omega, fun g' r hg => ?_⟩
      obtain ⟨g'', rfl⟩ : ∃ g'', g' = g'' + 1 := ⟨g' - 1, by omega⟩
      rw [show n - i = (n - (i + 1)) + 1 from by omega]
      simp only [List.take_succ_cons, List.cons_append, rq]
      rw [if_neg c1, if_neg c2, if_neg c3]
      exact cc g'' r (by omega)
/-- what is read at the beginning is read, whatever stands behind a blank; and alone -/
theorem vrd_more (l x : List UInt8) (n : Nat) (v : Int × Int × Nat × List UInt8) (h : vrdSem l = some (n, v)) : 1 ≤ n ∧ n ≤ l.length ∧ vrdSem (l ++ 32 :: x) = some (n, v) ∧ vrdSem (l.take n) = some (n, v) := by
  unfold vrdSem at h
  by_cases hq : Lib.hasPrefix l [39] = true
  · rw [if_pos hq] at h
    have hh := (hp_iff l).1 hq
    obtain ⟨c, l', rfl⟩ : ∃ c l', l = c :: l' := by cases l with | nil => simp at hh | cons c l' => exact ⟨c, l', rfl⟩
    simp only [List.head?_cons, Option.some.injEq] at hh
    subst hh
    cases hr : rq ((39 :: l').length + 1) ((39 :: l').drop 1) [] 1 with
    | none => rw [hr] at h; simp at h
    | some p =>
      obtain ⟨t, m⟩ := p
      rw [hr] at h
      simp at h
      obtain ⟨rfl, rfl⟩ := h
      simp only [List.drop_succ_cons, List.drop_zero] at hr
      obtain ⟨a, b, c⟩ := rq_some _ _ _ _ _ _ hr
      have e : m = (m - 1) + 1 := by omega
      refine ⟨by omega, by simp; omega, ?_, ?_⟩
      · unfold vrdSem
        rw [if_pos (by rw [hp_iff]; simp)]
        have := c ((39 :: l' ++ 32 :: x).length + 1) (l'.drop (m - 1) ++ 32 :: x) (by simp; omega)
        rw [← List.append_assoc, List.take_append_drop] at this
        simp only [List.cons_append, List.drop_succ_cons, List.drop_zero]
        simp only [List.cons_append] at this
        rw [this]
        rfl
      · unfold vrdSem
        rw [e, List.take_succ_cons, if_pos (by rw [hp_iff]; simp)]
        have := c ((39 :: l'.take (m - 1)).length + 1) [] (by simp; omega)
        rw [List.append_nil] at this
        simp only [List.drop_succ_cons, List.drop_zero]
        rw [this]
        simp; omega
  · rw [if_neg hq] at h
    cases hr : findR l (runN 23 l) with
    | none => rw [hr] at h; simp at h
    | some p =>
      obtain ⟨m, u⟩ := p
      rw [hr] at h
      simp at h
      obtain ⟨rfl, rfl⟩ := h
      obtain ⟨a, b, c⟩ := findR_some l _ _ _ hr
      have hl := (runN_le 23 l).2
      have hne : l ≠ [] := fun q => by rw [q] at hl a; simp at hl; omega
      refine ⟨b, by omega, ?_, ?_⟩
      · unfold vrdSem
        rw [if_neg (by rw [hp_iff]; rw [hp_iff] at hq; cases l with | nil => exact absurd rfl hne | cons d l' => simpa using hq), runN_app, findR_app _ _ _ hl, hr]
        rfl
      · unfold vrdSem
        obtain ⟨m', rfl⟩ : ∃ m', m = m' + 1 := ⟨m - 1, by omega⟩
        rw [if_neg (by rw [hp_iff]; rw [hp_iff] at hq; cases l with | nil => exact absurd rfl hne | cons d l' => simpa using hq), runN_take 23 (m' + 1) l a]
        simp only [findR]
        rw [List.take_take, Nat.min_self, c]
        rfl
end Go.Proofs.YtainigcchlgehaaGreatDoor
namespace Go.Proofs.YtainigcchlgehaaGreatDoor
open Go Go.RowKit
set_option linter.unusedVariables false
/-- a byte as it is written between quotes -/
def escW (c : UInt8) : List UInt8 := if c = 92 ∨ c = 39 then [92, c] else if c = 10 then [92, 110] else [c]
def escL : List UInt8 → List UInt8
  | [] => []
  | c :: l => escW c ++ escL l
theorem escL_app (a b : List UInt8) : escL (a ++ b) = escL a ++ escL b := by
  induction a with
  | nil => rfl
  | cons c a ih => simp [escL, ih]
theorem escW_len (c : UInt8) : (escW c).length ≤ 2 := by unfold escW; (repeat' split) <;> simp
theorem escL_len (l : List UInt8) : (escL l).length ≤ 2 * l.length := by
  induction l with
  | nil => simp [escL]
  | cons c l ih => have := escW_len c; simp [escL]; omega
theorem take_snoc (s : ByteArray) (k : Nat) (h : k < s.size) : s.data.toList.take (k + 1) = s.data.toList.take k ++ [s[k]] := by
  rw [List.take_succ_eq_append_getElem (by simpa using h)]; rfl
theorem bc_two : Lib.strCells ⟨#[92, 110]⟩ = Lib.byteCells [92, 110] := rfl
theorem bc_app (a b : List UInt8) : Lib.byteCells a ++ Lib.byteCells b = Lib.byteCells (a ++ b) := (Lib.byteCells_append a b).symm
end Go.Proofs.YtainigcchlgehaaGreatDoor
namespace Go.Proofs.YtainigcchlgehaaGreatDoor
open Go Go.RowKit
set_option linter.unusedVariables false
theorem dec_len_pw : ∀ (k n : Nat), n < 10 ^ (k + 1) → (Lib.decDigits n).length ≤ k + 1
  | 0, n, h => by rw [Lib.decDigits_one (by simpa using h)]; simp
  | k + 1, n, h => by
    by_cases h10 : n < 10
    · rw [Lib.decDigits_one h10]; simp
    · rw [Lib.decDigits, dif_neg h10]
      rw [Nat.pow_succ] at h
      have := dec_len_pw k (n / 10) (by omega)
      simp
      omega
theorem pi64_itoa {x : Int} (h1 : -9223372036854775808 ≤ x) (h2 : x ≤ 9223372036854775807) : Lib.parseIntB 64 (Lib.itoa x) = .ok x := by
  have e : (2 : Nat) ^ 64 - 1 = 18446744073709551615 := by decide
  have e' : (2 : Nat) ^ (64 - 1) = 9223372036854775808 := by decide
  by_cases hx : x < 0
  · have hi : Lib.itoa x = 45 :: Lib.decDigits x.natAbs := by unfold Lib.itoa; rw [if_pos hx]
    rw [hi]
    unfold Lib.parseIntB
    simp only []
    rw [if_pos (Or.inr (by decide))]
    have hp : Lib.parseUintB 64 (Lib.decDigits x.natAbs) = .ok x.natAbs := by
      unfold Lib.parseUintB
      rw [if_neg (dec_ne _), e]
      exact parseM_dec 18446744073709551615 (by decide) _ (by omega)
    rw [hp]
    simp only []
    rw [if_neg (by intro h; exact h.1 (by decide)), if_neg (by rw [e']; intro h; omega), if_pos (by decide)]
    congr 1
    omega
  · have hi : Lib.itoa x = Lib.decDigits x.toNat := by unfold Lib.itoa; rw [if_neg hx]
    rw [hi]
    have hp : Lib.parseUintB 64 (Lib.decDigits x.toNat) = .ok x.toNat := by
      unfold Lib.parseUintB
      rw [if_neg (dec_ne _), e]
      exact parseM_dec 18446744073709551615 (by decide) _ (by omega)
    have hd := dec_digits x.toNat
    have hne := dec_ne x.toNat
    generalize Lib.decDigits x.toNat = l at *
    cases l with
    | nil => exact absurd rfl hne
    | cons c r =>
      have hc := hd c (by simp)
      unfold Lib.parseIntB
      simp only []
      rw [if_neg (by omega), hp]
      simp only []
      rw [if_neg (by rw [e']; intro h; omega), if_neg (by intro h; omega), if_neg (by omega)]
      congr 1
      omega
/-- a value, written -/
def textV (k n : Int) (f : Nat) (s : ByteArray) : List UInt8 :=
  if k = 0 then [110, 117, 108, 108] else if k = 1 then (if n = 1 then [116, 114, 117, 101] else [102, 97, 108, 115, 101]) else if k = 2 then Lib.itoa n else if k = 3 then Flt.text f else 39 :: escL s.data.toList ++ [39]
/-- a text without quotes, with a blank behind, is read -/
theorem plain_read (t x : List UInt8) (v : Int × Int × Nat) (hp : ∀ c ∈ t, plainB c = true) (h1 : 1 ≤ t.length) (h2 : t.length ≤ 23) (hr : rpSem t = some v) : vrdSem (t ++ 32 :: x) = some (t.length, v.1, v.2.1, v.2.2, []) := by
  have hrun : runN 23 t = t.length := runN_at 23 t t.length h2 (Nat.le_refl _) (fun j hj => ⟨t[j], List.getElem?_eq_getElem hj, hp _ (List.getElem_mem hj)⟩) (Or.inr (Or.inl rfl))
  unfold vrdSem
  have hne : ¬ Lib.hasPrefix (t ++ 32 :: x) [39] = true := by
    rw [hp_iff]
    cases t with
    | nil => simp at h1
    | cons c t =>
      simp
      intro hc
      have := hp c (by simp)
      rw [hc] at this
      exact absurd this (by decide)
  rw [if_neg hne, runN_app, hrun, findR_app _ _ _ (Nat.le_refl _)]
  obtain ⟨m, hm⟩ : ∃ m, t.length = m + 1 := ⟨t.length - 1, by omega⟩
  rw [hm]
  simp only [findR]
  rw [← hm, List.take_length, hr]
  rfl
theorem plain_digit {c : UInt8} (h : 48 ≤ c.toNat ∧ c.toNat ≤ 57) : plainB c = true := by
  unfold plainB
  simp [UInt8.le_iff_toNat_le]
  omega
theorem plain_itoa (x : Int) : ∀ c ∈ Lib.itoa x, plainB c = true := by
  intro c hc
  unfold Lib.itoa at hc
  split at hc
  · rcases List.mem_cons.1 hc with rfl | h
    · decide
    · exact plain_digit (dec_digits _ c h)
  · exact plain_digit (dec_digits _ c hc)
theorem itoa_chars (x : Int) : ∀ c ∈ Lib.itoa x, c.toNat ≤ 57 := by
  intro c hc
  unfold Lib.itoa at hc
  split at hc
  · rcases List.mem_cons.1 hc with rfl | h
    · decide
    · exact (dec_digits _ c h).2
  · exact (dec_digits _ c hc).2
theorem itoa_pos (x : Int) : 1 ≤ (Lib.itoa x).length := by
  unfold Lib.itoa
  split
  · simp
  · have := dec_ne x.toNat
    cases h : Lib.decDigits x.toNat with
    | nil => exact absurd h this
    | cons c l => simp
theorem rp_itoa (x : Int) (h1 : -9223372036854775808 ≤ x) (h2 : x ≤ 9223372036854775807) : rpSem (Lib.itoa x) = some (2, x, 0) := by
  have hc := itoa_chars x
  have n1 : Lib.itoa x ≠ [110, 117, 108, 108] := fun q => by have := hc 110 (by rw [q]; simp); exact absurd this (by decide)
  have n2 : Lib.itoa x ≠ [102, 97, 108, 115, 101] := fun q => by have := hc 102 (by rw [q]; simp); exact absurd this (by decide)
  have n3 : Lib.itoa x ≠ [116, 114, 117, 101] := fun q => by have := hc 116 (by rw [q]; simp); exact absurd this (by decide)
  unfold rpSem
  rw [if_neg n1, if_neg n2, if_neg n3, pi64_itoa h1 h2]
  simp
/-- a float's text: plain bytes, a letter among them, at most twenty-three -/
theorem ftext_facts (a : Nat) (ha : a < 18446744073709551616) : (∀ c ∈ Flt.text a, plainB c = true) ∧ (∃ c ∈ Flt.text a, 97 ≤ c.toNat) ∧ 1 ≤ (Flt.text a).length ∧ (Flt.text a).length ≤ 23 ∧ Flt.text a ≠ [110, 117, 108, 108] ∧ Flt.text a ≠ [102, 97, 108, 115, 101] ∧ Flt.text a ≠ [116, 114, 117, 101] := by
  by_cases hn : Flt.isNan a = true
  · have e : Flt.text a = [110, 97, 110] := by unfold Flt.text; rw [if_pos hn]
    rw [e]
    refine ⟨by decide, ⟨110, by simp, by decide⟩, by decide, by decide, by decide, by decide, by decide⟩
  by_cases h1 : a = 9218868437227405312
  · have e : Flt.text a = [105, 110, 102] := by unfold Flt.text; rw [if_neg hn, if_pos h1]
    rw [e]
    refine ⟨by decide, ⟨110, by simp, by decide⟩, by decide, by decide, by decide, by decide, by decide⟩
  by_cases h2 : a = 18442240474082181120
  · have e : Flt.text a = [45, 105, 110, 102] := by unfold Flt.text; rw [if_neg hn, if_neg h1, if_pos h2]
    rw [e]
    refine ⟨by decide, ⟨110, by simp, by decide⟩, by decide, by decide, by decide, by decide, by decide⟩
  have hn' : Flt.isNan a = false := by simpa using hn
  have hr : Flt.rung a < 9218868437227405312 := by
    unfold Flt.isNan Flt.rung at hn'
    unfold Flt.rung
    simp at hn'
    omega
  have e : Flt.text a = (if Flt.neg a = true then [45] else []) ++ (Lib.decDigits (Flt.oddM (Flt.rung a)) ++ (112 :: Lib.itoa (Flt.oddE (Flt.rung a)))) := by unfold Flt.text; rw [if_neg hn, if_neg h1, if_neg h2]
  have hM := Flt.oddM_lt (Flt.rung a)
  have hE := Flt.oddE_bounds hr
  have p16 : (10 : Nat) ^ (15 + 1) = 10000000000000000 := by decide
  have lM : (Lib.decDigits (Flt.oddM (Flt.rung a))).length ≤ 16 := dec_len_pw 15 _ (by omega)
  have lE : (Lib.itoa (Flt.oddE (Flt.rung a))).length ≤ 5 := by
    unfold Lib.itoa
    have e4 : (10 : Nat) ^ (3 + 1) = 10000 := by decide
    split
    · have := dec_len_pw 3 (Flt.oddE (Flt.rung a)).natAbs (by omega)
      simp; omega
    · have := dec_len_pw 3 (Flt.oddE (Flt.rung a)).toNat (by omega)
      omega
  have hp : (112 : UInt8) ∈ Flt.text a := by rw [e]; simp
  refine ⟨?_, ⟨112, hp, by decide⟩, ?_, ?_, ?_, ?_, ?_⟩
  · rw [e]
    intro c hc
    rcases List.mem_append.1 hc with h | h
    · split at h
      · simp at h; subst h; decide
      · simp at h
    · rcases List.mem_append.1 h with h | h
      · exact plain_digit (dec_digits _ c h)
      · rcases List.mem_cons.1 h with rfl | h
        · decide
        · exact plain_itoa _ c h
  · rw [e]; simp; omega
  · rw [e]
    have : (if Flt.neg a = true then [(45 : UInt8)] else []).length ≤ 1 := by split <;> simp
    simp only [List.length_append, List.length_cons]
    omega
  · intro q; rw [q] at hp; exact absurd hp (by decide)
  · intro q; rw [q] at hp; exact absurd hp (by decide)
  · intro q; rw [q] at hp; exact absurd hp (by decide)
theorem rp_float (a : Nat) (ha : a < 18446744073709551616) (hc : Flt.canon a = a) : rpSem (Flt.text a) = some (3, 0, a) := by
  obtain ⟨_, ⟨c, hm, hl⟩, _, _, n1, n2, n3⟩ := ftext_facts a ha
  unfold rpSem
  rw [if_neg n1, if_neg n2, if_neg n3, parseSem_text ha, hc]
  split
  · rename_i v _
    rw [if_neg (fun q => by have := itoa_chars v c (by rw [q]; exact hm); omega)]
    rfl
  · rfl
theorem rq_write (r : List UInt8) : ∀ (u acc : List UInt8) (g i : Nat), u.length < g → rq g (escL u ++ 39 :: r) acc i = some (acc ++ u, i + (escL u).length + 1)
  | [], acc, g, i, h => by
    obtain ⟨g', rfl⟩ : ∃ g', g = g' + 1 := ⟨g - 1, by omega⟩
    simp [escL, rq]
  | c :: u, acc, g, i, h => by
    obtain ⟨g', rfl⟩ : ∃ g', g = g' + 1 := ⟨g - 1, by simp at h; omega⟩
    have ih := rq_write r u (acc ++ [c]) g'
    simp at h
    by_cases c1 : c = 92 ∨ c = 39
    · have e : escW c = [92, c] := by unfold escW; rw [if_pos c1]
      have hb : escB c = some c := by unfold escB; rw [if_pos c1]
      simp only [escL, e, List.cons_append, List.nil_append, rq]
      rw [if_neg (by decide), if_neg (by decide), if_pos trivial]
      simp only [hb]
      rw [ih (i + 2) (by omega)]
      simp; omega
    · by_cases c2 : c = 10
      · have e : escW c = [92, 110] := by unfold escW; rw [if_neg c1, if_pos c2]
        simp only [escL, e, List.cons_append, List.nil_append, rq]
        rw [if_neg (by decide), if_neg (by decide), if_pos trivial]
        have hb : escB 110 = some 10 := by decide
        simp only [hb]
        rw [← c2, ih (i + 2) (by omega)]
        simp; omega
      · have e : escW c = [c] := by unfold escW; rw [if_neg c1, if_neg c2]
        simp only [escL, e, List.cons_append, List.nil_append, rq]
        rw [if_neg (fun q => c1 (Or.inr q)), if_neg c2, if_neg (fun q => c1 (Or.inl q)), ih (i + 1) (by omega)]
        simp; omega
theorem rq_read : ∀ (g : Nat) (l acc : List UInt8) (i : Nat) (t : List UInt8) (n : Nat), rq g l acc i = some (t, n) → ∃ u, t = acc ++ u ∧ l.take (n - i) = escL u ++ [39]
  | 0, _, _, _, _, _, h => by simp [rq] at h
  | g + 1, [], _, _, _, _, h => by simp [rq] at h
  | g + 1, c :: l, acc, i, t, n, h => by
    have hs := rq_some (g + 1) (c :: l) acc i t n h
    simp only [rq] at h
    by_cases c1 : c = 39
    · rw [if_pos c1] at h
      simp at h
      obtain ⟨rfl, rfl⟩ := h
      exact ⟨[], by simp, by rw [show i + 1 - i = 1 from by omega]; simp [escL, c1]⟩
    rw [if_neg c1] at h
    by_cases c2 : c = 10
    · rw [if_pos c2] at h; cases h
    rw [if_neg c2] at h
    by_cases c3 : c = 92
    · rw [if_pos c3] at h
      cases l with
      | nil => simp at h
      | cons d l' =>
        simp only at h
        cases he : escB d with
        | none => rw [he] at h; simp at h
        | some e =>
          rw [he] at h
          simp only at h
          obtain ⟨u, rfl, hu⟩ := rq_read g l' (acc ++ [e]) (i + 2) t n h
          have h3 := (rq_some g l' (acc ++ [e]) (i + 2) _ n h).1
          refine ⟨e :: u, by simp, ?_⟩
          rw [show n - i = (n - (i + 2)) + 1 + 1 from by omega]
          simp only [List.take_succ_cons, hu, escL]
          have : escW e = [92, d] := by
            unfold escB at he
            split at he
            · rename_i hd
              simp at he; subst he
              unfold escW; rw [if_pos hd]
            · split at he
              · rename_i hd
                simp at he; subst he; subst hd
                decide
              · cases he
          rw [this, c3]; simp
    · rw [if_neg c3] at h
      obtain ⟨u, rfl, hu⟩ := rq_read g l (acc ++ [c]) (i + 1) t n h
      have h3 := (rq_some g l (acc ++ [c]) (i + 1) _ n h).1
      refine ⟨c :: u, by simp, ?_⟩
      rw [show n - i = (n - (i + 1)) + 1 from by omega]
      simp only [List.take_succ_cons, hu, escL]
      have : escW c = [c] := by unfold escW; rw [if_neg (by intro q; rcases q with q | q; exact c3 q; exact c1 q), if_neg c2]
      rw [this]; simp
/-- what is written, with a blank behind, is read -/
theorem fwd (k n : Int) (f : Nat) (s : ByteArray) (x : List UInt8) (n1 : -9223372036854775808 ≤ n) (n2 : n ≤ 9223372036854775807) (hf : f < 18446744073709551616) (r : rightB k n f s = true) : vrdSem (textV k n f s ++ 32 :: x) = some ((textV k n f s).length, k, n, f, s.data.toList) := by
  have el : s.toList = s.data.toList := Lib.toList_data s
  unfold rightB at r
  by_cases k0 : k = 0
  · subst k0
    simp [el] at r
    obtain ⟨rfl, rfl, r3⟩ := r
    rw [r3]
    exact plain_read [110, 117, 108, 108] x (0, 0, 0) (by decide) (by decide) (by decide) (by simp [rpSem])
  rw [if_neg k0] at r
  by_cases k1 : k = 1
  · subst k1
    simp [el] at r
    obtain ⟨r1, rfl, r3⟩ := r
    rw [r3]
    rcases r1 with rfl | rfl
    · exact plain_read [102, 97, 108, 115, 101] x (1, 0, 0) (by decide) (by decide) (by decide) (by simp [rpSem])
    · exact plain_read [116, 114, 117, 101] x (1, 1, 0) (by decide) (by decide) (by decide) (by simp [rpSem])
  rw [if_neg k1] at r
  by_cases k2 : k = 2
  · subst k2
    simp [el] at r
    obtain ⟨rfl, r3⟩ := r
    rw [r3]
    exact plain_read (Lib.itoa n) x (2, n, 0) (plain_itoa n) (itoa_pos n) (by have := Flt.itoa_len n1 n2; omega) (rp_itoa n n1 n2)
  rw [if_neg k2] at r
  by_cases k3 : k = 3
  · subst k3
    simp [el] at r
    obtain ⟨rfl, r2, r3⟩ := r
    rw [r3]
    obtain ⟨a, _, b, c, _⟩ := ftext_facts f hf
    exact plain_read (Flt.text f) x (3, 0, f) a b c (rp_float f hf r2.symm)
  rw [if_neg k3] at r
  by_cases k4 : k = 4
  · subst k4
    simp at r
    obtain ⟨rfl, rfl⟩ := r
    have et : textV 4 0 0 s = 39 :: (escL s.data.toList ++ [39]) := rfl
    rw [et]
    unfold vrdSem
    rw [if_pos (by rw [hp_iff]; simp)]
    simp only [List.cons_append, List.drop_succ_cons, List.drop_zero, List.append_assoc, List.nil_append]
    have hl : s.data.toList.length ≤ (escL s.data.toList).length := by
      generalize s.data.toList = l
      induction l with
      | nil => simp
      | cons c l ih => have : 1 ≤ (escW c).length := by unfold escW; (repeat' split) <;> simp
                       simp [escL]; omega
    rw [rq_write (32 :: x) s.data.toList [] _ 1 (by simp only [List.length_cons, List.length_append]; omega)]
    simp; omega
  · rw [if_neg k4] at r; cases r
/-- what is read is right, and its text is what stands there -/
theorem bwd (l : List UInt8) (m : Nat) (k n : Int) (f : Nat) (t : List UInt8) (h : vrdSem l = some (m, k, n, f, t)) : rightB k n f ⟨t.toArray⟩ = true ∧ textV k n f ⟨t.toArray⟩ = l.take m ∧ -9223372036854775808 ≤ n ∧ n ≤ 9223372036854775807 ∧ t.length ≤ l.length := by
  have el : ∀ t : List UInt8, (ByteArray.mk t.toArray).toList = t := fun t => by rw [Lib.toList_data]
  unfold vrdSem at h
  by_cases hq : Lib.hasPrefix l [39] = true
  · rw [if_pos hq] at h
    have hh := (hp_iff l).1 hq
    obtain ⟨c, l', rfl⟩ : ∃ c l', l = c :: l' := by cases l with | nil => simp at hh | cons c l' => exact ⟨c, l', rfl⟩
    simp only [List.head?_cons, Option.some.injEq] at hh
    subst hh
    cases hr : rq ((39 :: l').length + 1) ((39 :: l').drop 1) [] 1 with
    | none => rw [hr] at h; simp at h
    | some p =>
      obtain ⟨t', m'⟩ := p
      rw [hr] at h
      simp at h
      obtain ⟨rfl, rfl, rfl, rfl, rfl⟩ := h
      simp only [List.drop_succ_cons, List.drop_zero] at hr
      obtain ⟨u, hu1, hu2⟩ := rq_read _ _ _ _ _ _ hr
      simp at hu1
      subst hu1
      obtain ⟨a, b, _⟩ := rq_some _ _ _ _ _ _ hr
      refine ⟨by simp [rightB], ?_, by decide, by decide, ?_⟩
      · obtain ⟨q, rfl⟩ : ∃ q, m' = q + 1 := ⟨m' - 1, by omega⟩
        rw [List.take_succ_cons, ← (show q + 1 - 1 = q from by omega), hu2]
        rfl
      · have hl : t'.length ≤ (escL t').length := by
          generalize t' = l
          induction l with
          | nil => simp
          | cons c l ih => have : 1 ≤ (escW c).length := by unfold escW; (repeat' split) <;> simp
                           simp [escL]; omega
        have := congrArg List.length hu2
        simp at this ⊢
        omega
  · rw [if_neg hq] at h
    cases hr : findR l (runN 23 l) with
    | none => rw [hr] at h; simp at h
    | some p =>
      obtain ⟨m', k', n', f'⟩ := p
      rw [hr] at h
      simp at h
      obtain ⟨rfl, rfl, rfl, rfl, rfl⟩ := h
      obtain ⟨_, _, c⟩ := findR_some l _ _ _ hr
      generalize l.take m' = L at c ⊢
      have fl : ∀ {g}, (parseSem L).map (fun f => ((3 : Int), (0 : Int), f)) = some g → g = (k', n', f') → rightB k' n' f' ⟨#[]⟩ = true ∧ textV k' n' f' ⟨#[]⟩ = L ∧ -9223372036854775808 ≤ n' ∧ n' ≤ 9223372036854775807 := fun {g} h1 h2 => by
        cases hq : parseSem L with
        | none => rw [hq] at h1; cases h1
        | some y =>
          rw [hq] at h1
          simp at h1
          rw [← h1] at h2
          simp at h2
          obtain ⟨rfl, rfl, rfl⟩ := h2
          obtain ⟨a, b, c⟩ := parseSem_some hq
          exact ⟨by simp [rightB, c], by simp [textV, b], by decide, by decide⟩
      have main : rightB k' n' f' ⟨#[]⟩ = true ∧ textV k' n' f' ⟨#[]⟩ = L ∧ -9223372036854775808 ≤ n' ∧ n' ≤ 9223372036854775807 := by
        unfold rpSem at c
        split at c
        · rename_i e; simp at c; obtain ⟨rfl, rfl, rfl⟩ := c; exact ⟨by simp [rightB], by simp [textV, e], by decide, by decide⟩
        split at c
        · rename_i e; simp at c; obtain ⟨rfl, rfl, rfl⟩ := c; exact ⟨by simp [rightB], by simp [textV, e], by decide, by decide⟩
        split at c
        · rename_i e; simp at c; obtain ⟨rfl, rfl, rfl⟩ := c; exact ⟨by simp [rightB], by simp [textV, e], by decide, by decide⟩
        split at c
        · rename_i v hv
          split at c
          · rename_i e; simp at c; obtain ⟨rfl, rfl, rfl⟩ := c
            have := pi64_le hv
            exact ⟨by simp [rightB], by simp [textV, e], this.1, this.2⟩
          · exact fl c rfl
        · exact fl c rfl
      exact ⟨main.1, main.2.1, main.2.2.1, main.2.2.2, by simp⟩
end Go.Proofs.YtainigcchlgehaaGreatDoor


