import Derived.Test.YtnjlcdemfdokoaaGreatDoorVo
namespace Go.Proofs.YtnjlcdemfdokoaaGreatDoor
open Go Go.RowKit
set_option linter.unusedVariables false
/-- the byte that is meant behind a backslash -/
def escB (d : UInt8) : Option UInt8 := if d = 92 ∨ d = 39 then some d else if d = 110 then some 10 else none
def escT : Option UInt8 → Value
  | some c => .tuple #[.int .u8 (c.toNat : Int), .bool true]
  | none => .tuple #[.int .u8 0, .bool false]
theorem esc_empty (t : ByteArray) (h : (t.toList == []) = true) (h' : t.toList.isEmpty = true) (w : World) : Calls Tryz.prog 110 #[.string t] w fun e w' => e = .returned (.tuple #[.int .u8 0, .bool false]) ∧ w = w' := by
  go_enter Tryz.func110, Tryz.ntmps110
  go_wp2_with fail
  go_ret2
  exact ⟨rfl, rfl⟩
theorem esc_core (t : ByteArray) (h : (t.toList == []) = false) (h' : t.toList.isEmpty = false) (h0 : 0 < t.size) (a b c : Bool) (ha : ((t[0].toNat : Int) == 92) = a) (hb : ((t[0].toNat : Int) == 39) = b) (hc : ((t[0].toNat : Int) == 110) = c) (w : World) :
    Calls Tryz.prog 110 #[.string t] w fun e w' => e = .returned (if (a || b) = true then .tuple #[.int .u8 (t[0].toNat : Int), .bool true] else if c = true then .tuple #[.int .u8 10, .bool true] else .tuple #[.int .u8 0, .bool false]) ∧ w = w' := by
  cases a <;> cases b <;> cases c
  all_goals
    go_enter Tryz.func110, Tryz.ntmps110
    go_wp2_with fail
    go_ret2
    exact ⟨rfl, rfl⟩
theorem esc_any (t : ByteArray) (w : World) : Calls Tryz.prog 110 #[.string t] w fun e w' => e = .returned (escT (t.data.toList.head?.bind escB)) ∧ w = w' := by
  have el : t.toList = t.data.toList := Lib.toList_data t
  by_cases hz : t.size = 0
  · have hn : t.data.toList = [] := List.eq_nil_of_length_eq_zero (by simpa using hz)
    rw [hn]
    exact esc_empty t (by rw [el, hn]; rfl) (by rw [el, hn]; rfl) w
  · have h0 : 0 < t.size := by omega
    have hg := get_at t 0 h0
    have hne : t.data.toList ≠ [] := fun q => hz (by have := congrArg List.length q; simpa using this)
    refine (esc_core t (by rw [el]; simpa using hne) (by rw [el]; simpa using hne) h0 _ _ _ rfl rfl rfl w).mono fun e w' ⟨he, hw⟩ => ⟨?_, hw⟩
    rw [he, List.head?_eq_getElem?, hg]
    congr 1
    simp only [Option.bind, escB]
    have q1 : ((t[0].toNat : Int) == 92) = true ↔ t[0] = 92 := by rw [beq_iff_eq, ← UInt8.toNat_inj]; simp; omega
    have q2 : ((t[0].toNat : Int) == 39) = true ↔ t[0] = 39 := by rw [beq_iff_eq, ← UInt8.toNat_inj]; simp; omega
    have q3 : ((t[0].toNat : Int) == 110) = true ↔ t[0] = 110 := by rw [beq_iff_eq, ← UInt8.toNat_inj]; simp; omega
    simp only [Bool.or_eq_true]
    by_cases c1 : t[0] = 92 ∨ t[0] = 39
    · rw [if_pos c1, if_pos (by rcases c1 with c | c; exact Or.inl (q1.2 c); exact Or.inr (q2.2 c))]; rfl
    · rw [if_neg c1, if_neg (fun q => c1 (by rcases q with c | c; exact Or.inl (q1.1 c); exact Or.inr (q2.1 c)))]
      by_cases c2 : t[0] = 110
      · rw [if_pos c2, if_pos (q3.2 c2)]; rfl
      · rw [if_neg c2, if_neg (fun q => c2 (q3.1 q))]; rfl
/-- the text in quotes: what is read so far, the place -/
def rq : Nat → List UInt8 → List UInt8 → Nat → Option (List UInt8 × Nat)
  | 0, _, _, _ => none
  | _ + 1, [], _, _ => none
  | g + 1, c :: l, acc, i => if c = 39 then some (acc, i + 1) else if c = 10 then none else if c = 92 then (match l with
      | [] => none
      | d :: l' => match escB d with
        | some e => rq g l' (acc ++ [e]) (i + 2)
        | none => none) else rq g l (acc ++ [c]) (i + 1)
def rqTuple : Option (List UInt8 × Nat) → Value
  | some (t, n) => .tuple #[.agg #[.int .i64 4, .int .i64 0, .float .f64 0, .string ⟨t.toArray⟩], .int .i64 (n : Int), .bool true]
  | none => .tuple #[.agg #[.int .i64 0, .int .i64 0, .float .f64 0, .string ⟨#[]⟩], .int .i64 0, .bool false]
theorem drop_cons {l : List UInt8} {i : Nat} {c : UInt8} (h : l[i]? = some c) : l.drop i = c :: l.drop (i + 1) := by
  obtain ⟨hi, rfl⟩ := List.getElem?_eq_some_iff.1 h
  exact List.drop_eq_getElem_cons hi
theorem ext_drop0 (s : ByteArray) (p : Nat) : (s.extract p s.size).data.toList = s.data.toList.drop p := by
  rw [Lib.extract_data]; simp [List.take_of_length_le]
theorem bc_snoc (acc : List UInt8) (c : UInt8) : Lib.byteCells acc ++ [.int .u8 (c.toNat : Int)] = Lib.byteCells (acc ++ [c]) := by simp [Lib.byteCells]
set_option maxHeartbeats 1000000 in
theorem rquoted_any (s : ByteArray) (h1 : 1 ≤ s.size) (hs : s.size ≤ 1000000) (w : World) :
    Calls Tryz.prog 68 #[.string s] w fun e w' => e = .returned (rqTuple (rq (s.size + 1) (s.data.toList.drop 1) [] 1)) ∧ Below w.heap.size w w' := by
  have hsf := run_store_float
  obtain ⟨T, hT⟩ : ∃ T, T = rq (s.size + 1) (s.data.toList.drop 1) [] 1 := ⟨_, rfl⟩
  rw [← hT]
  have HT := Lib.hid hT
  clear hT
  have c0 := below_a1 w N0
  go_enter Tryz.func68, Tryz.ntmps68
  go_wp2_with fail
  go_loopg [6, 7, 8] (s.size + 1) (fun g s6 s7 s8 wr => ∃ (i : Nat) (acc : List UInt8), 1 ≤ i ∧ i ≤ s.size ∧ s.size < g + i ∧ s6 = .int .i64 i ∧ acc.length ≤ i ∧ rq g (s.data.toList.drop i) acc i = T ∧ Lib.IsBuilder 107 5 (w.heap.size + 1) (w.heap.size + 1) (Lib.byteCells acc) wr ∧ Below (w.heap.size + 1) (w.alloc N0) wr ∧ w.heap.size + 1 ≤ wr.heap.size)
  case atStart =>
    refine ⟨1, [], by omega, by omega, by omega, rfl, by simp, HT.out.symm, ?_, ?_, ?_⟩
    · have := Lib.fresh_isBuilder 107 5 (w.alloc N0)
      rw [show (w.alloc N0).heap.size = w.heap.size + 1 from by simp] at this
      exact this
    · have := below_a1 (w.alloc N0) (.cells #[.pointer none, .slice none 0 0] 107)
      rw [show (w.alloc N0).heap.size = w.heap.size + 1 from by simp] at this
      exact this
    · simp
  case round =>
    obtain ⟨i, acc, i1, i2, hg, rfl, ha, hr, hI, hb, hz⟩ := hrel
    have HR := Lib.hid hr
    clear hr
    have hb' : Below (w.alloc N0).heap.size (w.alloc N0) wr := by simpa using hb
    obtain ⟨hc, hf⟩ := bcell hb'
    have hzz : w.heap.size < wr.heap.size := by omega
    by_cases hlt : i < s.size
    · have hi := get_at s i hlt
      have hd := drop_cons hi
      obtain ⟨g', rfl⟩ : ∃ g', gk = g' + 1 := ⟨gk - 1, by omega⟩
      have hr2 := HR.out
      rw [hd] at hr2
      simp only [rq] at hr2
      have HR2 := Lib.hid hr2
      clear hr2 hi hd
      have il : (i : Int) < (s.size : Int) := by omega
      have q1 : ((s[i].toNat : Int) == 39) = true ↔ s[i] = 39 := by rw [beq_iff_eq, ← UInt8.toNat_inj]; simp; omega
      have q2 : ((s[i].toNat : Int) == 10) = true ↔ s[i] = 10 := by rw [beq_iff_eq, ← UInt8.toNat_inj]; simp; omega
      have q3 : ((s[i].toNat : Int) == 92) = true ↔ s[i] = 92 := by rw [beq_iff_eq, ← UInt8.toNat_inj]; simp; omega
      by_cases e1 : s[i] = 39
      · have b1 := q1.2 e1
        have r := HR2.out
        rw [if_pos e1] at r
        have HRR := Lib.hid r
        clear q1 q2 q3 e1 r HR2 HR
        have BS := Tryz.Builder_String_any (w.heap.size + 1) (w.heap.size + 1) acc wr hI hz
        go_wp2_with fail
        refine BS.mono ?_; rintro e w1 ⟨rfl, hb1⟩
        have cB : Below (w.heap.size + 1) (w.alloc N0) w1 := hb.trans hb1
        go_wp2_with fail
        refine (vtext_any _ _).mono ?_; rintro e w2 ⟨rfl, hb2⟩
        have cC : Below (w.heap.size + 1) (w.alloc N0) w2 := cB.trans (hb2.mono (by have := hb1.size; omega))
        have cD : Below (w.alloc N0).heap.size (w.alloc N0) w2 := by rw [show (w.alloc N0).heap.size = w.heap.size + 1 from by simp]; exact cC
        obtain ⟨hc2, hf2⟩ := bcell cD
        clear hc hf BS
        go_wp2_with fail
        rw [← HRR.out]
        exact ret_vnb rfl rfl rfl rfl rfl (((lies1 _ _ _ _ _).below cD).set _ _ _ _) ⟨rfl, below_set4 (Below.chain c0 cD) (by omega) _ _ _ _⟩
      have b1 : ((s[i].toNat : Int) == 39) = false := Bool.eq_false_iff.2 fun q => e1 (q1.1 q)
      by_cases e2 : s[i] = 10
      · have b2 := q2.2 e2
        have r := HR2.out
        rw [if_neg e1, if_pos e2] at r
        have HRR := Lib.hid r
        clear q1 q2 q3 e1 e2 r HR2 HR
        go_wp2_with fail
        rw [← HRR.out]
        exact ret_vnb rfl rfl rfl rfl rfl (((lies1 _ _ _ _ _).below hb').set _ _ _ _) ⟨rfl, below_set4 (Below.chain c0 hb') (by omega) _ _ _ _⟩
      have b2 : ((s[i].toNat : Int) == 10) = false := Bool.eq_false_iff.2 fun q => e2 (q2.1 q)
      by_cases e3 : s[i] = 92
      · have b3 := q3.2 e3
        have r := HR2.out
        rw [if_neg e1, if_neg e2, if_pos e3] at r
        have HRR := Lib.hid r
        clear q1 q2 q3 e1 e2 e3 r HR2 HR
        have ES := esc_any (s.extract (i + 1) s.size)
        rw [ext_drop0] at ES
        have il2 : (i : Int) + 1 ≤ (s.size : Int) := by omega
        by_cases hend : i + 1 = s.size
        · have hnil : s.data.toList.drop (i + 1) = [] := List.drop_eq_nil_of_le (by simp; omega)
          have r := HRR.out
          rw [hnil] at r ES
          simp only [List.head?_nil, Option.bind, escT] at r ES
          have HRS := Lib.hid r
          clear r hnil HRR hend
          go_wp2_with fail
          refine (ES _).mono ?_; rintro e w' ⟨rfl, rfl⟩
          go_wp2_with fail
          rw [← HRS.out]
          exact ret_vnb rfl rfl rfl rfl rfl (((lies1 _ _ _ _ _).below hb').set _ _ _ _) ⟨rfl, below_set4 (Below.chain c0 hb') (by omega) _ _ _ _⟩
        · have hlt2 : i + 1 < s.size := by omega
          have hcons := drop_cons (get_at s (i + 1) hlt2)
          have r := HRR.out
          rw [hcons] at r ES
          simp only [List.head?_cons, Option.bind] at r ES
          obtain ⟨d, hd⟩ : ∃ d, d = s[i + 1] := ⟨_, rfl⟩
          rw [← hd] at r ES
          clear hcons hd hend
          cases he : escB d with
          | none =>
            rw [he] at r ES
            simp only [escT] at r ES
            have HRS := Lib.hid r
            clear r HRR he
            go_wp2_with fail
            refine (ES _).mono ?_; rintro e w' ⟨rfl, rfl⟩
            go_wp2_with fail
            rw [← HRS.out]
            exact ret_vnb rfl rfl rfl rfl rfl (((lies1 _ _ _ _ _).below hb').set _ _ _ _) ⟨rfl, below_set4 (Below.chain c0 hb') (by omega) _ _ _ _⟩
          | some x =>
            rw [he] at r ES
            simp only [escT] at r ES
            have HRS := Lib.hid r
            clear r HRR he
            have WB := Tryz.Builder_WriteByte (w.heap.size + 1) (w.heap.size + 1) (Lib.byteCells acc) (x.toNat : Int) wr hI (by rw [Lib.byteCells_length]; omega) hz
            rw [bc_snoc] at WB
            go_wp2_with fail
            refine (ES _).mono ?_; rintro e w' ⟨rfl, rfl⟩
            go_wp2_with fail
            refine WB.mono ?_; rintro e w1 ⟨rfl, hB, hb1⟩
            go_wp2_with fail
            go_roundg g'
            case measure => omega
            case rel => exact ⟨i + 2, acc ++ [x], by omega, by omega, by omega, by go_num, by simp; omega, HRS.out, Or.inr hB, hb.trans hb1, by have := hb1.size; omega⟩
      · have b3 : ((s[i].toNat : Int) == 92) = false := Bool.eq_false_iff.2 fun q => e3 (q3.1 q)
        have r := HR2.out
        rw [if_neg e1, if_neg e2, if_neg e3] at r
        have HRR := Lib.hid r
        clear q1 q2 q3 e1 e2 e3 r HR2 HR
        have WB := Tryz.Builder_WriteByte (w.heap.size + 1) (w.heap.size + 1) (Lib.byteCells acc) (s[i].toNat : Int) wr hI (by rw [Lib.byteCells_length]; omega) hz
        rw [bc_snoc] at WB
        go_wp2_with fail
        refine WB.mono ?_; rintro e w1 ⟨rfl, hB, hb1⟩
        go_wp2_with fail
        go_roundg g'
        case measure => omega
        case rel => exact ⟨i + 1, acc ++ [s[i]], by omega, by omega, by omega, by go_num, by simp; omega, HRR.out, Or.inr hB, hb.trans hb1, by have := hb1.size; omega⟩
    · have hi : i = s.size := by omega
      have ij : decide ((i : Int) < (s.size : Int)) = false := by simp; omega
      have ij' : decide (i < s.size) = false := by simpa using hlt
      go_wp2_with fail
      have hr2 := HR.out
      rw [List.drop_eq_nil_of_le (by simp; omega)] at hr2
      obtain ⟨g', rfl⟩ : ∃ g', gk = g' + 1 := ⟨gk - 1, by omega⟩
      simp only [rq] at hr2
      rw [← hr2]
      exact ret_vnb rfl rfl rfl rfl rfl (((lies1 _ _ _ _ _).below hb').set _ _ _ _) ⟨rfl, below_set4 (Below.chain c0 hb') (by omega) _ _ _ _⟩
end Go.Proofs.YtnjlcdemfdokoaaGreatDoor
