import Derived.Test.YtainigcchlgehaaGreatDoorXE
namespace Go.Proofs.YtainigcchlgehaaGreatDoor
open Go Go.ChangeShapes Go.WideShapes Go.ChangeAt Go.RowKit
open Go.Joins
set_option linter.unusedVariables false
theorem findS_le (l : Bt) : ∀ S : List Bt, findS l S ≤ l.length
  | [] => Nat.zero_le _
  | s :: t => by
    rw [findS_cons]
    split
    · rename_i h
      have : s <+: l := List.isPrefixOf_iff_prefix.1 h
      exact this.length_le
    · exact findS_le l t
theorem numN_le (l : Bt) : numN l ≤ l.length := by
  unfold numN
  have h1 := vrd_le l
  have h2 := vrd_le (45 :: l)
  simp only [List.length_cons] at h2
  omega
theorem wordF_le (l : Bt) : (wordF l).2 ≤ l.length := by
  have := runP_le l
  unfold wordF
  split
  · exact Nat.zero_le _
  · split <;> exact this
theorem firstF_cons (c : UInt8) (t : Bt) : firstF (c :: t) = if digitB c.toNat = true then (3, numN (c :: t)) else if begB c.toNat = true then wordF (c :: t) else if c = 39 then (4, szR (vrdSem (c :: t))) else (5, signN (c :: t)) := rfl
theorem firstF_le : ∀ l : Bt, (firstF l).2 ≤ l.length
  | [] => Nat.le_refl _
  | c :: t => by
    rw [firstF_cons]
    split
    · exact numN_le _
    · split
      · exact wordF_le _
      · split
        · exact vrd_le _
        · exact findS_le _ _
theorem wordF_kind (l : Bt) : (wordF l).1 = 1 ∨ (wordF l).1 = 2 := by
  unfold wordF
  split
  · exact .inl rfl
  · split
    · exact .inr rfl
    · exact .inl rfl
theorem firstF_kind (c : UInt8) (t : Bt) : 1 ≤ (firstF (c :: t)).1 ∧ (firstF (c :: t)).1 ≤ 5 := by
  rw [firstF_cons]
  split
  · exact ⟨(by decide : 1 ≤ 3), (by decide : 3 ≤ 5)⟩
  · split
    · have := wordF_kind (c :: t); omega
    · split
      · exact ⟨(by decide : 1 ≤ 4), (by decide : 4 ≤ 5)⟩
      · exact ⟨(by decide : 1 ≤ 5), (by decide : 5 ≤ 5)⟩
theorem firstF_at (s : ByteArray) (hp : 0 < s.size) : firstF s.data.toList = if digitB s[0].toNat = true then (3, numN s.data.toList) else if begB s[0].toNat = true then wordF s.data.toList
    else if s[0] = 39 then (4, szR (vrdSem s.data.toList)) else (5, signN s.data.toList) := by
  have hl := lx_drop s 0 hp
  simp only [List.drop_zero] at hl
  conv => lhs; rw [hl]
  rw [firstF_cons, ← hl]
set_option maxHeartbeats 1000000 in
set_option maxRecDepth 100000 in
theorem lxfirst_any (s : ByteArray) (hs : s.size ≤ 1000000) (hp : 0 < s.size) (w : World) (hT : TabsX w) : Calls Tryz.prog 17 #[.string s] w fun e w' => e = .returned (.tuple #[.int .i64 ((firstF s.data.toList).1 : Nat), .int .i64 ((firstF s.data.toList).2 : Nat)]) ∧ Below w.heap.size w w' := by
  have HFA := Lib.hid (firstF_at s hp)
  have HD := Lib.hid (lxdigit_any s[0].toNat)
  have i0 : (0 : Int) < (s.size : Int) := by omega
  by_cases hd : digitB s[0].toNat = true
  · have HF := Lib.hid (show firstF s.data.toList = (3, numN s.data.toList) by rw [HFA.out, if_pos hd])
    have HN := Lib.hid (lxnumber_any s hp hd w hT.tabs)
    have HQ := Lib.hid hd
    clear hd
    go_enter Tryz.func17, Tryz.ntmps17
    go_wp2_with fail
    refine (HD.out _).mono ?_; rintro e w1 ⟨rfl, rfl⟩
    rw [HQ.out]
    go_wp2_with fail
    refine HN.out.mono ?_; rintro e w2 ⟨rfl, hb⟩
    go_wp2_with fail
    go_ret2
    exact ⟨by rw [HF.out]; rfl, hb⟩
  have hd' : digitB s[0].toNat = false := by simpa using hd
  have HQ := Lib.hid hd'
  have HL := Lib.hid (lxletter_any (s.extract 0 1))
  have HLE := Lib.hid (word_ext1 s 0 hp)
  have i1 : (1 : Int) ≤ (s.size : Int) := by omega
  by_cases hb : begB s[0].toNat = true
  · have HF := Lib.hid (show firstF s.data.toList = wordF s.data.toList by rw [HFA.out, if_neg hd, if_pos hb])
    have HW := Lib.hid (lxword_any s hs)
    have HQ2 := Lib.hid hb
    clear hd hb hd'
    go_enter Tryz.func17, Tryz.ntmps17
    go_wp2_with fail
    refine (HD.out _).mono ?_; rintro e w1 ⟨rfl, rfl⟩
    rw [HQ.out]
    go_wp2_with fail
    refine (HL.out _).mono ?_; rintro e w2 ⟨rfl, hb2⟩
    rw [HLE.out, HQ2.out]
    go_wp2_with fail
    refine (HW.out _).mono ?_; rintro e w3 ⟨rfl, hb3⟩
    go_wp2_with fail
    go_ret2
    exact ⟨by rw [HF.out]; rfl, Below.chain hb2 hb3⟩
  have hb' : begB s[0].toNat = false := by simpa using hb
  have HQ2 := Lib.hid hb'
  by_cases h39 : s[0] = 39
  · have HF := Lib.hid (show firstF s.data.toList = (4, szR (vrdSem s.data.toList)) by rw [HFA.out, if_neg hd, if_neg hb, if_pos h39])
    have q39 : ((s[0].toNat : Int) == 39) = true := by rw [h39]; decide
    have HV := Lib.hid (fun w hT => vread_any s hs w hT)
    obtain ⟨k1, m1, f1, t1, x1, e1⟩ := vrd_shape (vrdSem s.data.toList)
    rw [e1] at HV
    generalize szR (vrdSem s.data.toList) = N at *
    clear hd hb hd' hb' h39 e1
    go_enter Tryz.func17, Tryz.ntmps17
    go_wp2_with fail
    refine (HD.out _).mono ?_; rintro e w1 ⟨rfl, rfl⟩
    rw [HQ.out]
    go_wp2_with fail
    refine (HL.out _).mono ?_; rintro e w2 ⟨rfl, hb2⟩
    rw [HLE.out, HQ2.out]
    go_wp2_with fail
    refine (HV.out _ (hT.tabs.below hb2)).mono ?_; rintro e w3 ⟨rfl, hb3⟩
    go_wp2_with fail
    go_ret2
    exact ⟨by rw [HF.out]; rfl, Below.chain hb2 hb3⟩
  · have HF := Lib.hid (show firstF s.data.toList = (5, signN s.data.toList) by rw [HFA.out, if_neg hd, if_neg hb, if_neg h39])
    have q39 : ((s[0].toNat : Int) == 39) = false := by
      rw [beq_eq_false_iff_ne]
      intro h
      exact h39 (UInt8.toNat_inj.1 (by have : (39 : UInt8).toNat = 39 := rfl; omega))
    have HS := Lib.hid (fun w hT => lxsign_any s w hT)
    clear hd hb hd' hb' h39
    go_enter Tryz.func17, Tryz.ntmps17
    go_wp2_with fail
    refine (HD.out _).mono ?_; rintro e w1 ⟨rfl, rfl⟩
    rw [HQ.out]
    go_wp2_with fail
    refine (HL.out _).mono ?_; rintro e w2 ⟨rfl, hb2⟩
    rw [HLE.out, HQ2.out]
    go_wp2_with fail
    refine (HS.out _ (hT.sig.below hb2)).mono ?_; rintro e w3 ⟨rfl, rfl⟩
    go_wp2_with fail
    go_ret2
    exact ⟨by rw [HF.out]; rfl, hb2⟩
end Go.Proofs.YtainigcchlgehaaGreatDoor
