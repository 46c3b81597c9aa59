import Derived.Test.YtainigcchlgehaaGreatDoorXD
namespace Go.Proofs.YtainigcchlgehaaGreatDoor
open Go Go.ChangeShapes Go.WideShapes Go.ChangeAt Go.RowKit
open Go.Joins
set_option linter.unusedVariables false
/-- a word of one byte -/
theorem word_1 (c : UInt8) : wordL [c] = begB c.toNat := by
  rw [wordL_cons]
  simp only [List.length_cons, List.length_nil, List.all_cons, List.all_nil, Bool.and_true]
  rw [okc_of]
  cases h : begB c.toNat with
  | true => rw [beg_dig _ h]; rfl
  | false => cases digitB c.toNat <;> rfl
theorem word_ext1 (s : ByteArray) (i : Nat) (h : i < s.size) : wordB (s.extract i (i + 1)) = begB s[i].toNat := by
  unfold wordB
  rw [lx_ext, lx_drop s i h, show i + 1 - i = 1 by omega]
  exact word_1 _
theorem runP_drop_yes {s : ByteArray} {i : Nat} (h : i < s.size) (ho : okc s[i].toNat = true) : runP (s.data.toList.drop i) = runP (s.data.toList.drop (i + 1)) + 1 := by
  rw [lx_drop s i h]
  show (if okc s[i].toNat = true then _ else _) = _
  rw [if_pos ho]
theorem runP_drop_no {s : ByteArray} {i : Nat} (h : i < s.size) (ho : okc s[i].toNat = false) : runP (s.data.toList.drop i) = 0 := by
  rw [lx_drop s i h]
  show (if okc s[i].toNat = true then _ else _) = _
  rw [if_neg (by rw [ho]; decide)]
set_option maxHeartbeats 2000000 in
set_option maxRecDepth 100000 in
theorem lxword_any (s : ByteArray) (hs : s.size ≤ 1000000) (w : World) : Calls Tryz.prog 30 #[.string s] w fun e w' => e = .returned (.tuple #[.int .i64 ((wordF s.data.toList).1 : Nat), .int .i64 ((wordF s.data.toList).2 : Nat)]) ∧ Below w.heap.size w w' := by
  have HLn := Lib.hid (lx_len s)
  have HW := Lib.hid (show ∀ n, runP s.data.toList = n → (wordF s.data.toList) = if wordL (s.data.toList.take n) = false then (1, 0) else if isKeyB (s.data.toList.take n) = true then (2, n) else (1, n) from fun n h => by unfold wordF; rw [h])
  have HX := Lib.hid (show ∀ n, (s.extract 0 n).data.toList = s.data.toList.take n from fun n => by rw [lx_ext]; rfl)
  have hs1 : (s.size : Int) ≤ 1000000 := by omega
  have c0 := Below.refl w.heap.size w
  go_enter Tryz.func30, Tryz.ntmps30
  go_wp2_with fail
  go_loopg [3] s.size (fun g s3 wr => ∃ i : Nat, g + i = s.size ∧ s3 = .int .i64 i ∧ runP s.data.toList = i + runP (s.data.toList.drop i) ∧ Below w.heap.size w wr)
  case atStart => exact ⟨0, rfl, rfl, by simp, c0⟩
  case round =>
    obtain ⟨i, hg, rfl, hz, hB⟩ := hrel
    have HZ := Lib.hid hz
    have HBW := Lib.hid hB
    clear hz hB
    have i0 : (0 : Int) ≤ (i : Int) := by omega
    have i2 : (i : Int) ≤ (s.size : Int) := by omega
    by_cases hlt : i < s.size
    · have i1 : (i : Int) < (s.size : Int) := by omega
      have i3 : (i : Int) + 1 ≤ (s.size : Int) := by omega
      have CL := Lib.hid (lxletter_any (s.extract i (i + 1)))
      have CD := Lib.hid (lxdigit_any s[i].toNat)
      have HO := Lib.hid (okc_of s[i].toNat)
      have HY := Lib.hid (fun h => runP_drop_yes (s := s) (i := i) hlt h)
      have HN := Lib.hid (fun h => runP_drop_no (s := s) (i := i) hlt h)
      have HE := Lib.hid (word_ext1 s i hlt)
      generalize okc s[i].toNat = ok at *
      generalize digitB s[i].toNat = dd at *
      generalize begB s[i].toNat = bb at *
      cases bb
      · cases dd
        · -- it ends here
          have HR := Lib.hid (show runP s.data.toList = i by rw [HZ.out, HN.out (by rw [HO.out]; rfl)]; rfl)
          have HWi := HW.out i HR.out
          rw [← HX.out i] at HWi
          have CW := Lib.hid (lword_any (s.extract 0 i))
          have CK := Lib.hid (lxkey_any (s.extract 0 i))
          have HWB := Lib.hid (show wordB (s.extract 0 i) = wordL (s.extract 0 i).data.toList from rfl)
          cases hw : wordL (s.extract 0 i).data.toList
          · have HF := Lib.hid (show wordF s.data.toList = (1, 0) by rw [HWi, if_pos hw])
            have HQ := Lib.hid hw
            clear HWi hw
            go_wp2_with fail
            refine (CL.out _).mono ?_; rintro e w1 ⟨rfl, hb1⟩
            rw [HE.out]
            have HB1 := Lib.hid (HBW.out.trans (hb1.mono HBW.out.size))
            clear hb1
            go_wp2_with fail
            refine (CD.out _).mono ?_; rintro e w2 ⟨rfl, rfl⟩
            go_wp2_with fail
            refine (CW.out _).mono ?_; rintro e w5 ⟨rfl, hb5⟩
            rw [HWB.out, HQ.out]
            have HB5 := Lib.hid (HB1.out.trans (hb5.mono HB1.out.size))
            clear hb5
            go_wp2_with fail
            go_ret2
            exact ⟨by rw [HF.out]; rfl, HB5.out⟩
          cases hk : isKeyB (s.extract 0 i).data.toList
          · have HF := Lib.hid (show wordF s.data.toList = (1, i) by rw [HWi, if_neg (by rw [hw]; decide), if_neg (by rw [hk]; decide)])
            have HQ := Lib.hid hw
            have HQ2 := Lib.hid hk
            clear HWi hw hk
            go_wp2_with fail
            refine (CL.out _).mono ?_; rintro e w1 ⟨rfl, hb1⟩
            rw [HE.out]
            have HB1 := Lib.hid (HBW.out.trans (hb1.mono HBW.out.size))
            clear hb1
            go_wp2_with fail
            refine (CD.out _).mono ?_; rintro e w2 ⟨rfl, rfl⟩
            go_wp2_with fail
            refine (CW.out _).mono ?_; rintro e w5 ⟨rfl, hb5⟩
            rw [HWB.out, HQ.out]
            have HB5 := Lib.hid (HB1.out.trans (hb5.mono HB1.out.size))
            clear hb5
            go_wp2_with fail
            refine (CK.out _).mono ?_; rintro e w6 ⟨rfl, rfl⟩
            rw [HQ2.out]
            go_wp2_with fail
            go_ret2
            exact ⟨by rw [HF.out]; rfl, HB5.out⟩
          · have HF := Lib.hid (show wordF s.data.toList = (2, i) by rw [HWi, if_neg (by rw [hw]; decide), if_pos hk])
            have HQ := Lib.hid hw
            have HQ2 := Lib.hid hk
            clear HWi hw hk
            go_wp2_with fail
            refine (CL.out _).mono ?_; rintro e w1 ⟨rfl, hb1⟩
            rw [HE.out]
            have HB1 := Lib.hid (HBW.out.trans (hb1.mono HBW.out.size))
            clear hb1
            go_wp2_with fail
            refine (CD.out _).mono ?_; rintro e w2 ⟨rfl, rfl⟩
            go_wp2_with fail
            refine (CW.out _).mono ?_; rintro e w5 ⟨rfl, hb5⟩
            rw [HWB.out, HQ.out]
            have HB5 := Lib.hid (HB1.out.trans (hb5.mono HB1.out.size))
            clear hb5
            go_wp2_with fail
            refine (CK.out _).mono ?_; rintro e w6 ⟨rfl, rfl⟩
            rw [HQ2.out]
            go_wp2_with fail
            go_ret2
            exact ⟨by rw [HF.out]; rfl, HB5.out⟩
        · have HR := Lib.hid (show runP s.data.toList = i + 1 + runP (s.data.toList.drop (i + 1)) by rw [HZ.out, HY.out (by rw [HO.out]; rfl)]; omega)
          go_wp2_with fail
          refine (CL.out _).mono ?_; rintro e w1 ⟨rfl, hb1⟩
          rw [HE.out]
          have HB1 := Lib.hid (HBW.out.trans (hb1.mono HBW.out.size))
          clear hb1
          go_wp2_with fail
          refine (CD.out _).mono ?_; rintro e w2 ⟨rfl, rfl⟩
          go_wp2_with fail
          go_roundg (s.size - (i + 1))
          case rel => exact ⟨i + 1, by omega, by go_num, HR.out, HB1.out⟩
          case measure => omega
      · have HR := Lib.hid (show runP s.data.toList = i + 1 + runP (s.data.toList.drop (i + 1)) by rw [HZ.out, HY.out (by rw [HO.out]; rfl)]; omega)
        go_wp2_with fail
        refine (CL.out _).mono ?_; rintro e w1 ⟨rfl, hb1⟩
        rw [HE.out]
        have HB1 := Lib.hid (HBW.out.trans (hb1.mono HBW.out.size))
        clear hb1
        go_wp2_with fail
        go_roundg (s.size - (i + 1))
        case rel => exact ⟨i + 1, by omega, by go_num, HR.out, HB1.out⟩
        case measure => omega
    · have i1 : ¬ ((i : Int) < (s.size : Int)) := by omega
      have HR := Lib.hid (show runP s.data.toList = i by rw [HZ.out, List.drop_eq_nil_of_le (by rw [HLn.out]; omega)]; rfl)
      have HWi := HW.out i HR.out
      rw [← HX.out i] at HWi
      have CW := Lib.hid (lword_any (s.extract 0 i))
      have CK := Lib.hid (lxkey_any (s.extract 0 i))
      have HWB := Lib.hid (show wordB (s.extract 0 i) = wordL (s.extract 0 i).data.toList from rfl)
      cases hw : wordL (s.extract 0 i).data.toList
      · have HF := Lib.hid (show wordF s.data.toList = (1, 0) by rw [HWi, if_pos hw])
        have HQ := Lib.hid hw
        clear HWi hw
        go_wp2_with fail
        refine (CW.out _).mono ?_; rintro e w5 ⟨rfl, hb5⟩
        rw [HWB.out, HQ.out]
        have HB5 := Lib.hid (HBW.out.trans (hb5.mono HBW.out.size))
        clear hb5
        go_wp2_with fail
        go_ret2
        exact ⟨by rw [HF.out]; rfl, HB5.out⟩
      cases hk : isKeyB (s.extract 0 i).data.toList
      · have HF := Lib.hid (show wordF s.data.toList = (1, i) by rw [HWi, if_neg (by rw [hw]; decide), if_neg (by rw [hk]; decide)])
        have HQ := Lib.hid hw
        have HQ2 := Lib.hid hk
        clear HWi hw hk
        go_wp2_with fail
        refine (CW.out _).mono ?_; rintro e w5 ⟨rfl, hb5⟩
        rw [HWB.out, HQ.out]
        have HB5 := Lib.hid (HBW.out.trans (hb5.mono HBW.out.size))
        clear hb5
        go_wp2_with fail
        refine (CK.out _).mono ?_; rintro e w6 ⟨rfl, rfl⟩
        rw [HQ2.out]
        go_wp2_with fail
        go_ret2
        exact ⟨by rw [HF.out]; rfl, HB5.out⟩
      · have HF := Lib.hid (show wordF s.data.toList = (2, i) by rw [HWi, if_neg (by rw [hw]; decide), if_pos hk])
        have HQ := Lib.hid hw
        have HQ2 := Lib.hid hk
        clear HWi hw hk
        go_wp2_with fail
        refine (CW.out _).mono ?_; rintro e w5 ⟨rfl, hb5⟩
        rw [HWB.out, HQ.out]
        have HB5 := Lib.hid (HBW.out.trans (hb5.mono HBW.out.size))
        clear hb5
        go_wp2_with fail
        refine (CK.out _).mono ?_; rintro e w6 ⟨rfl, rfl⟩
        rw [HQ2.out]
        go_wp2_with fail
        go_ret2
        exact ⟨by rw [HF.out]; rfl, HB5.out⟩
end Go.Proofs.YtainigcchlgehaaGreatDoor
