import Derived.Test.YtpnbjofddlbagaaDoorWya
namespace Go.Proofs.YtpnbjofddlbagaaDoor
open Go Go.RowKit
set_option linter.unusedVariables false
set_option maxHeartbeats 4000000 in
theorem rp_minus (s T : ByteArray) (hs : s.size ≤ 50) (hp0 : 0 < s.size) (hT : s.extract 1 s.size = T) (hTs : T.size ≤ 49) (h1 : (s.toList == [110, 97, 110]) = false) (h2 : (T.toList == [105, 110, 102]) = false) (h3 : (T.toList == [48, 112, 48]) = false) (hc : s[0].toNat = 45) (R : Option Nat) (HN : Hid (¬ Good T.data.toList → R = none))
    (HR : Hid (∀ (M : Nat) (x : Int), M % 2 = 1 → M < 9007199254740992 → -2000 ≤ x → x ≤ 2000 → T.data.toList = tailOf M x → (Room M x → R = some (withSign true (Flt.rungOf M (x + 1074).toNat))) ∧ (¬ Room M x → R = none))) (w : World) :
    Calls Tryd.prog 24 #[.string s] w fun e w' => e = .returned (psTuple R) ∧ w = w' := by
  have hf := run_frombits
  go_enter Tryd.func24, Tryd.ntmps24
  go_wp2_with fail
  go_loop [6] (fun t6 => ∃ (p : Nat), t6 = .int .i64 (p : Int) ∧ p ≤ T.size ∧ Hid (∀ c ∈ T.data.toList.take p, c ≠ 112)) (fun t6 => 60 - (intOf t6).toNat)
  case atStart => exact ⟨0, rfl, by omega, Lib.hid (by simp)⟩
  case round =>
    obtain ⟨p, rfl, q1, hinv⟩ := hrel
    have hsl := size_list T
    by_cases hp : p < T.size
    · by_cases hq : T[p].toNat = 112
      · have hC : Cut1 T.data.toList p := ⟨by omega, hinv.out, Or.inr (by rw [get_list _ _ hp, ← UInt8.ofNat_toNat (x := T[p]), hq]; rfl)⟩
        clear hinv
        go_wp2_with fail
        refine (number53 (T.extract 0 p) (by rw [ByteArray.size_extract]; omega) _).mono ?_
        rintro e w' ⟨⟨v, rfl, hv⟩, rfl⟩
        rw [ext_take] at hv

        rcases hv with ⟨M, rfl, hM1, hM2⟩ | ⟨rfl, hbad⟩
        · by_cases hM0 : M = 0
          · subst hM0
            have hnn := HN.out (bad1 hC (Or.inl ⟨0, rfl, hM1, hM2⟩) (Or.inl (by decide)))
            have HNN := Lib.hid hnn
            clear hnn HN HR

            go_wp2
            go_ret2
            exact ⟨by rw [HNN.out]; rfl, rfl⟩
          · by_cases hMe : M % 2 = 0
            · have hb : ((M : Int) % 2 == 0) = true := by simp; omega
              have hnn := HN.out (bad1 hC (Or.inl ⟨M, rfl, hM1, hM2⟩) (Or.inr (Or.inl (by omega))))
              have HNN := Lib.hid hnn
              clear hnn HN HR

              go_wp2
              go_ret2
              exact ⟨by rw [HNN.out]; rfl, rfl⟩
            · have hb : ((M : Int) % 2 == 0) = false := by simp; omega
              by_cases hlen : T.size ≤ p + 1
              · have hnn := HN.out (bad1 hC (Or.inl ⟨M, rfl, hM1, hM2⟩) (Or.inr (Or.inr (by omega))))
                have HNN := Lib.hid hnn
                clear hnn HN HR
                go_wp2
                go_ret2
                exact ⟨by rw [HNN.out]; rfl, rfl⟩
              · have hp1 : p + 1 < T.size := by omega
                obtain ⟨R1, hR1⟩ : ∃ R1, T.extract (p + 1) T.size = R1 := ⟨_, rfl⟩
                have hR1l : R1.data.toList = T.data.toList.drop (p + 1) := by rw [← hR1]; exact ext_drop _ _
                have hR1s : R1.size = T.size - (p + 1) := by rw [← size_list R1, hR1l, List.length_drop, hsl]
                have hdr : T.data.toList.drop (p + 1) = T[p + 1] :: T.data.toList.drop (p + 2) := by
                  rw [List.drop_eq_getElem_cons (by rw [hsl]; exact hp1)]
                  rfl
                by_cases hm : T[p + 1].toNat = 45
                · have h45 : T[p + 1] = 45 := by rw [← UInt8.ofNat_toNat (x := T[p + 1]), hm]; rfl
                  rw [h45] at hdr
                  obtain ⟨R2, hR2⟩ : ∃ R2, R1.extract 1 R1.size = R2 := ⟨_, rfl⟩
                  have hR2l : R2.data.toList = T.data.toList.drop (p + 2) := by rw [← hR2, ext_drop, hR1l, List.drop_drop]
                  have hR2s : R2.size ≤ 50 := by rw [← size_list R2, hR2l, List.length_drop, hsl]; omega
                  rw [hR1s] at hR2
                  have H45 := Lib.hid hdr
                  clear h45 hdr
                  go_wp2_with fail
                  refine (number2000 R2 (by omega) _).mono ?_
                  rintro e w' ⟨⟨v, rfl, hv⟩, rfl⟩
                  rw [hR2l] at hv
                  rcases hv with ⟨j, rfl, hj1, hj2⟩ | ⟨rfl, hbad⟩
                  · by_cases hj0 : j = 0
                    · subst hj0
                      have hnn := HN.out (bad3 hC H45.out (Or.inl ⟨0, rfl, hj1, hj2⟩) (by decide))
                      have HNN := Lib.hid hnn
                      clear hnn HN HR

                      go_wp2
                      go_ret2
                      exact ⟨by rw [HNN.out]; rfl, rfl⟩
                    ·
                      have hbj : ((j : Int) == 0) = false := by rw [beq_eq_false_iff_ne]; omega
                      have hTL := good3 hC (by omega) hM2 H45.out hj2 (by omega)
                      have hR := HR.out M (-(j : Int)) (by omega) (by omega) (by omega) (by omega) hTL
                      have HRR := Lib.hid hR
                      have hMo := Lib.hid (show 0 < M ∧ M % 2 = 1 from ⟨by omega, by omega⟩)
                      clear hR HR HN hTL
                      go_wp2
                      go_loop [7, 10] (fun t7 t10 => ∃ (k : Nat) (m e : Int), t7 = .int .i64 m ∧ t10 = .int .i64 e ∧ 0 < m ∧ m < 9007199254740992 ∧ -2000 ≤ e ∧ e ≤ 2000 ∧ Hid (m.toNat = M * 2 ^ k ∧ e = (-(j : Int)) - k ∧ (k = 0 ∨ -1074 ≤ e))) (fun _ t10 => (intOf t10 + 3000).toNat)
                      case atStart => exact ⟨0, (M : Int), (-(j : Int)), rfl, rfl, by omega, by omega, by omega, by omega, Lib.hid ⟨by simp, by simp, Or.inl rfl⟩⟩
                      case round =>
                        obtain ⟨k, m, e, rfl, rfl, q1, q2, q3, q4, hinv⟩ := hrel
                        clear hM0 hMe hb hM1 hM2
                        by_cases c1 : m < 4503599627370496
                        · by_cases c2 : -1074 < e
                          · obtain ⟨j1, j2, j3⟩ := hinv.out
                            have hI : (m * 2).toNat = M * 2 ^ (k + 1) ∧ e - 1 = (-(j : Int)) - ((k + 1 : Nat) : Int) ∧ (k + 1 = 0 ∨ -1074 ≤ e - 1) := ⟨by rw [Nat.pow_succ, ← Nat.mul_assoc, ← j1]; omega, by omega, by omega⟩
                            have HI := Lib.hid hI
                            clear hI j1 j2 j3 hinv HRR
                            go_wp2
                            go_round
                            case rel => exact ⟨k + 1, m * 2, e - 1, by go_num, by go_num, by omega, by omega, by omega, by omega, HI⟩
                            case measure => simp [intOf]; omega
                          · obtain ⟨j1, j2, j3⟩ := hinv.out
                            by_cases c3 : e < -1074
                            · have hnn := HRR.out.2 (no_room j1 hMo.out.1 j2 j3 (by omega) (by omega))
                              have HNN := Lib.hid hnn
                              clear hnn HRR j1 j2 j3 hinv
                              go_wp2
                              go_ret2
                              exact ⟨by rw [HNN.out]; rfl, rfl⟩
                            · obtain ⟨hro, hbits⟩ := final_bits hMo.out.2 j1 j2 (by omega) (by omega) (by omega) (by omega)
                              have hnn := HRR.out.1 hro
                              rw [hbits, if_pos (by omega)] at hnn
                              have HNN := Lib.hid hnn
                              have hee : e = -1074 := by omega
                              subst hee
                              clear hnn HRR j1 j2 j3 hinv hro hbits
                              have b1 : bits .and .u64 m 4503599627370495 = m := by
                                have h := u64_and_nat m.toNat 4503599627370495 (by omega) (by decide)
                                rw [show ((m.toNat : Nat) : Int) = m from by omega] at h
                                refine h.trans ?_
                                rw [show (4503599627370495 : Nat) = 2 ^ 52 - 1 from by decide, Nat.and_two_pow_sub_one_eq_mod]
                                omega
                              go_wp2
                              go_ret2
                              refine ⟨?_, rfl⟩
                              rw [HNN.out]
                              exact ret_ps (by unfold withSign; rw [if_pos rfl]; omega)
                        · obtain ⟨j1, j2, j3⟩ := hinv.out
                          by_cases c3 : e < -1074
                          · have hnn := HRR.out.2 (no_room j1 hMo.out.1 j2 j3 (by omega) (by omega))
                            have HNN := Lib.hid hnn
                            clear hnn HRR j1 j2 j3 hinv
                            go_wp2
                            go_ret2
                            exact ⟨by rw [HNN.out]; rfl, rfl⟩
                          · by_cases c4 : 971 < e
                            · have hnn := HRR.out.2 (no_room j1 hMo.out.1 j2 j3 (by omega) (by omega))
                              have HNN := Lib.hid hnn
                              clear hnn HRR j1 j2 j3 hinv
                              go_wp2
                              go_ret2
                              exact ⟨by rw [HNN.out]; rfl, rfl⟩
                            · obtain ⟨hro, hbits⟩ := final_bits hMo.out.2 j1 j2 (by omega) (by omega) (by omega) (by omega)
                              have hnn := HRR.out.1 hro
                              rw [hbits, if_neg (by omega)] at hnn
                              have HNN := Lib.hid hnn
                              clear hnn HRR j1 j2 j3 hinv hro hbits
                              have b1 : bits .and .u64 m 4503599627370495 = m - 4503599627370496 := by
                                have h := u64_and_nat m.toNat 4503599627370495 (by omega) (by decide)
                                rw [show ((m.toNat : Nat) : Int) = m from by omega] at h
                                refine h.trans ?_
                                rw [show (4503599627370495 : Nat) = 2 ^ 52 - 1 from by decide, Nat.and_two_pow_sub_one_eq_mod]
                                omega
                              go_wp2
                              go_ret2
                              refine ⟨?_, rfl⟩
                              rw [HNN.out]
                              exact ret_ps (by unfold withSign; rw [if_pos rfl]; omega)
                  ·
                    have hnn := HN.out (bad3 hC H45.out (Or.inr ⟨rfl, hbad⟩) (by decide))
                    have HNN := Lib.hid hnn
                    clear hnn HN HR

                    go_wp2
                    go_ret2
                    exact ⟨by rw [HNN.out]; rfl, rfl⟩
                · have hne : T[p + 1] ≠ 45 := fun h => hm (by rw [h]; rfl)
                  have hbm : ((T[p + 1].toNat : Int) == 45) = false := by rw [beq_eq_false_iff_ne]; omega
                  have H45 := Lib.hid hdr
                  have HNE := Lib.hid hne
                  clear hdr hne
                  go_wp2_with fail
                  refine (number2000 R1 (by omega) _).mono ?_
                  rintro e w' ⟨⟨v, rfl, hv⟩, rfl⟩
                  rw [hR1l] at hv
                  rcases hv with ⟨j, rfl, hj1, hj2⟩ | ⟨rfl, hbad⟩
                  ·
                    have hTL := good2 hC (by omega) hM2 rfl hj2
                    have hR := HR.out M (j : Int) (by omega) (by omega) (by omega) (by omega) hTL
                    have HRR := Lib.hid hR
                    have hMo := Lib.hid (show 0 < M ∧ M % 2 = 1 from ⟨by omega, by omega⟩)
                    clear hR HR HN hTL
                    go_wp2
                    go_loop [7, 10] (fun t7 t10 => ∃ (k : Nat) (m e : Int), t7 = .int .i64 m ∧ t10 = .int .i64 e ∧ 0 < m ∧ m < 9007199254740992 ∧ -2000 ≤ e ∧ e ≤ 2000 ∧ Hid (m.toNat = M * 2 ^ k ∧ e = (j : Int) - k ∧ (k = 0 ∨ -1074 ≤ e))) (fun _ t10 => (intOf t10 + 3000).toNat)
                    case atStart => exact ⟨0, (M : Int), (j : Int), rfl, rfl, by omega, by omega, by omega, by omega, Lib.hid ⟨by simp, by simp, Or.inl rfl⟩⟩
                    case round =>
                      obtain ⟨k, m, e, rfl, rfl, q1, q2, q3, q4, hinv⟩ := hrel
                      clear hM0 hMe hb hM1 hM2
                      by_cases c1 : m < 4503599627370496
                      · by_cases c2 : -1074 < e
                        · obtain ⟨j1, j2, j3⟩ := hinv.out
                          have hI : (m * 2).toNat = M * 2 ^ (k + 1) ∧ e - 1 = (j : Int) - ((k + 1 : Nat) : Int) ∧ (k + 1 = 0 ∨ -1074 ≤ e - 1) := ⟨by rw [Nat.pow_succ, ← Nat.mul_assoc, ← j1]; omega, by omega, by omega⟩
                          have HI := Lib.hid hI
                          clear hI j1 j2 j3 hinv HRR
                          go_wp2
                          go_round
                          case rel => exact ⟨k + 1, m * 2, e - 1, by go_num, by go_num, by omega, by omega, by omega, by omega, HI⟩
                          case measure => simp [intOf]; omega
                        · obtain ⟨j1, j2, j3⟩ := hinv.out
                          by_cases c3 : e < -1074
                          · have hnn := HRR.out.2 (no_room j1 hMo.out.1 j2 j3 (by omega) (by omega))
                            have HNN := Lib.hid hnn
                            clear hnn HRR j1 j2 j3 hinv
                            go_wp2
                            go_ret2
                            exact ⟨by rw [HNN.out]; rfl, rfl⟩
                          · obtain ⟨hro, hbits⟩ := final_bits hMo.out.2 j1 j2 (by omega) (by omega) (by omega) (by omega)
                            have hnn := HRR.out.1 hro
                            rw [hbits, if_pos (by omega)] at hnn
                            have HNN := Lib.hid hnn
                            have hee : e = -1074 := by omega
                            subst hee
                            clear hnn HRR j1 j2 j3 hinv hro hbits
                            have b1 : bits .and .u64 m 4503599627370495 = m := by
                              have h := u64_and_nat m.toNat 4503599627370495 (by omega) (by decide)
                              rw [show ((m.toNat : Nat) : Int) = m from by omega] at h
                              refine h.trans ?_
                              rw [show (4503599627370495 : Nat) = 2 ^ 52 - 1 from by decide, Nat.and_two_pow_sub_one_eq_mod]
                              omega
                            go_wp2
                            go_ret2
                            refine ⟨?_, rfl⟩
                            rw [HNN.out]
                            exact ret_ps (by unfold withSign; rw [if_pos rfl]; omega)
                      · obtain ⟨j1, j2, j3⟩ := hinv.out
                        by_cases c3 : e < -1074
                        · have hnn := HRR.out.2 (no_room j1 hMo.out.1 j2 j3 (by omega) (by omega))
                          have HNN := Lib.hid hnn
                          clear hnn HRR j1 j2 j3 hinv
                          go_wp2
                          go_ret2
                          exact ⟨by rw [HNN.out]; rfl, rfl⟩
                        · by_cases c4 : 971 < e
                          · have hnn := HRR.out.2 (no_room j1 hMo.out.1 j2 j3 (by omega) (by omega))
                            have HNN := Lib.hid hnn
                            clear hnn HRR j1 j2 j3 hinv
                            go_wp2
                            go_ret2
                            exact ⟨by rw [HNN.out]; rfl, rfl⟩
                          · obtain ⟨hro, hbits⟩ := final_bits hMo.out.2 j1 j2 (by omega) (by omega) (by omega) (by omega)
                            have hnn := HRR.out.1 hro
                            rw [hbits, if_neg (by omega)] at hnn
                            have HNN := Lib.hid hnn
                            clear hnn HRR j1 j2 j3 hinv hro hbits
                            have b1 : bits .and .u64 m 4503599627370495 = m - 4503599627370496 := by
                              have h := u64_and_nat m.toNat 4503599627370495 (by omega) (by decide)
                              rw [show ((m.toNat : Nat) : Int) = m from by omega] at h
                              refine h.trans ?_
                              rw [show (4503599627370495 : Nat) = 2 ^ 52 - 1 from by decide, Nat.and_two_pow_sub_one_eq_mod]
                              omega
                            go_wp2
                            go_ret2
                            refine ⟨?_, rfl⟩
                            rw [HNN.out]
                            exact ret_ps (by unfold withSign; rw [if_pos rfl]; omega)
                  ·
                    have hnn := HN.out (bad2 hC H45.out HNE.out (by rw [← H45.out]; exact Or.inr ⟨rfl, hbad⟩) (by decide))
                    have HNN := Lib.hid hnn
                    clear hnn HN HR

                    go_wp2
                    go_ret2
                    exact ⟨by rw [HNN.out]; rfl, rfl⟩
        ·
          have hnn := HN.out (bad1 hC (Or.inr ⟨rfl, hbad⟩) (Or.inl (by decide)))
          have HNN := Lib.hid hnn
          clear hnn HN HR

          go_wp2
          go_ret2
          exact ⟨by rw [HNN.out]; rfl, rfl⟩
      · have hI : ∀ c ∈ T.data.toList.take (p + 1), c ≠ 112 := by
          intro c hc
          rw [List.take_succ_eq_append_getElem (by rw [hsl]; exact hp)] at hc
          rcases List.mem_append.1 hc with h | h
          · exact hinv.out c h
          · simp only [List.mem_singleton] at h
            intro e
            apply hq
            have : T[p] = 112 := by rw [← e, h]; rfl
            rw [this]; rfl
        have HI := Lib.hid hI
        have hbq : ((T[p].toNat : Int) == 112) = false := by rw [beq_eq_false_iff_ne]; omega
        clear hI hinv HN HR
        go_wp2
        go_round
        case rel => exact ⟨p + 1, by go_num, by omega, HI⟩
        case measure => simp [intOf]; omega
    · have hC : Cut1 T.data.toList p := ⟨by omega, hinv.out, Or.inl (by omega)⟩
      clear hinv
      go_wp2_with fail
      refine (number53 (T.extract 0 p) (by rw [ByteArray.size_extract]; omega) _).mono ?_
      rintro e w' ⟨⟨v, rfl, hv⟩, rfl⟩
      rw [ext_take] at hv

      have hnn := HN.out (bad1 hC hv (Or.inr (Or.inr (by omega))))
      have HNN := Lib.hid hnn
      clear hnn HN HR
      rcases hv with ⟨M, rfl, hM1, hM2⟩ | ⟨rfl, hbad⟩
      · by_cases hM0 : M = 0
        · subst hM0
          go_wp2
          go_ret2
          exact ⟨by rw [HNN.out]; rfl, rfl⟩
        · by_cases hMe : M % 2 = 0
          · have hb : ((M : Int) % 2 == 0) = true := by simp; omega
            go_wp2
            go_ret2
            exact ⟨by rw [HNN.out]; rfl, rfl⟩
          · have hb : ((M : Int) % 2 == 0) = false := by simp; omega
            go_wp2
            go_ret2
            exact ⟨by rw [HNN.out]; rfl, rfl⟩
      ·
        go_wp2
        go_ret2
        exact ⟨by rw [HNN.out]; rfl, rfl⟩
end Go.Proofs.YtpnbjofddlbagaaDoor
