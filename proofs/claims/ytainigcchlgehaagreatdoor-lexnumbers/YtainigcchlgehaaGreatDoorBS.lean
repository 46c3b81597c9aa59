import Derived.Test.YtainigcchlgehaaGreatDoorBR
namespace Go.Proofs.YtainigcchlgehaaGreatDoor
open Go Go.RowKit
set_option linter.unusedVariables false
theorem rrd_q (s : ByteArray) (s1 : 1 ≤ s.size) (s4 : s.size ≤ 1000000) (h39 : ((s[0].toNat : Int) == 39) = true) (t : List UInt8) (n : Nat) (hn : 1 ≤ n) (Q : ∀ w, Calls Tryz.prog 55 #[.string s] w fun e w' => e = .returned (.tuple #[.string ⟨t.toArray⟩, .int .i64 (n : Int)]) ∧ w = w') (w : World) :
    Calls Tryz.prog 33 #[.string s] w fun e w' => e = .returned (vrdTuple (some (n, 4, 0, 0, t))) ∧ Below w.heap.size w w' := by
  have hsf := run_store_float
  have il0 : (0 : Int) < (s.size : Int) := by omega
  have n0 : ((n : Int) == 0) = false := by rw [beq_eq_false_iff_ne]; omega
  go_enter Tryz.func33, Tryz.ntmps33
  go_wp2_with fail
  refine (Q _).mono ?_; rintro e w' ⟨rfl, rfl⟩
  go_wp2_with fail
  exact ret_vnb rfl rfl rfl rfl rfl (lies_new _ _ _ _ _ _) ⟨rfl, below_a1 _ _⟩
theorem rrd_qn (s : ByteArray) (s1 : 1 ≤ s.size) (s4 : s.size ≤ 1000000) (h39 : ((s[0].toNat : Int) == 39) = true) (Q : ∀ w, Calls Tryz.prog 55 #[.string s] w fun e w' => e = .returned (.tuple #[.string ⟨#[]⟩, .int .i64 0]) ∧ w = w') (w : World) :
    Calls Tryz.prog 33 #[.string s] w fun e w' => e = .returned (vrdTuple none) ∧ Below w.heap.size w w' := by
  have hsf := run_store_float
  have il0 : (0 : Int) < (s.size : Int) := by omega
  go_enter Tryz.func33, Tryz.ntmps33
  go_wp2_with fail
  refine (Q _).mono ?_; rintro e w' ⟨rfl, rfl⟩
  go_wp2_with fail
  refine (rnull_any _).mono ?_; rintro e w1 ⟨rfl, hb1⟩
  have l1 := (lies_new w (.int .i64 0) (.int .i64 0) (.float .f64 0) (.string ⟨#[]⟩) 41).below hb1
  have f1 := (free_new w (.int .i64 0) (.int .i64 0) (.float .f64 0) (.string ⟨#[]⟩) 41).below (lies_new _ _ _ _ _ _) hb1
  have ⟨_, _, _, _⟩ := l1
  have ⟨_, _, _, _⟩ := f1
  go_wp2_with fail
  exact ret_vnb rfl rfl rfl rfl rfl (l1.set _ _ _ _) ⟨rfl, below_set4 (Below.chain (below_a1 _ _) hb1) (Nat.le_refl _) _ _ _ _⟩
def vrT2 (o : Option (Nat × Int × Int × Nat)) : Value := vrTuple o
theorem ret_vr {T T' : Option (Nat × Int × Int × Nat)} (h : T = T') {e : Ending} (he : e = .returned (vrTuple T)) : e = .returned (vrTuple T') := h ▸ he
set_option maxHeartbeats 1000000 in
theorem rrd_p (s : ByteArray) (c : Bool) (hc : decide ((0 : Int) < (s.size : Int)) = c) (h39 : c = true → ((s[0]!.toNat : Int) == 39) = false) (h39' : ∀ h : 0 < s.size, ((s[0].toNat : Int) == 39) = false) (m : Nat) (hm : min (s.size : Int) 40 = (m : Int)) (w : World) :
    Calls Tryz.prog 33 #[.string s] w fun e w' => e = .returned (vrTuple (findR s.data.toList m)) ∧ Below w.heap.size w w' := by
  have hsf := run_store_float
  obtain ⟨T, hT⟩ : ∃ T, T = findR s.data.toList m := ⟨_, rfl⟩
  rw [← hT]
  have HT := Lib.hid hT
  clear hT
  have hms : m ≤ s.size := by omega
  have hm40 : m ≤ 40 := by omega
  have L0 := Lib.hid (And.intro (lies_new w (.int .i64 0) (.int .i64 0) (.float .f64 0) (.string ⟨#[]⟩) 41) (free_new w (.int .i64 0) (.int .i64 0) (.float .f64 0) (.string ⟨#[]⟩) 41))
  have H39 := Lib.hid h39'
  clear h39 h39'
  have main : ∀ (hz : c = false ∨ (c = true ∧ ∃ h : 0 < s.size, ((s[0].toNat : Int) == 39) = false)), Calls Tryz.prog 33 #[.string s] w fun e w' => e = .returned (vrTuple T) ∧ Below w.heap.size w w' := by
    intro hz
    have hcN : decide (0 < s.size) = c := by rw [← hc, decide_eq_decide]; omega
    rcases hz with rfl | ⟨rfl, hs0, b39⟩
    · have hs00 : s.size = 0 := by simpa using hcN
      have hm0 : m = 0 := by omega
      subst hm0
      have HE := HT.out
      simp only [findR] at HE
      have HE' := Lib.hid HE
      clear HE HT
      have hle : (s.size : Int) ≤ 0 := by omega
      have hle2 : s.size ≤ 0 := by omega
      clear hs00
      go_enter Tryz.func33, Tryz.ntmps33
      go_wp2_with fail
      go_loopg [7, 8, 9] 1 (fun g s7 s8 s9 wr => s7 = .int .i64 0 ∧ Lies wr w.heap.size (.int .i64 0) (.int .i64 0) (.float .f64 0) (.string ⟨#[]⟩) ∧ Free wr w.heap.size ∧ Below w.heap.size w wr)
      case atStart => exact ⟨rfl, L0.out.1, L0.out.2, below_a1 _ _⟩
      case round =>
        obtain ⟨rfl, hl, hfr, hb⟩ := hrel
        go_wp2_with fail
        refine (rnull_any _).mono ?_; rintro e w1 ⟨rfl, hb1⟩
        have l1 := hl.below hb1
        have f1 := hfr.below hl hb1
        have ⟨_, _, _, _⟩ := l1
        have ⟨_, _, _, _⟩ := f1
        go_wp2_with fail
        refine ret_vnb rfl rfl rfl rfl rfl (l1.set _ _ _ _) ⟨ret_vr (T := none) HE'.out.symm rfl, below_set4 (Below.chain hb hb1) (Nat.le_refl _) _ _ _ _⟩
    · have il0 : (0 : Int) < (s.size : Int) := by omega
      go_enter Tryz.func33, Tryz.ntmps33
      go_wp2_with fail
      go_loopg [7, 8, 9] m (fun g s7 s8 s9 wr => g ≤ m ∧ s7 = .int .i64 g ∧ findR s.data.toList g = T ∧ Lies wr w.heap.size (.int .i64 0) (.int .i64 0) (.float .f64 0) (.string ⟨#[]⟩) ∧ Free wr w.heap.size ∧ Below w.heap.size w wr)
      case atStart => exact ⟨Nat.le_refl _, rfl, HT.out.symm, L0.out.1, L0.out.2, below_a1 _ _⟩
      case round =>
        obtain ⟨hg, rfl, hF, hl, hfr, hb⟩ := hrel
        have HF := Lib.hid hF
        clear hF
        cases gk with
        | zero =>
          go_wp2_with fail
          refine (rnull_any _).mono ?_; rintro e w1 ⟨rfl, hb1⟩
          have l1 := hl.below hb1
          have f1 := hfr.below hl hb1
          have ⟨_, _, _, _⟩ := l1
          have ⟨_, _, _, _⟩ := f1
          go_wp2_with fail
          refine ret_vnb rfl rfl rfl rfl rfl (l1.set _ _ _ _) ⟨ret_vr (T := none) HF.out rfl, below_set4 (Below.chain hb hb1) (Nat.le_refl _) _ _ _ _⟩
        | succ g =>
          have i1 : ((g + 1 : Nat) : Int) ≤ (s.size : Int) := by omega
          have i0 : (0 : Int) < ((g + 1 : Nat) : Int) := by omega
          have hes : (s.extract 0 (g + 1)).size = g + 1 := by simp; omega
          have O := Lib.hid (one_any (s.extract 0 (g + 1)) (by omega) (by omega))
          rw [ext_take0] at O
          have hF2 := HF.out
          simp only [findR] at hF2
          clear hes
          cases hr : rpSem (s.data.toList.take (g + 1)) with
          | some v =>
            obtain ⟨k, n, f⟩ := v
            rw [hr] at O hF2
            simp only [rpTuple] at O hF2
            have HF2 := Lib.hid hF2
            clear hF2 hr
            go_wp2_with fail
            refine (O.out _).mono ?_; rintro e w1 ⟨rfl, hb1⟩
            have l1 := (hl.below hb1).alloc (.cells #[.int .i64 k, .int .i64 n, .float .f64 f, .string ⟨#[]⟩] 41)
            have f1 := (hfr.below hl hb1).below (hl.below hb1) (below_a1 w1 (.cells #[.int .i64 k, .int .i64 n, .float .f64 f, .string ⟨#[]⟩] 41))
            have lv := lies_new w1 (.int .i64 k) (.int .i64 n) (.float .f64 f) (.string ⟨#[]⟩) 41
            have ⟨_, _, _, _⟩ := l1
            have ⟨_, _, _, _⟩ := f1
            have ⟨_, _, _, _⟩ := lv
            go_wp2_with fail
            refine ret_vnb rfl rfl rfl rfl rfl (l1.set _ _ _ _) ⟨ret_vr HF2.out rfl, below_set4 (Below.chain (Below.chain hb hb1) (below_a1 _ _)) (Nat.le_refl _) _ _ _ _⟩
          | none =>
            rw [hr] at O hF2
            simp only [rpTuple] at O hF2
            have HF2 := Lib.hid hF2
            clear hF2 hr
            go_wp2_with fail
            refine (O.out _).mono ?_; rintro e w1 ⟨rfl, hb1⟩
            have ca := below_a1 w1 (.cells #[.int .i64 0, .int .i64 0, .float .f64 0, .string ⟨#[]⟩] 41)
            have l1 := (hl.below hb1).below ca
            have f1 := (hfr.below hl hb1).below (hl.below hb1) ca
            go_wp2_with fail
            go_roundg g
            case measure => omega
            case rel => exact ⟨by omega, by go_num, HF2.out, l1, f1, Below.chain (Below.chain hb hb1) ca⟩
  refine main ?_
  cases c
  · exact .inl rfl
  · have h0 : 0 < s.size := by simpa using hc
    exact .inr ⟨rfl, h0, H39.out h0⟩
theorem rread_any (s : ByteArray) (s4 : s.size ≤ 1000000) (w : World) :
    Calls Tryz.prog 33 #[.string s] w fun e w' => e = .returned (vrdTuple (vrdSem s.data.toList)) ∧ Below w.heap.size w w' := by
  by_cases hq : Lib.hasPrefix s.data.toList [39] = true
  · have hh := (hp_iff _).1 hq
    have s1 : 1 ≤ s.size := by
      cases hs : s.data.toList with
      | nil => rw [hs] at hh; cases hh
      | cons c l => have : s.data.toList.length = s.size := by simp
                    rw [hs] at this; simp at this; omega
    have h0 : s[0] = 39 := by
      have := get_at s 0 (by omega)
      rw [List.head?_eq_getElem?] at hh
      rw [this] at hh; simpa using hh
    have b39 : ((s[0].toNat : Int) == 39) = true := by rw [h0]; decide
    have Q := rquo_any s s1 s4
    have hl : s.data.toList.length = s.size := by simp
    unfold vrdSem
    rw [if_pos hq, hl]
    cases hr : rq (s.size + 1) (s.data.toList.drop 1) [] 1 with
    | none => rw [hr] at Q; exact rrd_qn s s1 s4 b39 Q w
    | some p =>
      obtain ⟨t, n⟩ := p
      rw [hr] at Q
      exact rrd_q s s1 s4 b39 t n (rq_pos _ _ _ _ _ _ hr) Q w
  · have hq' : ¬ s.data.toList.head? = some 39 := fun h => hq ((hp_iff _).2 h)
    have h39 : ∀ h : 0 < s.size, ((s[0].toNat : Int) == 39) = false := fun h => by
      rw [beq_eq_false_iff_ne]
      intro e
      refine hq' ?_
      rw [List.head?_eq_getElem?, get_at s 0 h]
      have : s[0] = 39 := by rw [← UInt8.toNat_inj]; simp; omega
      rw [this]
    have hl : s.data.toList.length = s.size := by simp
    have R := rrd_p s _ rfl (fun hc => by
      have h0 : 0 < s.size := by simpa using hc
      rw [getElem!_pos s 0 h0]; exact h39 h0) h39 (min s.size 40) (by omega) w
    rw [← hl, findR_run] at R
    refine R.mono ?_
    rintro e w' ⟨rfl, hb⟩
    refine ⟨?_, hb⟩
    unfold vrdSem
    rw [if_neg hq]
    cases findR s.data.toList (runN 23 s.data.toList) with
    | none => rfl
    | some p => rfl
end Go.Proofs.YtainigcchlgehaaGreatDoor


