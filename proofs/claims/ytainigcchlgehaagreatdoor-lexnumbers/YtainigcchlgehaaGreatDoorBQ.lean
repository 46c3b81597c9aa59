import Derived.Test.YtainigcchlgehaaGreatDoorBP
import Derived.Test.YtainigcchlgehaaGreatDoorBF
namespace Go.Proofs.YtainigcchlgehaaGreatDoor
open Go Go.RowKit
set_option linter.unusedVariables false
/-- what the loop has reckoned so far is right, if it is a whole number's text -/
def Sofar (l : List UInt8) (i : Nat) (N : Int) : Prop := ∀ x : Int, -9223372036854775808 ≤ x → x ≤ 9223372036854775807 → Lib.itoa x = l → N = -((dv (l.take i) : Nat) : Int)
theorem sofar_skip {l : List UInt8} {i : Nat} {N : Int} (h : Sofar l i N) (hi : i < l.length) (h45 : l[i] = 45) : Sofar l (i + 1) N := fun x h1 h2 e => by
  rw [dv_take l i hi, if_pos h45]; exact h x h1 h2 e
theorem sofar_step {l : List UInt8} {i : Nat} {N : Int} (h : Sofar l i N) (hi : i < l.length) (h48 : 48 ≤ l[i].toNat) : Sofar l (i + 1) (wrap64 (wrap64 (N * 10) - ((l[i].toNat : Int) - 48))) := fun x h1 h2 e => by
  have h45 : ¬ l[i] = 45 := fun q => by rw [q] at h48; simp at h48
  have hm := dv_mono l (i + 1)
  have hv := dv_itoa x
  rw [e] at hv
  have hN := h x h1 h2 e
  rw [dv_take l i hi, if_neg h45] at hm ⊢
  have hb : dv (l.take i) * 10 + (l[i].toNat - 48) ≤ 9223372036854775808 := by omega
  have w1 : wrap64 (N * 10) = N * 10 := IntWalk.wrap64_in _ ⟨by omega, by omega⟩
  rw [w1, IntWalk.wrap64_in _ ⟨by omega, by omega⟩, hN]
  omega
abbrev Z4 : Obj := .cells #[.int .i64 0, .int .i64 0, .float .f64 0, .string ⟨#[]⟩] 41
structure OneR (w wr : World) (N : Int) : Prop where
  lv : Lies wr (w.heap.size + 1) (.int .i64 2) (.int .i64 N) (.float .f64 0) (.string ⟨#[]⟩)
  fv : Free wr (w.heap.size + 1)
  lr : Lies wr w.heap.size (.int .i64 0) (.int .i64 0) (.float .f64 0) (.string ⟨#[]⟩)
  fr : Free wr w.heap.size
  b : Below w.heap.size w wr
theorem OneR.set {w wr : World} {N : Int} (h : OneR w wr N) (M : Int) : OneR w (wr.setCell ⟨w.heap.size + 1, 1, none⟩ (.int .i64 M)) M :=
  ⟨h.lv.setN _, h.fv.setN _, h.lr.setO _ (by omega), h.fr.setN _, h.b.setCell (show w.heap.size ≤ w.heap.size + 1 by omega) _⟩
theorem OneR.drew {w wr : World} {N : Int} (h : OneR w wr N) : OneR w wr.drew N := ⟨Lies.drew h.lv, Free.drew h.fv, Lies.drew h.lr, Free.drew h.fr, h.b.drew⟩
def OneP (l : List UInt8) (w : World) (e : Ending) (w' : World) : Prop := ((∃ x, -9223372036854775808 ≤ x ∧ x ≤ 9223372036854775807 ∧ Lib.itoa x = l ∧ e = .returned (rpTuple (some (2, x, 0)))) ∨ ((∀ x, -9223372036854775808 ≤ x → x ≤ 9223372036854775807 → Lib.itoa x ≠ l) ∧ e = .returned (rpTuple none))) ∧ Below w.heap.size w w'
theorem wp_region_tail5 {P : Program} {id : Nat} {Q : Exit → Act → World → Prop} {a : Act} {w : World} {l : List Oper} (n : Nat) (hm : P.follows .mixedOrders = true) (hB : Region.lexTailB .any l.toArray n = true)
    (h : wpStill P l.toArray w.drew (fun a' => wpList P l.toArray Q (l.drop n) a' w.drew) (l.take n) a) : (Code.region id l.toArray true).wp P Q a w := wp_region_still_tail n hm hB h
theorem last_right {l : List UInt8} {N : Int} {x : Int} (dn : Bool) (h : Sofar l l.length N) (h1 : -9223372036854775808 ≤ x) (h2 : x ≤ 9223372036854775807) (e : Lib.itoa x = l) (hd : (l[0]? = some 45) ↔ dn = true) : (dn = true → N = x) ∧ (dn = false → wrap64 (-N) = x) := by
  have hN := h x h1 h2 e
  rw [List.take_length, ← e, dv_itoa] at hN
  have hh := itoa_head x
  rw [e, hd] at hh
  constructor
  · intro q; have := hh.1 q; omega
  · intro q
    have : ¬ x < 0 := fun c => by have := hh.2 c; rw [q] at this; cases this
    rw [hN, IntWalk.wrap64_in _ ⟨by omega, by omega⟩]; omega
set_option maxRecDepth 100000 in
set_option maxHeartbeats 4000000 in
theorem one_int (s : ByteArray) (l : List UInt8) (hl : s.data.toList = l) (s1 : 1 ≤ s.size) (s40 : s.size ≤ 40) (h0 : (s.toList == [110, 117, 108, 108]) = false) (h1 : (s.toList == [116, 114, 117, 101]) = false) (h2 : (s.toList == [102, 97, 108, 115, 101]) = false)
    (P : ∀ w, Calls Tryz.prog 75 #[.string s] w fun e w' => e = .returned (.tuple #[.float .f64 0, .int .i64 2]) ∧ w = w') (dn : Bool) (hdn : ((s[0].toNat : Int) == 45) = dn) (hd0 : Hid ((l[0]? = some 45) ↔ dn = true)) (w : World) :
    Calls Tryz.prog 57 #[.string s] w (OneP l w) := by
  have hsf := run_store_float
  have HL := Lib.hid hl
  have hlen : Hid (l.length = s.size) := Lib.hid (by rw [← hl]; simp)
  have HDN := Lib.hid hdn
  clear hl
  have il0 : (0 : Int) < (s.size : Int) := by omega
  go_enter Tryz.func57, Tryz.ntmps57
  go_wp2_with fail
  refine (P _).mono ?_; rintro e w' ⟨rfl, rfl⟩
  go_wp2_with fail
  have O0 : OneR w ((w.alloc Z4).alloc (.cells #[.int .i64 2, .int .i64 0, .float .f64 0, .string ⟨#[]⟩] 41)) 0 := by
    refine ⟨lies_at (w.alloc Z4) _ (by simp) _ _ _ _ _, ?_, (lies_new w _ _ _ _ _).alloc _, ?_, below_a2 _ _ _⟩
    · have := free_new (w.alloc Z4) (.int .i64 2) (.int .i64 0) (.float .f64 0) (.string ⟨#[]⟩) 41
      rw [show (w.alloc Z4).heap.size = w.heap.size + 1 by simp] at this
      exact this
    · exact (free_new w _ _ _ _ _).below (lies_new w _ _ _ _ _) (below_a1 _ _)
  go_loopg [8] s.size (fun g s8 wr => ∃ (i : Nat) (N : Int), g + i = s.size ∧ s8 = .int .i64 i ∧ OneR w wr N ∧ -9223372036854775808 ≤ N ∧ N ≤ 9223372036854775807 ∧ Sofar l i N)
  case atStart => exact ⟨0, 0, by omega, rfl, O0, by omega, by omega, fun x _ _ _ => by simp [dv]⟩
  case round =>
    clear O0
    obtain ⟨i, N, hg, rfl, O, nb1, nb2, hSF⟩ := hrel
    have HSF := Lib.hid hSF
    have HO := Lib.hid O
    clear hSF O
    have ⟨_, _, _, _⟩ := HO.out.lv
    have ⟨_, _, _, _⟩ := HO.out.fv
    have ⟨_, _, _, _⟩ := HO.out.lr
    have ⟨_, _, _, _⟩ := HO.out.fr
    by_cases hgo : i < s.size ∧ s.size ≤ 20
    · obtain ⟨hlt, h20⟩ := hgo
      have il : (i : Int) < (s.size : Int) := by omega
      have i20 : (s.size : Int) ≤ 20 := by omega
      have hli : i < l.length := by rw [hlen.out]; exact hlt
      have hci : s[i] = l[i] := by have := HL.out; subst this; rfl
      have HCI := Lib.hid hci
      clear hci
      by_cases hsk : i = 0 ∧ dn = true
      · obtain ⟨hi0, rfl⟩ := hsk
        have b0 : ((i : Int) == 0) = true := by rw [beq_iff_eq]; omega
        have H45 := Lib.hid (show l[i] = 45 by have := hd0.out.2 rfl; subst hi0; rw [List.getElem?_eq_getElem hli] at this; simpa using this)
        clear hi0
        go_wp2_with fail
        go_roundg (s.size - (i + 1))
        case measure => omega
        case rel => exact ⟨i + 1, N, by omega, by go_num, HO.out, nb1, nb2, sofar_skip HSF.out hli H45.out⟩
      have hno0 : l[i] = 45 → i ≠ 0 := fun q z => by
        have : dn = true := hd0.out.1 (by subst z; rw [List.getElem?_eq_getElem hli, q])
        exact hsk ⟨z, this⟩
      have HNZ := Lib.hid hno0
      have hbb : ((i : Int) == 0) = false ∨ (((i : Int) == 0) = true ∧ dn = false) := by
        by_cases z : i = 0
        · refine .inr ⟨by rw [beq_iff_eq]; omega, ?_⟩
          cases dn
          · rfl
          · exact absurd ⟨z, rfl⟩ hsk
        · exact .inl (by rw [beq_eq_false_iff_ne]; omega)
      clear hno0 hsk
      by_cases hdig : 48 ≤ s[i].toNat ∧ s[i].toNat ≤ 57
      · obtain ⟨c48, c57⟩ := hdig
        have d1 : decide ((s[i].toNat : Int) < 48) = false := by simp; omega
        have d2 : decide (57 < (s[i].toNat : Int)) = false := by simp; omega
        have HST := Lib.hid (sofar_step HSF.out hli (by rw [← HCI.out]; exact c48))
        rw [← HCI.out] at HST
        obtain ⟨A, hA⟩ : ∃ A, wrap64 (N * 10) = A := ⟨_, rfl⟩
        obtain ⟨D, hD⟩ : ∃ D, (s[i].toNat : Int) - 48 = D := ⟨_, rfl⟩
        obtain ⟨M, hM⟩ : ∃ M, wrap64 (A - D) = M := ⟨_, rfl⟩
        rw [hA, hD, hM] at HST
        have mb := wrap64_bd (A - D)
        rw [hM] at mb
        have mb1 := mb.1
        have mb2 := mb.2.1
        have e1 : IntKind.u8.wrap ((s[i].toNat : Int) - 48) = D := by rw [← hD]; have := u8w (s[i].toNat - 48) (by omega); rw [show ((s[i].toNat - 48 : Nat) : Int) = (s[i].toNat : Int) - 48 by omega] at this; exact this
        have e2 : IntKind.i64.wrap (N * 10) = A := by rw [IntWalk.i64_left]; exact hA
        have e3 : IntKind.i64.wrap (A - D) = M := by rw [IntWalk.i64_left]; exact hM
        have e4 : IntKind.i64.wrap D = D := IntWalk.i64_in _ (by omega)
        have HN := Lib.hid (HO.out.drew.set M)
        have ⟨_, _, _, _⟩ := HO.out.drew.lv
        have ⟨_, _, _, _⟩ := HO.out.drew.fv
        clear hA hD hM mb c48 c57
        rcases hbb with b0 | ⟨b0, rfl⟩
        all_goals
          go_wp2_with fail
          refine wp_region_tail5 10 (by kernel_rfl) (by kernel_rfl) ?_
          simp only [List.take_succ_cons, List.take_zero, List.drop_succ_cons, List.drop_zero]
          repeat still_step
          refine wpStill_nil ?_
          go_wp2_with fail
          go_roundg (s.size - (i + 1))
          case measure => omega
          case rel => exact ⟨i + 1, M, by omega, by go_num, HN.out, mb1, mb2, HST.out⟩
      · have HNO := Lib.hid (show ∀ x, -9223372036854775808 ≤ x → x ≤ 9223372036854775807 → Lib.itoa x ≠ l from fun x x1 x2 q => by
          have hx := itoa_at x i (by rw [q]; exact hli)
          simp only [q] at hx
          rcases hx with ⟨z, q45, _⟩ | hx
          · exact HNZ.out q45 z
          · rw [HCI.out] at hdig; exact hdig hx)
        by_cases c48 : s[i].toNat < 48
        · have d1 : decide ((s[i].toNat : Int) < 48) = true := by simp; omega
          clear hdig c48
          rcases hbb with b0 | ⟨b0, rfl⟩
          all_goals
            go_wp2_with fail
            refine (rnull_any _).mono ?_; rintro e w5 ⟨rfl, hb5⟩
            have l5 := HO.out.lr.below hb5
            have f5 := HO.out.fr.below HO.out.lr hb5
            have ⟨_, _, _, _⟩ := l5
            have ⟨_, _, _, _⟩ := f5
            go_wp2_with fail
            refine ret_ve rfl rfl rfl rfl (l5.set _ _ _ _) ⟨.inr ⟨HNO.out, rfl⟩, below_set4 (Below.chain HO.out.b hb5) (Nat.le_refl _) _ _ _ _⟩
        · have d1 : decide ((s[i].toNat : Int) < 48) = false := by simp; omega
          have d2 : decide (57 < (s[i].toNat : Int)) = true := by simp; omega
          clear hdig c48
          rcases hbb with b0 | ⟨b0, rfl⟩
          all_goals
            go_wp2_with fail
            refine (rnull_any _).mono ?_; rintro e w5 ⟨rfl, hb5⟩
            have l5 := HO.out.lr.below hb5
            have f5 := HO.out.fr.below HO.out.lr hb5
            have ⟨_, _, _, _⟩ := l5
            have ⟨_, _, _, _⟩ := f5
            go_wp2_with fail
            refine ret_ve rfl rfl rfl rfl (l5.set _ _ _ _) ⟨.inr ⟨HNO.out, rfl⟩, below_set4 (Below.chain HO.out.b hb5) (Nat.le_refl _) _ _ _ _⟩
    · by_cases hend : i < s.size
      · have x1 : decide ((i : Int) < (s.size : Int)) = true := by simp; omega
        have x2 : decide (i < s.size) = true := by simp; omega
        have x3 : decide ((s.size : Int) ≤ 20) = false := by simp; omega
        have x4 : decide (s.size ≤ 20) = false := by simp; omega
        cases dn
        · skip
          obtain ⟨M, hM⟩ : ∃ M, wrap64 (-N) = M := ⟨_, rfl⟩
          have mb := (wrap64_bd (-N))
          rw [hM] at mb
          have mb1 := mb.1
          have mb2 := mb.2.1
          have HO2 := Lib.hid (HO.out.set M)
          have hM' : IntKind.i64.wrap (-N) = M := by rw [IntWalk.i64_left]; exact hM
          have HM := Lib.hid hM
          clear mb
          have TX := Lib.hid (rtxt_right 2 M 0 ⟨#[]⟩ (by omega) (by omega) (by decide) (by decide) (by simp [rightB]))
          rw [show textV 2 M 0 ⟨#[]⟩ = Lib.itoa M by simp [textV]] at TX
          obtain ⟨T, hT⟩ : ∃ T : ByteArray, T = ⟨(Lib.itoa M).toArray⟩ := ⟨_, rfl⟩
          rw [← hT] at TX
          have hTl : T.toList = Lib.itoa M := by rw [hT, Lib.toList_data]
          have hsl : s.toList = l := by rw [Lib.toList_data]; exact HL.out
          have HTL := Lib.hid (And.intro hTl hsl)
          clear hT hTl hsl
          by_cases heq : Lib.itoa M = l
          · have bq : (T.toList != s.toList) = false := by rw [HTL.out.1, HTL.out.2, heq]; simp
            have bq2 : (T.toList == s.toList) = true := by rw [HTL.out.1, HTL.out.2, heq]; simp
            have HEQ := Lib.hid heq
            clear heq
            have ⟨_, _, _, _⟩ := HO2.out.lv
            go_wp2_with fail
            refine (TX.out _).mono ?_; rintro e w5 ⟨rfl, hb5⟩
            have ⟨_, _, _, _⟩ := HO2.out.lv.below hb5
            have l5 := HO2.out.lr.below hb5
            have f5 := HO2.out.fr.below HO2.out.lr hb5
            have ⟨_, _, _, _⟩ := l5
            have ⟨_, _, _, _⟩ := f5
            go_wp2_with fail
            refine ret_ve rfl rfl rfl rfl (l5.set _ _ _ _) ⟨.inl ⟨M, by omega, by omega, HEQ.out, rfl⟩, below_set4 (Below.chain HO2.out.b hb5) (Nat.le_refl _) _ _ _ _⟩
          · have bq : (T.toList != s.toList) = true := by rw [HTL.out.1, HTL.out.2]; simpa using heq
            have bq2 : (T.toList == s.toList) = false := by rw [HTL.out.1, HTL.out.2]; simpa using heq
            have bq3 : ¬ T.toList = s.toList := by rw [HTL.out.1, HTL.out.2]; exact heq
            have HNO := Lib.hid (show ∀ x, -9223372036854775808 ≤ x → x ≤ 9223372036854775807 → Lib.itoa x ≠ l from fun x x1 x2 q => by
              have hle := itoa_len20 x x1 x2
              rw [q, hlen.out] at hle
              have hsf := HSF.out
              have hi : i = l.length := by rw [hlen.out]; omega
              rw [hi] at hsf
              have hr := last_right false hsf x1 x2 q hd0.out
              rw [← HM.out, hr.2 rfl] at heq
              exact heq q)
            clear heq
            have ⟨_, _, _, _⟩ := HO2.out.lv
            go_wp2_with fail
            refine (TX.out _).mono ?_; rintro e w5 ⟨rfl, hb5⟩
            have l5 := HO2.out.lr.below hb5
            have f5 := HO2.out.fr.below HO2.out.lr hb5
            go_wp2_with fail
            refine (rnull_any _).mono ?_; rintro e w6 ⟨rfl, hb6⟩
            have l6 := l5.below hb6
            have f6 := f5.below l5 hb6
            have ⟨_, _, _, _⟩ := l6
            have ⟨_, _, _, _⟩ := f6
            go_wp2_with fail
            refine ret_ve rfl rfl rfl rfl (l6.set _ _ _ _) ⟨.inr ⟨HNO.out, rfl⟩, below_set4 (Below.chain (Below.chain HO2.out.b hb5) hb6) (Nat.le_refl _) _ _ _ _⟩
        · skip
          have TX := Lib.hid (rtxt_right 2 N 0 ⟨#[]⟩ (by omega) (by omega) (by decide) (by decide) (by simp [rightB]))
          rw [show textV 2 N 0 ⟨#[]⟩ = Lib.itoa N by simp [textV]] at TX
          obtain ⟨T, hT⟩ : ∃ T : ByteArray, T = ⟨(Lib.itoa N).toArray⟩ := ⟨_, rfl⟩
          rw [← hT] at TX
          have hTl : T.toList = Lib.itoa N := by rw [hT, Lib.toList_data]
          have hsl : s.toList = l := by rw [Lib.toList_data]; exact HL.out
          have HTL := Lib.hid (And.intro hTl hsl)
          clear hT hTl hsl
          by_cases heq : Lib.itoa N = l
          · have bq : (T.toList != s.toList) = false := by rw [HTL.out.1, HTL.out.2, heq]; simp
            have bq2 : (T.toList == s.toList) = true := by rw [HTL.out.1, HTL.out.2, heq]; simp
            have HEQ := Lib.hid heq
            clear heq
            go_wp2_with fail
            refine (TX.out _).mono ?_; rintro e w5 ⟨rfl, hb5⟩
            have ⟨_, _, _, _⟩ := HO.out.lv.below hb5
            have l5 := HO.out.lr.below hb5
            have f5 := HO.out.fr.below HO.out.lr hb5
            have ⟨_, _, _, _⟩ := l5
            have ⟨_, _, _, _⟩ := f5
            go_wp2_with fail
            refine ret_ve rfl rfl rfl rfl (l5.set _ _ _ _) ⟨.inl ⟨N, by omega, by omega, HEQ.out, rfl⟩, below_set4 (Below.chain HO.out.b hb5) (Nat.le_refl _) _ _ _ _⟩
          · have bq : (T.toList != s.toList) = true := by rw [HTL.out.1, HTL.out.2]; simpa using heq
            have bq2 : (T.toList == s.toList) = false := by rw [HTL.out.1, HTL.out.2]; simpa using heq
            have bq3 : ¬ T.toList = s.toList := by rw [HTL.out.1, HTL.out.2]; exact heq
            have HNO := Lib.hid (show ∀ x, -9223372036854775808 ≤ x → x ≤ 9223372036854775807 → Lib.itoa x ≠ l from fun x x1 x2 q => by
              have hle := itoa_len20 x x1 x2
              rw [q, hlen.out] at hle
              have hsf := HSF.out
              have hi : i = l.length := by rw [hlen.out]; omega
              rw [hi] at hsf
              have hr := last_right true hsf x1 x2 q hd0.out
              rw [hr.1 rfl] at heq
              exact heq q)
            clear heq
            go_wp2_with fail
            refine (TX.out _).mono ?_; rintro e w5 ⟨rfl, hb5⟩
            have l5 := HO.out.lr.below hb5
            have f5 := HO.out.fr.below HO.out.lr hb5
            go_wp2_with fail
            refine (rnull_any _).mono ?_; rintro e w6 ⟨rfl, hb6⟩
            have l6 := l5.below hb6
            have f6 := f5.below l5 hb6
            have ⟨_, _, _, _⟩ := l6
            have ⟨_, _, _, _⟩ := f6
            go_wp2_with fail
            refine ret_ve rfl rfl rfl rfl (l6.set _ _ _ _) ⟨.inr ⟨HNO.out, rfl⟩, below_set4 (Below.chain (Below.chain HO.out.b hb5) hb6) (Nat.le_refl _) _ _ _ _⟩
      · have x1 : decide ((i : Int) < (s.size : Int)) = false := by simp; omega
        have x2 : decide (i < s.size) = false := by simp; omega
        cases dn
        · skip
          obtain ⟨M, hM⟩ : ∃ M, wrap64 (-N) = M := ⟨_, rfl⟩
          have mb := (wrap64_bd (-N))
          rw [hM] at mb
          have mb1 := mb.1
          have mb2 := mb.2.1
          have HO2 := Lib.hid (HO.out.set M)
          have hM' : IntKind.i64.wrap (-N) = M := by rw [IntWalk.i64_left]; exact hM
          have HM := Lib.hid hM
          clear mb
          have TX := Lib.hid (rtxt_right 2 M 0 ⟨#[]⟩ (by omega) (by omega) (by decide) (by decide) (by simp [rightB]))
          rw [show textV 2 M 0 ⟨#[]⟩ = Lib.itoa M by simp [textV]] at TX
          obtain ⟨T, hT⟩ : ∃ T : ByteArray, T = ⟨(Lib.itoa M).toArray⟩ := ⟨_, rfl⟩
          rw [← hT] at TX
          have hTl : T.toList = Lib.itoa M := by rw [hT, Lib.toList_data]
          have hsl : s.toList = l := by rw [Lib.toList_data]; exact HL.out
          have HTL := Lib.hid (And.intro hTl hsl)
          clear hT hTl hsl
          by_cases heq : Lib.itoa M = l
          · have bq : (T.toList != s.toList) = false := by rw [HTL.out.1, HTL.out.2, heq]; simp
            have bq2 : (T.toList == s.toList) = true := by rw [HTL.out.1, HTL.out.2, heq]; simp
            have HEQ := Lib.hid heq
            clear heq
            have ⟨_, _, _, _⟩ := HO2.out.lv
            go_wp2_with fail
            refine (TX.out _).mono ?_; rintro e w5 ⟨rfl, hb5⟩
            have ⟨_, _, _, _⟩ := HO2.out.lv.below hb5
            have l5 := HO2.out.lr.below hb5
            have f5 := HO2.out.fr.below HO2.out.lr hb5
            have ⟨_, _, _, _⟩ := l5
            have ⟨_, _, _, _⟩ := f5
            go_wp2_with fail
            refine ret_ve rfl rfl rfl rfl (l5.set _ _ _ _) ⟨.inl ⟨M, by omega, by omega, HEQ.out, rfl⟩, below_set4 (Below.chain HO2.out.b hb5) (Nat.le_refl _) _ _ _ _⟩
          · have bq : (T.toList != s.toList) = true := by rw [HTL.out.1, HTL.out.2]; simpa using heq
            have bq2 : (T.toList == s.toList) = false := by rw [HTL.out.1, HTL.out.2]; simpa using heq
            have bq3 : ¬ T.toList = s.toList := by rw [HTL.out.1, HTL.out.2]; exact heq
            have HNO := Lib.hid (show ∀ x, -9223372036854775808 ≤ x → x ≤ 9223372036854775807 → Lib.itoa x ≠ l from fun x x1 x2 q => by
              have hle := itoa_len20 x x1 x2
              rw [q, hlen.out] at hle
              have hsf := HSF.out
              have hi : i = l.length := by rw [hlen.out]; omega
              rw [hi] at hsf
              have hr := last_right false hsf x1 x2 q hd0.out
              rw [← HM.out, hr.2 rfl] at heq
              exact heq q)
            clear heq
            have ⟨_, _, _, _⟩ := HO2.out.lv
            go_wp2_with fail
            refine (TX.out _).mono ?_; rintro e w5 ⟨rfl, hb5⟩
            have l5 := HO2.out.lr.below hb5
            have f5 := HO2.out.fr.below HO2.out.lr hb5
            go_wp2_with fail
            refine (rnull_any _).mono ?_; rintro e w6 ⟨rfl, hb6⟩
            have l6 := l5.below hb6
            have f6 := f5.below l5 hb6
            have ⟨_, _, _, _⟩ := l6
            have ⟨_, _, _, _⟩ := f6
            go_wp2_with fail
            refine ret_ve rfl rfl rfl rfl (l6.set _ _ _ _) ⟨.inr ⟨HNO.out, rfl⟩, below_set4 (Below.chain (Below.chain HO2.out.b hb5) hb6) (Nat.le_refl _) _ _ _ _⟩
        · skip
          have TX := Lib.hid (rtxt_right 2 N 0 ⟨#[]⟩ (by omega) (by omega) (by decide) (by decide) (by simp [rightB]))
          rw [show textV 2 N 0 ⟨#[]⟩ = Lib.itoa N by simp [textV]] at TX
          obtain ⟨T, hT⟩ : ∃ T : ByteArray, T = ⟨(Lib.itoa N).toArray⟩ := ⟨_, rfl⟩
          rw [← hT] at TX
          have hTl : T.toList = Lib.itoa N := by rw [hT, Lib.toList_data]
          have hsl : s.toList = l := by rw [Lib.toList_data]; exact HL.out
          have HTL := Lib.hid (And.intro hTl hsl)
          clear hT hTl hsl
          by_cases heq : Lib.itoa N = l
          · have bq : (T.toList != s.toList) = false := by rw [HTL.out.1, HTL.out.2, heq]; simp
            have bq2 : (T.toList == s.toList) = true := by rw [HTL.out.1, HTL.out.2, heq]; simp
            have HEQ := Lib.hid heq
            clear heq
            go_wp2_with fail
            refine (TX.out _).mono ?_; rintro e w5 ⟨rfl, hb5⟩
            have ⟨_, _, _, _⟩ := HO.out.lv.below hb5
            have l5 := HO.out.lr.below hb5
            have f5 := HO.out.fr.below HO.out.lr hb5
            have ⟨_, _, _, _⟩ := l5
            have ⟨_, _, _, _⟩ := f5
            go_wp2_with fail
            refine ret_ve rfl rfl rfl rfl (l5.set _ _ _ _) ⟨.inl ⟨N, by omega, by omega, HEQ.out, rfl⟩, below_set4 (Below.chain HO.out.b hb5) (Nat.le_refl _) _ _ _ _⟩
          · have bq : (T.toList != s.toList) = true := by rw [HTL.out.1, HTL.out.2]; simpa using heq
            have bq2 : (T.toList == s.toList) = false := by rw [HTL.out.1, HTL.out.2]; simpa using heq
            have bq3 : ¬ T.toList = s.toList := by rw [HTL.out.1, HTL.out.2]; exact heq
            have HNO := Lib.hid (show ∀ x, -9223372036854775808 ≤ x → x ≤ 9223372036854775807 → Lib.itoa x ≠ l from fun x x1 x2 q => by
              have hle := itoa_len20 x x1 x2
              rw [q, hlen.out] at hle
              have hsf := HSF.out
              have hi : i = l.length := by rw [hlen.out]; omega
              rw [hi] at hsf
              have hr := last_right true hsf x1 x2 q hd0.out
              rw [hr.1 rfl] at heq
              exact heq q)
            clear heq
            go_wp2_with fail
            refine (TX.out _).mono ?_; rintro e w5 ⟨rfl, hb5⟩
            have l5 := HO.out.lr.below hb5
            have f5 := HO.out.fr.below HO.out.lr hb5
            go_wp2_with fail
            refine (rnull_any _).mono ?_; rintro e w6 ⟨rfl, hb6⟩
            have l6 := l5.below hb6
            have f6 := f5.below l5 hb6
            have ⟨_, _, _, _⟩ := l6
            have ⟨_, _, _, _⟩ := f6
            go_wp2_with fail
            refine ret_ve rfl rfl rfl rfl (l6.set _ _ _ _) ⟨.inr ⟨HNO.out, rfl⟩, below_set4 (Below.chain (Below.chain HO.out.b hb5) hb6) (Nat.le_refl _) _ _ _ _⟩
end Go.Proofs.YtainigcchlgehaaGreatDoor


