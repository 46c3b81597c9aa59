import Derived.Test.YtpnbjofddlbagaaDoorWyb
namespace Go.Proofs.YtpnbjofddlbagaaDoor
open Go Go.RowKit
set_option linter.unusedVariables false
theorem rp_nan (s : ByteArray) (h1 : (s.toList == [110, 97, 110]) = true) (w : World) : Calls Tryd.prog 24 #[.string s] w fun e w' => e = .returned (.tuple #[.float .f64 9221120237041090561, .int .i64 0]) ∧ w = w' := by
  have hf := run_frombits
  go_enter Tryd.func24, Tryd.ntmps24
  go_wp2
  go_ret2
  exact ⟨ret_tup2 (val_float (by omega)) rfl, rfl⟩
theorem rp_inf (s : ByteArray) (hs : s.size ≤ 50) (hp0 : 0 < s.size) (h1 : (s.toList == [110, 97, 110]) = false) (h2 : (s.toList == [105, 110, 102]) = true) (h3 : (s.toList == [48, 112, 48]) = false) (hc : ((s[0].toNat : Int) == 45) = false) (w : World) : Calls Tryd.prog 24 #[.string s] w fun e w' => e = .returned (.tuple #[.float .f64 9218868437227405312, .int .i64 0]) ∧ w = w' := by
  have hf := run_frombits
  go_enter Tryd.func24, Tryd.ntmps24
  go_wp2
  go_ret2
  exact ⟨ret_tup2 (val_float (by omega)) rfl, rfl⟩
theorem rp_zero (s : ByteArray) (hs : s.size ≤ 50) (hp0 : 0 < s.size) (h1 : (s.toList == [110, 97, 110]) = false) (h2 : (s.toList == [105, 110, 102]) = false) (h3 : (s.toList == [48, 112, 48]) = true) (hc : ((s[0].toNat : Int) == 45) = false) (w : World) : Calls Tryd.prog 24 #[.string s] w fun e w' => e = .returned (.tuple #[.float .f64 0, .int .i64 0]) ∧ w = w' := by
  have hf := run_frombits
  go_enter Tryd.func24, Tryd.ntmps24
  go_wp2
  go_ret2
  exact ⟨ret_tup2 (val_float (by omega)) rfl, rfl⟩
theorem rp_minf (s T : ByteArray) (hs : s.size ≤ 50) (hp0 : 0 < s.size) (hT : s.extract 1 s.size = T) (hTs : T.size ≤ 49) (h1 : (s.toList == [110, 97, 110]) = false) (h2 : (T.toList == [105, 110, 102]) = true) (h3 : (T.toList == [48, 112, 48]) = false) (hc : s[0].toNat = 45) (w : World) : Calls Tryd.prog 24 #[.string s] w fun e w' => e = .returned (.tuple #[.float .f64 18442240474082181120, .int .i64 0]) ∧ w = w' := by
  have hf := run_frombits
  go_enter Tryd.func24, Tryd.ntmps24
  go_wp2
  go_ret2
  exact ⟨ret_tup2 (val_float (by omega)) rfl, rfl⟩
theorem rp_mzero (s T : ByteArray) (hs : s.size ≤ 50) (hp0 : 0 < s.size) (hT : s.extract 1 s.size = T) (hTs : T.size ≤ 49) (h1 : (s.toList == [110, 97, 110]) = false) (h2 : (T.toList == [105, 110, 102]) = false) (h3 : (T.toList == [48, 112, 48]) = true) (hc : s[0].toNat = 45) (w : World) : Calls Tryd.prog 24 #[.string s] w fun e w' => e = .returned (.tuple #[.float .f64 9223372036854775808, .int .i64 0]) ∧ w = w' := by
  have hf := run_frombits
  go_enter Tryd.func24, Tryd.ntmps24
  go_wp2
  go_ret2
  exact ⟨ret_tup2 (val_float (by omega)) rfl, rfl⟩
theorem rp_empty (w : World) : Calls Tryd.prog 24 #[.string ⟨#[]⟩] w fun e w' => e = .returned (.tuple #[.float .f64 0, .int .i64 2]) ∧ w = w' := by
  have HE := num_empty ⟨#[]⟩ 9007199254740991 (by rw [Lib.toList_data]; rfl)
  go_enter Tryd.func24, Tryd.ntmps24
  go_wp2_with fail
  go_loop [6] (fun t6 => t6 = .int .i64 0) (fun _ => 0)
  case atStart => rfl
  case round =>
    subst hrel
    go_wp2_with fail
    refine (HE _).mono ?_
    rintro e w' ⟨rfl, rfl⟩
    go_wp2
    go_ret2
    exact ⟨rfl, rfl⟩
theorem ps_nan : parseSem [110, 97, 110] = some 9221120237041090561 := by
  have h := parseSem_text (a := 9221120237041090561) (by decide)
  rw [show Flt.text 9221120237041090561 = [110, 97, 110] from by decide, show Flt.canon 9221120237041090561 = 9221120237041090561 from by decide] at h
  exact h
theorem ps_inf : parseSem [105, 110, 102] = some 9218868437227405312 := by
  have h := parseSem_text (a := 9218868437227405312) (by decide)
  rw [show Flt.text 9218868437227405312 = [105, 110, 102] from by decide, show Flt.canon 9218868437227405312 = 9218868437227405312 from by decide] at h
  exact h
theorem ps_minf : parseSem [45, 105, 110, 102] = some 18442240474082181120 := by
  have h := parseSem_text (a := 18442240474082181120) (by decide)
  rw [show Flt.text 18442240474082181120 = [45, 105, 110, 102] from by decide, show Flt.canon 18442240474082181120 = 18442240474082181120 from by decide] at h
  exact h
theorem ps_z (s : Bool) : parseSem ((if s = true then [45] else []) ++ [48, 112, 48]) = some (withSign s 0) := by
  obtain ⟨t1, t2, t3, t4, t5⟩ := text_shape s (r := 0) (by decide)
  have hz : shape s (Flt.oddM 0) (Flt.oddE 0) = (if s = true then [45] else []) ++ [48, 112, 48] := by
    unfold shape
    rw [show Flt.oddM 0 = 0 from rfl, show Flt.oddE 0 = ((0 : Nat) : Int) from rfl, Lib.itoa_nonneg, Lib.decDigits_one (by omega)]
    rfl
  have h := parseSem_text t4
  rw [t1, hz, t3] at h
  exact h
theorem first_shape (s : Bool) (m : Nat) (x : Int) : (shape s m x).head? = some 45 ↔ s = true := by
  obtain ⟨c, r, hcr, hc1, hc2⟩ := digit_first _ (rfl : Lib.decDigits m = _)
  unfold shape
  rw [hcr]
  cases s
  · simp
    intro h
    rw [h] at hc1
    revert hc1
    decide
  · simp
theorem ps_none {l : List UInt8} (h1 : l ≠ [110, 97, 110]) (h2 : l ≠ [105, 110, 102]) (h3 : l ≠ [45, 105, 110, 102]) (h4 : l ≠ [48, 112, 48]) (h5 : l ≠ [45, 48, 112, 48])
    (h6 : ∀ (s : Bool) (m : Nat) (x : Int), m % 2 = 1 → m < 9007199254740992 → Room m x → l ≠ shape s m x) : parseSem l = none := by
  cases h : parseSem l with
  | none => rfl
  | some g =>
    exfalso
    rcases parse_inv h with h | h | h | h | h | ⟨s, m, x, o, hm, hr, h⟩
    · exact h1 h
    · exact h2 h
    · exact h3 h
    · exact h4 h
    · exact h5 h
    · exact h6 s m x o hm hr h
theorem ps_room (s : Bool) {l : List UInt8} {M : Nat} {x : Int} (ho : M % 2 = 1) (hM : M < 9007199254740992) (h1 : -2000 ≤ x) (h2 : x ≤ 2000) (hl : l = shape s M x) :
    (Room M x → parseSem l = some (withSign s (Flt.rungOf M (x + 1074).toNat))) ∧ (¬ Room M x → parseSem l = none) := by
  rw [hl]
  exact ⟨fun hr => (room_some s ho hM hr).2, fun hr => room_none s ho hM (by omega) (by omega) hr⟩
theorem rparse_any (s : ByteArray) (hs : s.size ≤ 50) (w : World) :
    Calls Tryd.prog 24 #[.string s] w fun e w' => e = .returned (psTuple (parseSem s.data.toList)) ∧ w = w' := by
  have hz := size_list s
  have beqT : ∀ (S : ByteArray) (l : List UInt8), S.data.toList = l → (S.toList == l) = true := fun S l h => by rw [Lib.toList_data, h]; simp
  have beqF : ∀ (S : ByteArray) (l : List UInt8), S.data.toList ≠ l → (S.toList == l) = false := fun S l h => by rw [Lib.toList_data]; simpa using h
  by_cases h1 : s.data.toList = [110, 97, 110]
  · rw [h1, ps_nan]
    exact rp_nan s (beqT s _ h1) w
  by_cases h0 : s.data.toList = []
  · have he : s = ⟨#[]⟩ := by
      apply ByteArray.ext
      apply Array.toList_inj.1
      exact h0
    have hn : parseSem [] = none := ps_none (by decide) (by decide) (by decide) (by decide) (by decide) (fun s m x _ _ _ h => by
      have := congrArg List.length h
      unfold shape at this
      simp at this)
    rw [h0, hn, he]
    exact rp_empty w
  have hp : 0 < s.size := by rw [← hz]; exact List.length_pos_iff.2 h0
  have hhd : s.data.toList.head? = some s[0] := by
    rw [List.head?_eq_getElem?, List.getElem?_eq_getElem (by rw [hz]; exact hp)]
    rfl
  by_cases hc : s[0].toNat = 45
  · have h45 : s[0] = 45 := by rw [← UInt8.ofNat_toNat (x := s[0]), hc]; rfl
    rw [h45] at hhd
    obtain ⟨T, hT⟩ : ∃ T, s.extract 1 s.size = T := ⟨_, rfl⟩
    have hTl : T.data.toList = s.data.toList.drop 1 := by rw [← hT]; exact ext_drop _ _
    have hTs : T.size ≤ 49 := by rw [← size_list T, hTl, List.length_drop, hz]; omega
    have hL : s.data.toList = 45 :: T.data.toList := by
      rw [hTl]
      cases hl : s.data.toList with
      | nil => exact absurd hl h0
      | cons a t => rw [hl] at hhd; simp at hhd; subst hhd; rfl
    by_cases h2 : T.data.toList = [105, 110, 102]
    · rw [hL, h2, ps_minf]
      exact rp_minf s T hs hp hT hTs (beqF s _ h1) (beqT T _ h2) (beqF T _ (by rw [h2]; decide)) hc w
    by_cases h3 : T.data.toList = [48, 112, 48]
    · have hzz := ps_z true
      rw [hL, h3, show (45 : UInt8) :: [48, 112, 48] = (if true = true then [45] else []) ++ [48, 112, 48] from rfl, hzz]
      exact rp_mzero s T hs hp hT hTs (beqF s _ h1) (beqF T _ h2) (beqT T _ h3) hc w
    refine rp_minus s T hs hp hT hTs (beqF s _ h1) (beqF T _ h2) (beqF T _ h3) hc _ (Lib.hid ?_) (Lib.hid ?_) w
    · intro hg
      rw [hL]
      refine ps_none (by intro h; injection h with h _; revert h; decide) (by intro h; injection h with h _; revert h; decide) (by intro h; injection h with _ h; exact h2 h) (by intro h; injection h with h _; revert h; decide) (by intro h; injection h with _ h; exact h3 h) ?_
      intro sg m x ho hm hr h
      have hsg := (first_shape sg m x).1 (by rw [← h]; rfl)
      subst hsg
      rw [shape_tail] at h
      injection h with _ h
      exact hg ⟨m, x, ho, hm, hr, h⟩
    · intro M x ho hM x1 x2 ht
      refine ps_room true ho hM x1 x2 ?_
      rw [hL, ht, shape_tail]
      rfl
  · have hne : s.data.toList.head? ≠ some 45 := by
      rw [hhd]
      intro h
      injection h with h
      exact hc (by rw [h]; rfl)
    have hb : ((s[0].toNat : Int) == 45) = false := by rw [beq_eq_false_iff_ne]; omega
    by_cases h2 : s.data.toList = [105, 110, 102]
    · rw [h2, ps_inf]
      exact rp_inf s hs hp (beqF s _ h1) (beqT s _ h2) (beqF s _ (by rw [h2]; decide)) hb w
    by_cases h3 : s.data.toList = [48, 112, 48]
    · have hzz := ps_z false
      rw [h3, show ([48, 112, 48] : List UInt8) = (if false = true then [45] else []) ++ [48, 112, 48] from rfl, hzz]
      exact rp_zero s hs hp (beqF s _ h1) (beqF s _ h2) (beqT s _ h3) hb w
    refine rp_plus s hs hp (beqF s _ h1) (beqF s _ h2) (beqF s _ h3) hb _ (Lib.hid ?_) (Lib.hid ?_) w
    · intro hg
      refine ps_none h1 h2 (by intro h; rw [h] at hne; exact hne rfl) h3 (by intro h; rw [h] at hne; exact hne rfl) ?_
      intro sg m x ho hm hr h
      cases sg
      · exact hg ⟨m, x, ho, hm, hr, h⟩
      · rw [h] at hne
        exact hne ((first_shape true m x).2 rfl)
    · intro M x ho hM x1 x2 ht
      exact ps_room false ho hM x1 x2 ht
end Go.Proofs.YtpnbjofddlbagaaDoor
