import Derived.Test.YtpnbjofddlbagaaDoorWrc
namespace Go.Proofs.YtpnbjofddlbagaaDoor
open Go Go.RowKit
set_option linter.unusedVariables false
def isD (c : UInt8) : Prop := 48 ≤ c.toNat ∧ c.toNat ≤ 57
def valD (l : List UInt8) : Nat := l.foldl (fun a c => a * 10 + (c.toNat - 48)) 0
theorem valD_app (l : List UInt8) (c : UInt8) : valD (l ++ [c]) = valD l * 10 + (c.toNat - 48) := by unfold valD; rw [List.foldl_append]; rfl
theorem digit_of (c : UInt8) (h : isD c) : UInt8.ofNat (48 + (c.toNat - 48)) = c := by
  unfold isD at h
  rw [show 48 + (c.toNat - 48) = c.toNat from by omega]
  exact UInt8.ofNat_toNat
theorem dec_val (k : Nat) : ∀ l : List UInt8, l.length = k → (∀ c ∈ l, isD c) → l ≠ [] → (1 < l.length → l.head? ≠ some 48) → l = Lib.decDigits (valD l) ∧ (l.head? ≠ some 48 → 0 < valD l) := by
  induction k with
  | zero => intro l hk _ hne; exact absurd (List.length_eq_zero_iff.1 hk) hne
  | succ k ih =>
    intro l hk hd _ hh
    obtain ⟨l', c, rfl⟩ : ∃ l' c, l = l' ++ [c] := ⟨l.dropLast, l.getLast (by intro h; rw [h] at hk; simp at hk), (List.dropLast_concat_getLast _).symm⟩
    have hc := hd c (by simp)
    rw [valD_app]
    by_cases hl : l' = []
    · subst hl
      have hv : valD [] = 0 := rfl
      unfold isD at hc
      rw [hv, Nat.zero_mul, Nat.zero_add, Lib.decDigits_one (by omega), digit_of c hc]
      refine ⟨rfl, ?_⟩
      intro h
      apply Nat.pos_of_ne_zero
      intro h2
      apply h
      simp only [List.nil_append, List.head?_cons]
      congr 1
      have : c.toNat = 48 := by omega
      rw [← UInt8.ofNat_toNat (x := c), this]
      rfl
    · have hlen : 0 < l'.length := List.length_pos_iff.2 hl
      have hh' : l'.head? ≠ some 48 := by
        have := hh (by simp; omega)
        cases l' with
        | nil => exact absurd rfl hl
        | cons a t => simpa using this
      obtain ⟨e, p⟩ := ih l' (by simp at hk; omega) (fun c hc => hd c (by simp [hc])) hl (fun _ => hh')
      have hp := p hh'
      refine ⟨?_, fun _ => by omega⟩
      unfold isD at hc
      rw [Lib.decDigits, dif_neg (by omega), show (valD l' * 10 + (c.toNat - 48)) / 10 = valD l' from by omega, show (valD l' * 10 + (c.toNat - 48)) % 10 = c.toNat - 48 from by omega, digit_of c hc, ← e]
theorem dec_lead (n : Nat) (h : 0 < n) : (Lib.decDigits n).head? ≠ some 48 := by
  induction n using Nat.strongRecOn with
  | ind n ih =>
    by_cases h10 : n < 10
    · rw [Lib.decDigits_one h10]
      simp only [List.head?_cons]
      intro e
      injection e with e
      have := congrArg UInt8.toNat e
      rw [UInt8.toNat_ofNat'] at this
      have h48 : (48 : UInt8).toNat = 48 := rfl
      omega
    · rw [Lib.decDigits, dif_neg h10]
      have := ih (n / 10) (by omega) (by omega)
      have hne := dec_ne (n / 10)
      cases hd : Lib.decDigits (n / 10) with
      | nil => exact absurd hd hne
      | cons a t => rw [hd] at this; simpa using this
theorem dec_inj {n m : Nat} (h : Lib.decDigits n = Lib.decDigits m) : n = m := by
  have key : ∀ n, valD (Lib.decDigits n) = n := by
    intro n
    induction n using Nat.strongRecOn with
    | ind n ih =>
      have dig : ∀ d : Nat, d < 10 → (UInt8.ofNat (48 + d)).toNat = 48 + d := by
        intro d hd
        rw [UInt8.toNat_ofNat']
        omega
      by_cases h10 : n < 10
      · rw [Lib.decDigits_one h10]
        show 0 * 10 + ((UInt8.ofNat (48 + n)).toNat - 48) = n
        rw [dig n h10]
        omega
      · rw [Lib.decDigits, dif_neg h10, valD_app, ih (n / 10) (by omega), dig _ (by omega)]
        omega
  rw [← key n, h, key m]
theorem dec_len_pow : ∀ (k n : Nat), n < 10 ^ (k + 1) → (Lib.decDigits n).length ≤ k + 1
  | 0, n, h => by rw [Lib.decDigits_one (by simpa using h)]; simp
  | k + 1, n, h => by
    by_cases h10 : n < 10
    · rw [Lib.decDigits_one h10]; simp
    · rw [Lib.decDigits, dif_neg h10]
      rw [Nat.pow_succ] at h
      have := dec_len_pow k (n / 10) (by omega)
      simp
      omega
theorem dec_len17 {n : Nat} (h : n < 100000000000000000) : (Lib.decDigits n).length ≤ 17 := dec_len_pow 16 n (by simpa using h)
/-- what number answers -/
def NumOk (l : List UInt8) (most : Nat) (v : Int) : Prop := (∃ n : Nat, v = n ∧ n ≤ most ∧ l = Lib.decDigits n) ∨ (v = -1 ∧ ∀ n ≤ most, l ≠ Lib.decDigits n)
theorem numOk_bad {l : List UInt8} {most : Nat} (h : ∀ n ≤ most, l ≠ Lib.decDigits n) : NumOk l most (-1) := Or.inr ⟨rfl, h⟩
theorem numOk_end {l : List UInt8} {most : Nat} (hd : ∀ c ∈ l, isD c) (hne : l ≠ []) (hh : 1 < l.length → l.head? ≠ some 48) : (valD l ≤ most → NumOk l most (valD l)) ∧ (most < valD l → NumOk l most (-1)) := by
  obtain ⟨e, _⟩ := dec_val l.length l rfl hd hne hh
  refine ⟨fun h => Or.inl ⟨_, rfl, h, e⟩, fun h => Or.inr ⟨rfl, fun n hn hc => ?_⟩⟩
  rw [e] at hc
  have := dec_inj hc
  omega
theorem size_list (s : ByteArray) : s.data.toList.length = s.size := by simp
theorem num_empty (s : ByteArray) (most : Int) (h : (s.toList == []) = true) (w : World) :
    Calls Tryd.prog 40 #[.string s, .int .i64 most] w fun e w' => e = .returned (.int .i64 (-1)) ∧ w = w' := by
  go_enter Tryd.func40, Tryd.ntmps40
  go_wp2
  go_ret
  exact ⟨rfl, rfl⟩
theorem num_lead (s : ByteArray) (most : Int) (h : (s.toList == []) = false) (h1 : 1 < s.size) (h2 : s.size ≤ 1000) (h0 : s[0].toNat = 48) (w : World) :
    Calls Tryd.prog 40 #[.string s, .int .i64 most] w fun e w' => e = .returned (.int .i64 (-1)) ∧ w = w' := by
  go_enter Tryd.func40, Tryd.ntmps40
  go_wp2
  go_ret
  exact ⟨rfl, rfl⟩
theorem num_long (s : ByteArray) (most : Int) (h : (s.toList == []) = false) (h1 : 17 < s.size) (h2 : s.size ≤ 1000) (h0 : s[0].toNat ≠ 48) (w : World) :
    Calls Tryd.prog 40 #[.string s, .int .i64 most] w fun e w' => e = .returned (.int .i64 (-1)) ∧ w = w' := by
  have hb : ((s[0].toNat : Int) == 48) = false := by rw [beq_eq_false_iff_ne]; omega
  go_enter Tryd.func40, Tryd.ntmps40
  go_wp2
  go_ret
  exact ⟨rfl, rfl⟩
set_option maxHeartbeats 1000000 in
theorem num_loop1 (s : ByteArray) (most : Nat) (hm : most < 100000000000000000) (h : (s.toList == []) = false) (h1 : s.size ≤ 17) (h2 : s.size = 1)
    (w : World) (HX : Hid (∀ i (hi : i < s.size), ¬ isD s[i] → NumOk s.data.toList most (-1))) (HY : Hid ((∀ c ∈ s.data.toList, isD c) → (valD s.data.toList ≤ most → NumOk s.data.toList most (valD s.data.toList)) ∧ (most < valD s.data.toList → NumOk s.data.toList most (-1)))) :
    Calls Tryd.prog 40 #[.string s, .int .i64 (most : Int)] w fun e w' => (∃ v, e = .returned (.int .i64 v) ∧ NumOk s.data.toList most v) ∧ w = w' := by
  go_enter Tryd.func40, Tryd.ntmps40
  go_wp2_with fail
  go_loop [5, 6] (fun t5 t6 => ∃ (i n : Nat), t5 = .int .i64 (n : Int) ∧ t6 = .int .i64 (i : Int) ∧ i ≤ s.size ∧ n < 100000000000000000 ∧ Hid (n < 10 ^ i ∧ n = valD (s.data.toList.take i) ∧ ∀ c ∈ s.data.toList.take i, isD c)) (fun _ t6 => 60 - (intOf t6).toNat)
  case atStart => exact ⟨0, 0, rfl, rfl, by omega, by omega, Lib.hid (by simp [valD])⟩
  case round =>
    obtain ⟨i, n, rfl, rfl, q1, q2, hinv⟩ := hrel
    by_cases hi : i < s.size
    · by_cases hlo : s[i].toNat < 48
      · have hx := HX.out i hi (fun h => by unfold isD at h; omega)
        have HXX := Lib.hid hx
        clear hx HX HY
        go_wp2
        go_ret
        exact ⟨⟨_, rfl, HXX.out⟩, rfl⟩
      · by_cases hhi : 57 < s[i].toNat
        · have hx := HX.out i hi (fun h => by unfold isD at h; omega)
          have HXX := Lib.hid hx
          clear hx HX HY
          go_wp2
          go_ret
          exact ⟨⟨_, rfl, HXX.out⟩, rfl⟩
        · obtain ⟨j1, j2, j3⟩ := hinv.out
          have hp : n < 10000000000000000 := Nat.lt_of_lt_of_le j1 (Nat.pow_le_pow_right (by omega) (by omega : i ≤ 16))
          have htk : s.data.toList.take (i + 1) = s.data.toList.take i ++ [s[i]] := by
            rw [List.take_succ_eq_append_getElem (by rw [size_list]; exact hi)]
            rfl
          have hI : n * 10 + (s[i].toNat - 48) < 10 ^ (i + 1) ∧ n * 10 + (s[i].toNat - 48) = valD (s.data.toList.take (i + 1)) ∧ ∀ c ∈ s.data.toList.take (i + 1), isD c := by
            rw [htk, valD_app, ← j2]
            refine ⟨by rw [Nat.pow_succ]; omega, rfl, fun c hc => ?_⟩
            rcases List.mem_append.1 hc with h | h
            · exact j3 c h
            · simp only [List.mem_singleton] at h
              rw [h]
              exact ⟨by omega, by omega⟩
          have HI := Lib.hid hI
          have e1 : IntKind.u8.wrap ((s[i].toNat : Int) - 48) = (s[i].toNat : Int) - 48 := by simp [IntKind.wrap, IntKind.bits, IntKind.signed]; omega
          clear hI j1 j2 j3 htk HX HY hinv
          go_wp2
          go_round
          case rel => exact ⟨i + 1, n * 10 + (s[i].toNat - 48), by go_num, by go_num, by omega, by omega, HI⟩
          case measure => simp [intOf]; omega
    · have hie : i = s.size := by omega
      obtain ⟨j1, j2, j3⟩ := hinv.out
      rw [List.take_of_length_le (by rw [size_list]; omega)] at j2 j3
      obtain ⟨y1, y2⟩ := HY.out j3
      rw [← j2] at y1 y2
      clear HX HY hinv j1 j2 j3
      by_cases hgt : most < n
      · have y := Lib.hid (y2 hgt)
        clear y1 y2
        go_wp2
        go_ret
        exact ⟨⟨_, rfl, y.out⟩, rfl⟩
      · have y := Lib.hid (y1 (by omega))
        clear y1 y2
        go_wp2
        go_ret
        exact ⟨⟨_, rfl, y.out⟩, rfl⟩
set_option maxHeartbeats 1000000 in
theorem num_loop2 (s : ByteArray) (most : Nat) (hm : most < 100000000000000000) (h : (s.toList == []) = false) (h1 : s.size ≤ 17) (h2 : 1 < s.size) (hb : ((s[0].toNat : Int) == 48) = false)
    (w : World) (HX : Hid (∀ i (hi : i < s.size), ¬ isD s[i] → NumOk s.data.toList most (-1))) (HY : Hid ((∀ c ∈ s.data.toList, isD c) → (valD s.data.toList ≤ most → NumOk s.data.toList most (valD s.data.toList)) ∧ (most < valD s.data.toList → NumOk s.data.toList most (-1)))) :
    Calls Tryd.prog 40 #[.string s, .int .i64 (most : Int)] w fun e w' => (∃ v, e = .returned (.int .i64 v) ∧ NumOk s.data.toList most v) ∧ w = w' := by
  go_enter Tryd.func40, Tryd.ntmps40
  go_wp2_with fail
  go_loop [5, 6] (fun t5 t6 => ∃ (i n : Nat), t5 = .int .i64 (n : Int) ∧ t6 = .int .i64 (i : Int) ∧ i ≤ s.size ∧ n < 100000000000000000 ∧ Hid (n < 10 ^ i ∧ n = valD (s.data.toList.take i) ∧ ∀ c ∈ s.data.toList.take i, isD c)) (fun _ t6 => 60 - (intOf t6).toNat)
  case atStart => exact ⟨0, 0, rfl, rfl, by omega, by omega, Lib.hid (by simp [valD])⟩
  case round =>
    obtain ⟨i, n, rfl, rfl, q1, q2, hinv⟩ := hrel
    by_cases hi : i < s.size
    · by_cases hlo : s[i].toNat < 48
      · have hx := HX.out i hi (fun h => by unfold isD at h; omega)
        have HXX := Lib.hid hx
        clear hx HX HY
        go_wp2
        go_ret
        exact ⟨⟨_, rfl, HXX.out⟩, rfl⟩
      · by_cases hhi : 57 < s[i].toNat
        · have hx := HX.out i hi (fun h => by unfold isD at h; omega)
          have HXX := Lib.hid hx
          clear hx HX HY
          go_wp2
          go_ret
          exact ⟨⟨_, rfl, HXX.out⟩, rfl⟩
        · obtain ⟨j1, j2, j3⟩ := hinv.out
          have hp : n < 10000000000000000 := Nat.lt_of_lt_of_le j1 (Nat.pow_le_pow_right (by omega) (by omega : i ≤ 16))
          have htk : s.data.toList.take (i + 1) = s.data.toList.take i ++ [s[i]] := by
            rw [List.take_succ_eq_append_getElem (by rw [size_list]; exact hi)]
            rfl
          have hI : n * 10 + (s[i].toNat - 48) < 10 ^ (i + 1) ∧ n * 10 + (s[i].toNat - 48) = valD (s.data.toList.take (i + 1)) ∧ ∀ c ∈ s.data.toList.take (i + 1), isD c := by
            rw [htk, valD_app, ← j2]
            refine ⟨by rw [Nat.pow_succ]; omega, rfl, fun c hc => ?_⟩
            rcases List.mem_append.1 hc with h | h
            · exact j3 c h
            · simp only [List.mem_singleton] at h
              rw [h]
              exact ⟨by omega, by omega⟩
          have HI := Lib.hid hI
          have e1 : IntKind.u8.wrap ((s[i].toNat : Int) - 48) = (s[i].toNat : Int) - 48 := by simp [IntKind.wrap, IntKind.bits, IntKind.signed]; omega
          clear hI j1 j2 j3 htk HX HY hinv
          go_wp2
          go_round
          case rel => exact ⟨i + 1, n * 10 + (s[i].toNat - 48), by go_num, by go_num, by omega, by omega, HI⟩
          case measure => simp [intOf]; omega
    · have hie : i = s.size := by omega
      obtain ⟨j1, j2, j3⟩ := hinv.out
      rw [List.take_of_length_le (by rw [size_list]; omega)] at j2 j3
      obtain ⟨y1, y2⟩ := HY.out j3
      rw [← j2] at y1 y2
      clear HX HY hinv j1 j2 j3
      by_cases hgt : most < n
      · have y := Lib.hid (y2 hgt)
        clear y1 y2
        go_wp2
        go_ret
        exact ⟨⟨_, rfl, y.out⟩, rfl⟩
      · have y := Lib.hid (y1 (by omega))
        clear y1 y2
        go_wp2
        go_ret
        exact ⟨⟨_, rfl, y.out⟩, rfl⟩
theorem number_any (s : ByteArray) (most : Nat) (hm : most < 100000000000000000) (hs : s.size ≤ 1000) (w : World) :
    Calls Tryd.prog 40 #[.string s, .int .i64 (most : Int)] w fun e w' => (∃ v, e = .returned (.int .i64 v) ∧ NumOk s.data.toList most v) ∧ w = w' := by
  have hz := size_list s
  by_cases h0 : s.data.toList = []
  · refine (num_empty s most (by rw [Lib.toList_data, h0]; rfl) w).mono ?_
    rintro e w' ⟨he, hw⟩
    exact ⟨⟨_, he, numOk_bad fun n _ h => dec_ne n (by rw [← h, h0])⟩, hw⟩
  · have hp : 0 < s.size := by rw [← hz]; exact List.length_pos_iff.2 h0
    have hne : (s.toList == []) = false := by rw [Lib.toList_data]; simpa using h0
    have hhd : s.data.toList.head? = some s[0] := by
      rw [List.head?_eq_getElem?, List.getElem?_eq_getElem (by rw [hz]; exact hp)]
      rfl
    by_cases hl : 1 < s.size ∧ s[0].toNat = 48
    · refine (num_lead s most hne hl.1 hs hl.2 w).mono ?_
      rintro e w' ⟨he, hw⟩
      refine ⟨⟨_, he, numOk_bad fun n _ h => ?_⟩, hw⟩
      have h48 : s[0] = 48 := by rw [← UInt8.ofNat_toNat (x := s[0]), hl.2]; rfl
      rw [h, h48] at hhd
      by_cases hn : n = 0
      · subst hn
        rw [h, Lib.decDigits_one (by omega)] at hz
        simp at hz
        omega
      · exact dec_lead n (by omega) hhd
    · by_cases hlen : 17 < s.size
      · refine (num_long s most hne hlen hs (fun h => hl ⟨by omega, h⟩) w).mono ?_
        rintro e w' ⟨he, hw⟩
        refine ⟨⟨_, he, numOk_bad fun n hn h => ?_⟩, hw⟩
        have := dec_len17 (n := n) (by omega)
        rw [← h, hz] at this
        omega
      · have HX : Hid (∀ i (hi : i < s.size), ¬ isD s[i] → NumOk s.data.toList most (-1)) := Lib.hid fun i hi hd => numOk_bad fun n _ h => hd (by
          refine dec_digits n s[i] ?_
          rw [← h]
          have : s[i] = s.data.toList[i]'(by rw [hz]; exact hi) := rfl
          rw [this]
          exact List.getElem_mem _)
        have HY : Hid ((∀ c ∈ s.data.toList, isD c) → (valD s.data.toList ≤ most → NumOk s.data.toList most (valD s.data.toList)) ∧ (most < valD s.data.toList → NumOk s.data.toList most (-1))) := Lib.hid fun hd => numOk_end hd h0 (fun h => by
          rw [hhd]
          intro e
          injection e with e
          exact hl ⟨by omega, by rw [e]; rfl⟩)
        by_cases h1 : s.size = 1
        · exact num_loop1 s most hm hne (by omega) h1 w HX HY
        · exact num_loop2 s most hm hne (by omega) (by omega) (by rw [beq_eq_false_iff_ne]; intro h; exact hl ⟨by omega, by omega⟩) w HX HY
end Go.Proofs.YtpnbjofddlbagaaDoor
