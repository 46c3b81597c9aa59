import Derived.Test.YtblehbcehfmnkaaLA
namespace Go.Proofs.Ytblehbcehfmnkaa
open Go Go.RowKit
set_option linter.unusedVariables false
theorem run_store_float (a : Addr) (m : Mode) (k : FloatKind) (n : Nat) (w : World) : (store a (.float k n) m).run Try.prog w = stored Try.prog w a (.float k n) m := run_store Try.prog w a _ m rfl
/-- the four cells of a value -/
def Lies (w : World) (b : Nat) (v0 v1 v2 v3 : Value) : Prop := w.cell? ⟨b, 0, none⟩ = some v0 ∧ w.cell? ⟨b, 1, none⟩ = some v1 ∧ w.cell? ⟨b, 2, none⟩ = some v2 ∧ w.cell? ⟨b, 3, none⟩ = some v3
theorem lies_new (w : World) (a b c d : Value) (t : TypeId) : Lies (w.alloc (.cells #[a, b, c, d] t)) w.heap.size a b c d := ⟨by simp, by simp, by simp, by simp⟩
theorem Lies.below {w w' : World} {b : Nat} {v0 v1 v2 v3 : Value} (h : Lies w b v0 v1 v2 v3) (hb : Below w.heap.size w w') : Lies w' b v0 v1 v2 v3 :=
  ⟨(hb.cell (block_lt_of_cell h.1)).trans h.1, (hb.cell (block_lt_of_cell h.2.1)).trans h.2.1, (hb.cell (block_lt_of_cell h.2.2.1)).trans h.2.2.1, (hb.cell (block_lt_of_cell h.2.2.2)).trans h.2.2.2⟩
theorem load4 {w : World} {b : Nat} {v0 v1 v2 v3 : Value} (h : Lies w b v0 v1 v2 v3) : (loadVar 24 ⟨b, 0, none⟩).run Try.prog w = .ok (.agg #[v0, v1, v2, v3]) w := by
  obtain ⟨h0, h1, h2, h3⟩ := h
  go_simp
theorem ret_v {fn : Func} {p : Tmp} {R : Ending → World → Prop} {a : Act} {w : World} {b : Nat} {v0 v1 v2 v3 : Value} (h : fn.results = #[.cell p 24]) (hp : a.tmps.getD p undef = .pointer (some ⟨b, 0, none⟩)) (hd : a.defers = [])
    (hc : Lies w b v0 v1 v2 v3) (hR : R (.returned (.agg #[v0, v1, v2, v3])) w) : bodyPost Try.prog fn R .ret a w := by
  refine bodyPost_ret ?_ hd hR
  have hp' : a.tmps[p]?.getD undef = .pointer (some ⟨b, 0, none⟩) := by simpa using hp
  simp [results, h, hp', asAddr, load4 hc]
/-- the truth that a value stands for, and the error -/
def ofI (k n : Int) : Int := if k = 0 then 2 else if k = 1 ∧ n = 0 then 0 else if k = 1 ∧ n = 1 then 1 else 2
def ofE (k n : Int) : Int := if k = 0 then 0 else if k = 1 ∧ n = 0 then 0 else if k = 1 ∧ n = 1 then 0 else 4
abbrev ofR (k n : Int) : Value := .tuple #[.int .i64 (ofI k n), .int .i64 (ofE k n)]
theorem of_any (k n : Int) (f : Nat) (s : ByteArray) (w : World) : Calls Try.prog 10 #[av k n f s] w fun e w' => e = .returned (ofR k n) ∧ Below w.heap.size w w' := by
  by_cases h0 : k = 0
  · subst h0
    go_enter Try.func10, Try.ntmps10
    go_wp2
    go_ret2
    exact ⟨rfl, below_a1 _ _⟩
  · have b0 : (k == 0) = false := by simpa using h0
    by_cases h1 : k = 1
    · subst h1
      by_cases n0 : n = 0
      · subst n0
        go_enter Try.func10, Try.ntmps10
        go_wp2
        go_ret2
        exact ⟨rfl, below_a1 _ _⟩
      · have c0 : (n == 0) = false := by simpa using n0
        by_cases n1 : n = 1
        · subst n1
          go_enter Try.func10, Try.ntmps10
          go_wp2
          go_ret2
          exact ⟨rfl, below_a1 _ _⟩
        · have c1 : (n == 1) = false := by simpa using n1
          have e1 : ofR 1 n = .tuple #[.int .i64 2, .int .i64 4] := by simp [ofR, ofI, ofE, n0, n1]
          rw [e1]
          go_enter Try.func10, Try.ntmps10
          go_wp2
          go_ret2
          exact ⟨rfl, below_a1 _ _⟩
    · have b1 : (k == 1) = false := by simpa using h1
      have e1 : ofR k n = .tuple #[.int .i64 2, .int .i64 4] := by simp [ofR, ofI, ofE, h0, h1]
      rw [e1]
      go_enter Try.func10, Try.ntmps10
      go_wp2
      go_ret2
      exact ⟨rfl, below_a1 _ _⟩
theorem rof_any (k n : Int) (f : Nat) (s : ByteArray) (w : World) : Calls Try.prog 11 #[av k n f s] w fun e w' => e = .returned (ofR k n) ∧ Below w.heap.size w w' := by
  by_cases h0 : k = 0
  · subst h0
    go_enter Try.func11, Try.ntmps11
    go_wp2
    go_ret2
    exact ⟨rfl, below_a1 _ _⟩
  · have b0 : (k == 0) = false := by simpa using h0
    by_cases h1 : k = 1
    · subst h1
      by_cases n0 : n = 0
      · subst n0
        go_enter Try.func11, Try.ntmps11
        go_wp2
        go_ret2
        exact ⟨rfl, below_a1 _ _⟩
      · have c0 : (n == 0) = false := by simpa using n0
        by_cases n1 : n = 1
        · subst n1
          go_enter Try.func11, Try.ntmps11
          go_wp2
          go_ret2
          exact ⟨rfl, below_a1 _ _⟩
        · have c1 : (n == 1) = false := by simpa using n1
          have e1 : ofR 1 n = .tuple #[.int .i64 2, .int .i64 4] := by simp [ofR, ofI, ofE, n0, n1]
          rw [e1]
          go_enter Try.func11, Try.ntmps11
          go_wp2
          go_ret2
          exact ⟨rfl, below_a1 _ _⟩
    · have b1 : (k == 1) = false := by simpa using h1
      have e1 : ofR k n = .tuple #[.int .i64 2, .int .i64 4] := by simp [ofR, ofI, ofE, h0, h1]
      rw [e1]
      go_enter Try.func11, Try.ntmps11
      go_wp2
      go_ret2
      exact ⟨rfl, below_a1 _ _⟩
/-- a truth as a value -/
def vK (t : Int) : Int := if t = 0 ∨ t = 1 then 1 else 0
def vN (t : Int) : Int := if t = 1 then 1 else 0
theorem value_any (t : Int) (w : World) : Calls Try.prog 13 #[.int .i64 t] w fun e w' => e = .returned (av (vK t) (vN t) 0 ⟨#[]⟩) ∧ Below w.heap.size w w' := by
  have hsf := run_store_float
  by_cases h0 : t = 0
  · subst h0
    go_enter Try.func13, Try.ntmps13
    go_wp2_with fail
    refine ret_v rfl rfl rfl (lies_new _ _ _ _ _ _) ?_
    exact ⟨rfl, below_a1 _ _⟩
  · by_cases h1 : t = 1
    · subst h1
      go_enter Try.func13, Try.ntmps13
      go_wp2_with fail
      refine ret_v rfl rfl rfl (lies_new _ _ _ _ _ _) ?_
      exact ⟨rfl, below_a1 _ _⟩
    · have b0 : (t == 0) = false := by simpa using h0
      have b1 : (t == 1) = false := by simpa using h1
      have e1 : vK t = 0 := by unfold vK; rw [if_neg (by omega)]
      have e2 : vN t = 0 := by unfold vN; rw [if_neg h1]
      rw [e1, e2]
      go_enter Try.func13, Try.ntmps13
      go_wp2_with fail
      refine ret_v rfl rfl rfl (lies_new _ _ _ _ _ _) ?_
      exact ⟨rfl, below_a1 _ _⟩
def knB (a : Int) : Bool := (a == 0) || (a == 1)
theorem known_any (a : Int) (w : World) : Calls Try.prog 14 #[.int .i64 a] w fun e w' => e = .returned (.bool (knB a)) ∧ w = w' := by
  unfold knB
  cases h0 : a == 0 <;> cases h1 : a == 1
  all_goals
    go_enter Try.func14, Try.ntmps14
    go_wp2
    go_ret
    exact ⟨rfl, rfl⟩
theorem rnot_any (a : Int) (w : World) : Calls Try.prog 19 #[.int .i64 a] w fun e w' => e = .returned (.int .i64 (notI a)) ∧ w = w' := by
  by_cases h0 : a = 0
  · subst h0
    go_enter Try.func19, Try.ntmps19
    go_wp2_with fail
    refine (known_any _ _).mono ?_; rintro e w1 ⟨rfl, rfl⟩
    go_wp2_with fail
    go_ret
    exact ⟨rfl, rfl⟩
  · by_cases h1 : a = 1
    · subst h1
      go_enter Try.func19, Try.ntmps19
      go_wp2_with fail
      refine (known_any _ _).mono ?_; rintro e w1 ⟨rfl, rfl⟩
      go_wp2_with fail
      go_ret
      exact ⟨rfl, rfl⟩
    · have e : notI a = 2 := by unfold notI; rw [if_neg h0, if_neg h1]
      have hk : knB a = false := by simp [knB, h0, h1]
      rw [e]
      have K := Lib.hid (known_any a)
      rw [hk] at K
      go_enter Try.func19, Try.ntmps19
      go_wp2_with fail
      refine (K.out _).mono ?_; rintro e w1 ⟨rfl, rfl⟩
      go_wp2_with fail
      go_ret
      exact ⟨rfl, rfl⟩
theorem kn_is (x : Int) : knB x = decide (isI x = 0) := by
  unfold knB isI
  by_cases h0 : x = 0
  · subst h0; rfl
  · by_cases h1 : x = 1
    · subst h1; rfl
    · simp [h0, h1]
theorem rall_any (s : Int) (hs : s = 0 ∨ s = 1) (l : List Int) (v : Value) (n : Nat) (w : World) (h : Ts n w v l) :
    Calls Try.prog 16 #[v, .int .i64 s] w fun e w' => e = .returned (.int .i64 (joinI s l)) ∧ w = w' := by
  obtain ⟨ao, cap, rfl, h2, h3, h4, h5⟩ := h
  have H5 := Lib.hid h5
  clear h5
  simp only [maxLen] at h3
  generalize hL : l.length = L at *
  have HL := Lib.hid hL
  clear hL
  have hno : notI s = 1 - s := by rcases hs with rfl | rfl <;> rfl
  have HO := Lib.hid (show soFar s [] = 1 - s by simp [soFar, hno])
  have hw1 : wrap64 (1 - s) = 1 - s := by rcases hs with rfl | rfl <;> simp [wrap64]
  clear hs hno
  go_enter Try.func16, Try.ntmps16
  go_wp2_with fail
  rw [hw1]
  clear hw1
  go_loopg [5, 6] L (fun g s5 s6 wr => ∃ i : Nat, g + i = L ∧ s6 = .int .i64 i ∧ s5 = .int .i64 (soFar s (l.take i)) ∧ s ∉ l.take i ∧ wr = w)
  case atStart => exact ⟨0, rfl, rfl, by rw [List.take_zero, HO.out], by simp, rfl⟩
  case round =>
    obtain ⟨i, hg, rfl, rfl, hns, rfl⟩ := hrel
    by_cases hlt : i < L
    · have hi : i < l.length := by rw [HL.out]; exact hlt
      obtain ⟨a, rfl, hab, hcell⟩ := H5.out i l[i] (List.getElem?_eq_getElem hi)
      have ii : (i : Int) < (L : Int) := by omega
      have HT := Lib.hid (List.take_succ_eq_append_getElem hi)
      have HM := Lib.hid (List.getElem_mem hi)
      generalize l[i] = x at *
      by_cases hx : x = s
      · subst hx
        have bx : (x == x) = true := by simp
        go_wp2_with fail
        go_ret
        refine ⟨?_, rfl⟩
        unfold joinI; rw [if_pos HM.out]; rfl
      · have bx : (x == s) = false := by simpa using hx
        have HN := Lib.hid (show s ∉ l.take (i + 1) by
          rw [HT.out]; simp only [List.mem_append, List.mem_singleton]
          rintro (h | h)
          · exact hns h
          · exact hx h.symm)
        clear hx hns
        have K := Lib.hid (known_any x)
        by_cases hk : x = 0 ∨ x = 1
        · have e0 : isI x = 0 := by unfold isI; rw [if_pos hk]
          have HS := Lib.hid (show soFar s (l.take (i + 1)) = soFar s (l.take i) by
            rw [HT.out]; unfold soFar
            refine if_iff ⟨?_, ?_⟩ _ _
            · rintro ⟨y, hy, hy1⟩
              rcases List.mem_append.1 hy with hy | hy
              · exact ⟨y, hy, hy1⟩
              · rw [List.mem_singleton.1 hy] at hy1; omega
            · rintro ⟨y, hy, hy1⟩; exact ⟨y, List.mem_append_left _ hy, hy1⟩)
          have hkb : knB x = true := by rw [kn_is, e0]; rfl
          rw [hkb] at K
          clear hk e0 hkb
          go_wp2_with fail
          refine (K.out _).mono ?_; rintro e w1 ⟨rfl, rfl⟩
          go_wp2_with fail
          go_roundg (L - (i + 1))
          case rel => exact ⟨i + 1, by omega, by go_num, by rw [HS.out], HN.out, rfl⟩
          case measure => omega
        · have e0 : isI x = 1 := by unfold isI; rw [if_neg hk]
          have HS := Lib.hid (show soFar s (l.take (i + 1)) = 2 by
            rw [HT.out]; unfold soFar; rw [if_pos ⟨x, by simp, e0⟩])
          have hkb : knB x = false := by rw [kn_is, e0]; rfl
          rw [hkb] at K
          clear hk e0 hkb
          go_wp2_with fail
          refine (K.out _).mono ?_; rintro e w1 ⟨rfl, rfl⟩
          go_wp2_with fail
          go_roundg (L - (i + 1))
          case rel => exact ⟨i + 1, by omega, by go_num, by rw [HS.out], HN.out, rfl⟩
          case measure => omega
    · obtain rfl : L = i := by omega
      have ht : l.take L = l := List.take_of_length_le (by rw [HL.out]; exact Nat.le_refl _)
      rw [ht] at hns ⊢
      have HNS := Lib.hid hns
      clear hns ht
      go_wp2_with fail
      go_ret
      refine ⟨?_, rfl⟩
      unfold joinI soFar; rw [if_neg HNS.out]; rfl
end Go.Proofs.Ytblehbcehfmnkaa
