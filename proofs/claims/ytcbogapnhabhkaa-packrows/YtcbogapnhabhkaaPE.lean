import Derived.Test.YtcbogapnhabhkaaPB
import Derived.Deep.LoopGhost
import Derived.Recover
namespace Go.Proofs.Ytcbogapnhabhkaa
open Go Go.RowKit
set_option linter.unusedVariables false
/-- the bytes that a reader has left -/
def Rd (p : Nat) (w : World) (l : List UInt8) : Prop := ∃ v, w.cell? ⟨p, 0, none⟩ = some v ∧ w.frozen? ⟨p, 0, none⟩ = false ∧ Bs p w v l
/-- a reader's way out -/
abbrev bad : Ending := .panicked [{ v := .iface 31 (.int .i64 2), recovered := false }]
theorem need_ok (w : World) : Calls Try.prog 56 #[.bool true] w fun e w' => e = .returned (.tuple #[]) ∧ w = w' := by
  go_enter Try.func56, Try.ntmps56
  go_wp2
  go_end0
  exact ⟨rfl, rfl⟩
theorem need_bad (w : World) : Calls Try.prog 56 #[.bool false] w fun e w' => e = bad ∧ w = w' := by
  go_enter Try.func56, Try.ntmps56
  go_wp2
  exact ⟨rfl, rfl, rfl⟩
theorem Rd.grown {p : Nat} {w w' : World} {l : List UInt8} (h : Rd p w l) (hb : Below w.heap.size w w') : Rd p w' l := by
  obtain ⟨v, h1, h2, h3⟩ := h
  have hp := block_lt_of_cell h1
  exact ⟨v, (hb.cell hp).trans h1, (hb.frozen hp).trans h2, h3.below (hb.mono (Nat.le_of_lt hp))⟩
theorem Bs.head {n : Nat} {w : World} {ao : Option Addr} {len cap : Nat} {l : List UInt8} (h : Bs n w (.slice ao len cap) l) (c : Nat) (hc : c ≤ l.length) : Bs n w (.slice ao c c) (l.take c) := by
  have h' := h
  obtain ⟨ao', cap', he, k2, k3, k4, k5⟩ := h'
  cases he
  have := h.sliced 0 c c (Nat.zero_le _) hc (Nat.le_refl _) (by omega)
  have e : Go.sliced ao 0 c c 1 = .slice ao c c := by
    unfold Go.sliced
    split
    · simp
    · cases ao <;> simp [Addr.add]
  rw [e] at this; simpa using this
theorem Bs.rest {n : Nat} {w : World} {ao : Option Addr} {len cap : Nat} {l : List UInt8} (h : Bs n w (.slice ao len cap) l) (c : Nat) (hc : c ≤ l.length) (hn : ¬ cap = c) : Bs n w (.slice (ao.map (fun x => x.add c)) (l.length - c) (cap - c)) (l.drop c) := by
  have h' := h
  obtain ⟨ao', cap', he, k2, k3, k4, k5⟩ := h'
  cases he
  have := h.sliced c l.length cap hc (Nat.le_refl _) (by omega) (Nat.le_refl _)
  have e : Go.sliced ao c l.length cap 1 = .slice (ao.map (fun x => x.add c)) (l.length - c) (cap - c) := by
    unfold Go.sliced
    rw [if_neg hn, Nat.mul_one]
  rw [e] at this; simpa using this
theorem Bs.rest0 {n : Nat} {w : World} {ao : Option Addr} {len cap : Nat} {l : List UInt8} (h : Bs n w (.slice ao len cap) l) (c : Nat) (hc : c ≤ l.length) (hn : cap = c) : Bs n w (.slice ao (l.length - c) 0) (l.drop c) := by
  have h' := h
  obtain ⟨ao', cap', he, k2, k3, k4, k5⟩ := h'
  cases he
  have hd : l.drop c = [] := by simp; omega
  rw [hd, show l.length - c = 0 by omega]
  exact ⟨ao, 0, rfl, Nat.le_refl _, by simp [maxLen], fun _ => rfl, fun j u h => by simp at h⟩
theorem grown_set (w : World) (p j : Nat) (v : Value) : w.grownBy (w.setCell ⟨p, j, none⟩ v) (some p) := by
  refine ⟨rfl, rfl, rfl, by simp [World.setCell], fun k hk hne => ?_⟩
  simp only [World.setCell, Array.getElem?_modify]
  rw [if_neg (fun e => hne (by simp [e]))]
theorem Rd.set {p : Nat} {w : World} {old v : Value} {l : List UInt8} (h1 : w.cell? ⟨p, 0, none⟩ = some old) (h2 : w.frozen? ⟨p, 0, none⟩ = false) (hb : Bs p w v l) : Rd p (w.setCell ⟨p, 0, none⟩ v) l :=
  ⟨v, by simp [go_sem, h1], by simp [go_sem, h2], hb.grown (grown_set _ _ _ _) (Nat.le_refl _)⟩
theorem take_ok (p c : Nat) (l : List UInt8) (w : World) (hR : Rd p w l) (hc : c ≤ l.length) (hl : l.length ≤ 1000000) :
    Calls Try.prog 59 #[.pointer (some ⟨p, 0, none⟩), .int .u64 c] w fun e w' => ∃ v, e = .returned v ∧ Bs p w' v (l.take c) ∧ Rd p w' (l.drop c) ∧ w.grownBy w' (some p) := by
  obtain ⟨v, h1, h2, h3⟩ := hR
  obtain ⟨ao, cap, rfl, k2, k3, k4, k5⟩ := id h3
  have ic : ((c : Int) ≤ (l.length : Int)) := by omega
  have icc : ((c : Int) ≤ (cap : Int)) := by omega
  go_enter Try.func59, Try.ntmps59
  go_wp2_with fail
  refine (need_ok _).mono ?_; rintro e w' ⟨rfl, rfl⟩
  go_wp2_with fail
  all_goals go_ret
  · exact ⟨_, rfl, (h3.head c hc).grown (grown_set _ _ _ _) (Nat.le_refl _), Rd.set h1 h2 (h3.rest0 c hc (by assumption)), grown_set _ _ _ _⟩
  · exact ⟨_, rfl, (h3.head c hc).grown (grown_set _ _ _ _) (Nat.le_refl _), Rd.set h1 h2 (h3.rest c hc (by assumption)), grown_set _ _ _ _⟩
theorem take_bad (p c : Nat) (l : List UInt8) (w : World) (hR : Rd p w l) (hc : l.length < c) (hl : l.length ≤ 1000000) :
    Calls Try.prog 59 #[.pointer (some ⟨p, 0, none⟩), .int .u64 c] w fun e w' => e = bad ∧ w.grownBy w' (some p) := by
  obtain ⟨v, h1, h2, h3⟩ := hR
  obtain ⟨ao, cap, rfl, -⟩ := h3
  have ic : ¬ ((c : Int) ≤ (l.length : Int)) := by omega
  go_enter Try.func59, Try.ntmps59
  go_wp2_with fail
  refine (need_bad _).mono ?_; rintro e w' ⟨rfl, rfl⟩
  exact ⟨rfl, rfl, grown_of_below _ (Below.refl _ _)⟩
theorem grown_refl (w : World) (r : Option Nat) : w.grownBy w r := grown_of_below _ (Below.refl _ _)
theorem one_ok (p : Nat) (c : UInt8) (l : List UInt8) (w : World) (hR : Rd p w (c :: l)) (hl : l.length < 1000000) :
    Calls Try.prog 55 #[.pointer (some ⟨p, 0, none⟩)] w fun e w' => e = .returned (.int .u8 (c.toNat : Int)) ∧ Rd p w' l ∧ w.grownBy w' (some p) := by
  have hT := Lib.hid (take_ok p 1 (c :: l) w hR (by simp) (by simp; omega))
  go_enter Try.func55, Try.ntmps55
  go_wp2_with fail
  refine hT.out.mono ?_; rintro e w1 ⟨v1, rfl, hB, hR1, hg⟩
  obtain ⟨ao, cap, rfl, -, -, -, k5⟩ := hB
  obtain ⟨a, rfl, hp, hc⟩ := k5 0 c rfl
  clear k5
  rw [Addr.add_zero'] at hc
  go_wp2_with fail
  go_ret
  exact ⟨rfl, hR1, hg⟩
theorem one_bad (p : Nat) (w : World) (hR : Rd p w []) :
    Calls Try.prog 55 #[.pointer (some ⟨p, 0, none⟩)] w fun e w' => e = bad ∧ w.grownBy w' (some p) := by
  have hT := Lib.hid (take_bad p 1 [] w hR (by simp) (by simp))
  go_enter Try.func55, Try.ntmps55
  go_wp2_with fail
  refine hT.out.mono ?_; rintro e w1 ⟨rfl, hg⟩
  exact ⟨rfl, rfl, hg⟩
theorem joined_ok (p : Nat) (c : Nat) (l : List UInt8) (w : World) (hR : Rd p w l) (hc : c ≤ l.length) (h8 : c ≤ 8) (hl : l.length ≤ 1000000) :
    Calls Try.prog 57 #[.pointer (some ⟨p, 0, none⟩), .int .u8 c] w fun e w' => e = .returned (.int .u64 (valB (l.take c) : Nat)) ∧ Rd p w' (l.drop c) ∧ w.grownBy w' (some p) := by
  have hT := Lib.hid (take_ok p c l w hR hc hl)
  go_enter Try.func57, Try.ntmps57
  go_wp2_with fail
  refine hT.out.mono ?_; rintro e w1 ⟨v1, rfl, hB, hR1, hg⟩
  have hlen : (l.take c).length = c := by simp; omega
  obtain ⟨ao, cap, rfl, -, -, -, k5⟩ := hB
  have K5 := Lib.hid k5
  clear k5
  rw [hlen]
  generalize hm : l.take c = m at *
  clear hT hc hR
  subst hlen
  have HM := Lib.hid hm
  clear hm
  go_wp2_with fail
  go_loop [5, 13] (fun s5 s13 => ∃ k : Nat, k ≤ m.length ∧ s13 = .int .i64 k ∧ s5 = .int .u64 (valB (m.take k) : Nat)) (fun _ s13 => m.length - (intOf s13).toNat)
  case atStart => exact ⟨0, by omega, rfl, rfl⟩
  case round =>
    obtain ⟨k, hk, rfl, rfl⟩ := hrel
    by_cases hlt : k < m.length
    · obtain ⟨a, rfl, hp, hcell⟩ := K5.out k m[k] (List.getElem?_eq_getElem hlt)
      have ik : (k : Int) < (m.length : Int) := by omega
      have hv := valB_lt (m.take k)
      generalize hV : valB (m.take k) = V at *
      have hJ := join_byte V m[k] (by
        refine Nat.lt_of_lt_of_le hv (Nat.le_trans (Nat.pow_le_pow_right (by decide) (show (m.take k).length ≤ 7 by simp; omega)) (by decide)))
      have hval : valB (m.take (k + 1)) = V * 256 + m[k].toNat := by
        rw [List.take_succ_eq_append_getElem hlt, valB_snoc, hV]
      clear hv hV
      go_wp2_with fail
      go_round
      case rel => exact ⟨k + 1, by omega, by go_num, by rw [hval]; simp⟩
      case measure => simp [intOf]; omega
    · obtain rfl : k = m.length := by omega
      rw [List.take_length]
      go_wp2_with fail
      go_ret
      exact ⟨by rw [HM.out]; rfl, hR1, hg⟩
theorem joined_bad (p : Nat) (c : Nat) (l : List UInt8) (w : World) (hR : Rd p w l) (hc : l.length < c) (h8 : c ≤ 255) (hl : l.length ≤ 1000000) :
    Calls Try.prog 57 #[.pointer (some ⟨p, 0, none⟩), .int .u8 c] w fun e w' => e = bad ∧ w.grownBy w' (some p) := by
  have hT := Lib.hid (take_bad p c l w hR hc hl)
  go_enter Try.func57, Try.ntmps57
  go_wp2_with fail
  refine hT.out.mono ?_; rintro e w1 ⟨rfl, hg⟩
  exact ⟨rfl, rfl, hg⟩
theorem shr_ne (V k : Nat) : ((V : Int) / 2 ^ (8 * k) != 0) = decide (V / 256 ^ k ≠ 0) := by
  have e : (V : Int) / 2 ^ (8 * k) = ((V / 256 ^ k : Nat) : Int) := by
    rw [show (256 : Nat) ^ k = 2 ^ (8 * k) by rw [Nat.pow_mul], Int.natCast_ediv, Int.natCast_pow]; rfl
  rw [e, Bool.eq_iff_iff]
  simp only [bne_iff_ne, ne_eq, decide_eq_true_eq]
  constructor
  · intro h h0; exact h (by rw [h0]; rfl)
  · intro h h0; exact h (by omega)
theorem rnumber_ok (p : Nat) (l : List UInt8) (n : Nat) (r : List UInt8) (w : World) (hR : Rd p w l) (h : numR l = some (n, r)) (hl : l.length ≤ 1000000) :
    Calls Try.prog 37 #[.pointer (some ⟨p, 0, none⟩)] w fun e w' => e = .returned (.int .u64 n) ∧ Rd p w' r ∧ w.grownBy w' (some p) := by
  cases l with
  | nil => simp [numR] at h
  | cons c t =>
    rw [numR_cons] at h
    split at h
    · rename_i hh
      obtain ⟨h8, hlt, hz⟩ := hh
      simp only [Option.some.injEq, Prod.mk.injEq] at h
      obtain ⟨rfl, rfl⟩ := h
      have hl' : t.length < 1000000 := by simp at hl; omega
      have h1 := Lib.hid (one_ok p c t w hR hl')
      have h2 := Lib.hid (fun w1 hR1 => joined_ok p c.toNat t w1 hR1 hlt h8 (by omega))
      have HZ := Lib.hid hz
      clear hz
      generalize c.toNat = C at *
      generalize valB (t.take C) = V at *
      have i8 : (C : Int) ≤ 8 := by omega
      go_enter Try.func37, Try.ntmps37
      go_wp2_with fail
      refine h1.out.mono ?_; rintro e w1 ⟨rfl, hR1, hg1⟩
      go_wp2_with fail
      refine (need_ok _).mono ?_; rintro e w' ⟨rfl, rfl⟩
      go_wp2_with fail
      refine (h2.out _ hR1).mono ?_; rintro e w2 ⟨rfl, hR2, hg2⟩
      have hg := grown_trans hg1 hg2
      clear hg1 hg2 h1 h2
      by_cases hC : C = 0
      · have e0 : ((C : Int) == 0) = true := by simp [hC]
        go_wp2_with fail
        refine (need_ok _).mono ?_; rintro e w' ⟨rfl, rfl⟩
        go_wp2_with fail
        go_ret
        exact ⟨rfl, hR2, hg⟩
      · have e0 : ((C : Int) == 0) = false := by simp [hC]
        have e1 : ((V : Int) / 2 ^ (8 * (C - 1)) != 0) = true := by
          rw [shr_ne]; rcases HZ.out with h | h
          · exact absurd h hC
          · exact decide_eq_true h
        go_wp2_with fail
        refine (need_ok _).mono ?_; rintro e w' ⟨rfl, rfl⟩
        go_wp2_with fail
        go_ret
        exact ⟨rfl, hR2, hg⟩
    · cases h
theorem rnumber_bad (p : Nat) (l : List UInt8) (w : World) (hR : Rd p w l) (h : numR l = none) (hl : l.length ≤ 1000000) :
    Calls Try.prog 37 #[.pointer (some ⟨p, 0, none⟩)] w fun e w' => e = bad ∧ w.grownBy w' (some p) := by
  cases l with
  | nil =>
    have h1 := Lib.hid (one_bad p w hR)
    go_enter Try.func37, Try.ntmps37
    go_wp2_with fail
    refine h1.out.mono ?_; rintro e w1 ⟨rfl, hg1⟩
    exact ⟨rfl, rfl, hg1⟩
  | cons c t =>
    rw [numR_cons] at h
    split at h
    · cases h
    · rename_i hh
      have hl' : t.length < 1000000 := by simp at hl; omega
      have h1 := Lib.hid (one_ok p c t w hR hl')
      have h255 := c.toNat_lt
      have h2 := Lib.hid (fun w1 hR1 hlt h8 => joined_ok p c.toNat t w1 hR1 hlt h8 (by omega))
      have h3 := Lib.hid (fun w1 hR1 hlt => joined_bad p c.toNat t w1 hR1 hlt (by omega) (by omega))
      have HH := Lib.hid hh
      clear hh h
      generalize c.toNat = C at *
      generalize valB (t.take C) = V at *
      by_cases h8 : C ≤ 8
      · have i8 : (C : Int) ≤ 8 := by omega
        by_cases hlt : C ≤ t.length
        · have hC : ¬ C = 0 := fun h0 => HH.out ⟨h8, hlt, .inl h0⟩
          have e0 : ((C : Int) == 0) = false := by simp [hC]
          have e1 : ((V : Int) / 2 ^ (8 * (C - 1)) != 0) = false := by
            rw [shr_ne]; exact decide_eq_false fun h => HH.out ⟨h8, hlt, .inr h⟩
          go_enter Try.func37, Try.ntmps37
          go_wp2_with fail
          refine h1.out.mono ?_; rintro e w1 ⟨rfl, hR1, hg1⟩
          go_wp2_with fail
          refine (need_ok _).mono ?_; rintro e w' ⟨rfl, rfl⟩
          go_wp2_with fail
          refine (h2.out _ hR1 hlt h8).mono ?_; rintro e w2 ⟨rfl, hR2, hg2⟩
          have hg := grown_trans hg1 hg2
          clear hg1 hg2 h1 h2 h3
          go_wp2_with fail
          refine (need_bad _).mono ?_; rintro e w' ⟨rfl, rfl⟩
          exact ⟨rfl, rfl, hg⟩
        · go_enter Try.func37, Try.ntmps37
          go_wp2_with fail
          refine h1.out.mono ?_; rintro e w1 ⟨rfl, hR1, hg1⟩
          go_wp2_with fail
          refine (need_ok _).mono ?_; rintro e w' ⟨rfl, rfl⟩
          go_wp2_with fail
          refine (h3.out _ hR1 (by omega)).mono ?_; rintro e w2 ⟨rfl, hg2⟩
          exact ⟨rfl, rfl, grown_trans hg1 hg2⟩
      · have i8 : decide ((C : Int) ≤ 8) = false := by simp; omega
        go_enter Try.func37, Try.ntmps37
        go_wp2_with fail
        refine h1.out.mono ?_; rintro e w1 ⟨rfl, hR1, hg1⟩
        go_wp2_with fail
        refine (need_bad _).mono ?_; rintro e w' ⟨rfl, rfl⟩
        exact ⟨rfl, rfl, hg1⟩
theorem rtext_ok' (p : Nat) (l s r : List UInt8) (w : World) (hR : Rd p w l) (h : textR l = some (s, r)) (hl : l.length ≤ 1000000) :
    Calls Try.prog 40 #[.pointer (some ⟨p, 0, none⟩)] w fun e w' => e = .returned (.string ⟨s.toArray⟩) ∧ Rd p w' r ∧ w.grownBy w' (some p) := by
  unfold textR at h
  split at h
  · rename_i n t hn
    split at h
    · rename_i hle
      simp only [Option.some.injEq, Prod.mk.injEq] at h
      obtain ⟨rfl, rfl⟩ := h
      have hnb := numR_back hn
      have htl : t.length ≤ 1000000 := by rw [hnb.2] at hl; simp at hl; omega
      have h1 := Lib.hid (rnumber_ok p l n t w hR hn hl)
      have h2 := Lib.hid (fun w1 hR1 => take_ok p n t w1 hR1 hle htl)
      clear hn hnb
      go_enter Try.func40, Try.ntmps40
      go_wp2_with fail
      refine h1.out.mono ?_; rintro e w1 ⟨rfl, hR1, hg1⟩
      go_wp2_with fail
      refine (h2.out _ hR1).mono ?_; rintro e w2 ⟨v2, rfl, hB2, hR2, hg2⟩
      have hS := run_string_bs hB2
      have hg := grown_trans hg1 hg2
      clear h1 h2 hg1 hg2
      go_wp2_with fail
      go_ret
      exact ⟨rfl, hR2, hg⟩
    · cases h
  · cases h
theorem rtext_bad' (p : Nat) (l : List UInt8) (w : World) (hR : Rd p w l) (h : textR l = none) (hl : l.length ≤ 1000000) :
    Calls Try.prog 40 #[.pointer (some ⟨p, 0, none⟩)] w fun e w' => e = bad ∧ w.grownBy w' (some p) := by
  unfold textR at h
  split at h
  · rename_i n t hn
    split at h
    · cases h
    · rename_i hle
      have hnb := numR_back hn
      have htl : t.length ≤ 1000000 := by rw [hnb.2] at hl; simp at hl; omega
      have h1 := Lib.hid (rnumber_ok p l n t w hR hn hl)
      have h2 := Lib.hid (fun w1 hR1 => take_bad p n t w1 hR1 (by omega) htl)
      clear hn hnb
      go_enter Try.func40, Try.ntmps40
      go_wp2_with fail
      refine h1.out.mono ?_; rintro e w1 ⟨rfl, hR1, hg1⟩
      go_wp2_with fail
      refine (h2.out _ hR1).mono ?_; rintro e w2 ⟨rfl, hg2⟩
      exact ⟨rfl, rfl, grown_trans hg1 hg2⟩
  · rename_i hn
    have h1 := Lib.hid (rnumber_bad p l w hR hn hl)
    go_enter Try.func40, Try.ntmps40
    go_wp2_with fail
    refine h1.out.mono ?_; rintro e w1 ⟨rfl, hg1⟩
    exact ⟨rfl, rfl, hg1⟩
theorem whole_ok (p : Nat) (l r : List UInt8) (n : Nat) (w : World) (hR : Rd p w l) (h : numR l = some (n, r)) (hn : n < 9223372036854775808) (hl : l.length ≤ 1000000) :
    Calls Try.prog 61 #[.pointer (some ⟨p, 0, none⟩)] w fun e w' => e = .returned (.int .i64 (n : Int)) ∧ Rd p w' r ∧ w.grownBy w' (some p) := by
  have h1 := Lib.hid (rnumber_ok p l n r w hR h hl)
  have hle : (n : Int) ≤ 9223372036854775807 := by omega
  clear h
  go_enter Try.func61, Try.ntmps61
  go_wp2_with fail
  refine h1.out.mono ?_; rintro e w1 ⟨rfl, hR1, hg1⟩
  go_wp2_with fail
  refine (need_ok _).mono ?_; rintro e w' ⟨rfl, rfl⟩
  go_wp2_with fail
  go_ret
  exact ⟨rfl, hR1, hg1⟩
theorem whole_big (p : Nat) (l r : List UInt8) (n : Nat) (w : World) (hR : Rd p w l) (h : numR l = some (n, r)) (hn : ¬ n < 9223372036854775808) (hl : l.length ≤ 1000000) :
    Calls Try.prog 61 #[.pointer (some ⟨p, 0, none⟩)] w fun e w' => e = bad ∧ w.grownBy w' (some p) := by
  have h1 := Lib.hid (rnumber_ok p l n r w hR h hl)
  have hle : decide ((n : Int) ≤ 9223372036854775807) = false := by simp; omega
  clear h hn
  go_enter Try.func61, Try.ntmps61
  go_wp2_with fail
  refine h1.out.mono ?_; rintro e w1 ⟨rfl, hR1, hg1⟩
  go_wp2_with fail
  refine (need_bad _).mono ?_; rintro e w' ⟨rfl, rfl⟩
  exact ⟨rfl, rfl, hg1⟩
theorem whole_bad (p : Nat) (l : List UInt8) (w : World) (hR : Rd p w l) (h : numR l = none) (hl : l.length ≤ 1000000) :
    Calls Try.prog 61 #[.pointer (some ⟨p, 0, none⟩)] w fun e w' => e = bad ∧ w.grownBy w' (some p) := by
  have h1 := Lib.hid (rnumber_bad p l w hR h hl)
  go_enter Try.func61, Try.ntmps61
  go_wp2_with fail
  refine h1.out.mono ?_; rintro e w1 ⟨rfl, hg1⟩
  exact ⟨rfl, rfl, hg1⟩
end Go.Proofs.Ytcbogapnhabhkaa
