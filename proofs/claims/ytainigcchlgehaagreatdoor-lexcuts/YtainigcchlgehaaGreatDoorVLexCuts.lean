/- The walk of the law LexCuts. -/
import Derived.Test.YtainigcchlgehaaGreatDoorXN
import Derived.Test.YtainigcchlgehaaGreatDoorXW
import Derived.Laws.StructEq
namespace Go.Proofs.YtainigcchlgehaaGreatDoor.LexCuts
open Go Go.ChangeShapes Go.WideShapes Go.ChangeAt Go.RowKit
open Go.Joins
set_option linter.unusedVariables false
theorem and_mask (a : Int) : ∃ A : Nat, bits BinOp.and IntKind.i64 a 65535 = (A : Int) ∧ A < 65536 := by
  refine ⟨(BitVec.ofInt 64 a).toNat % 65536, ?_, Nat.mod_lt _ (by decide)⟩
  show IntKind.i64.wrap ((BitVec.ofInt 64 a &&& BitVec.ofInt 64 65535).toNat : Int) = _
  have e : (BitVec.ofInt 64 65535).toNat = 65535 := by decide
  have nat_mask16 : ∀ n : Nat, n &&& 65535 = n % 65536 := fun n => Nat.and_two_pow_sub_one_eq_mod n 16
  rw [BitVec.toNat_and, e, nat_mask16, IntKind.wrap_i64]
  have := Nat.mod_lt (BitVec.ofInt 64 a).toNat (show 0 < 65536 by decide)
  omega
theorem lexR_bad {w w' : World} {l : Bt} {e : Ending} {p : Nat} (h : LexR w l e w') (hx : lexT l 0 = .error p) : e = .returned (.tuple #[.slice none 0 0, .int .i64 (p : Int), .int .i64 2]) ∧ Below w.heap.size w w' := by
  unfold LexR at h; rw [hx] at h; exact h
theorem lexR_ok {w w' : World} {l : Bt} {e : Ending} {r : List Tk} (h : LexR w l e w') (hx : lexT l 0 = .ok r) : (∃ v, e = .returned (.tuple #[v, .int .i64 0, .int .i64 0]) ∧ OwK w' w.heap.size v r) ∧ Below w.heap.size w w' := by
  unfold LexR at h; rw [hx] at h; exact h
set_option maxHeartbeats 4000000 in
set_option maxRecDepth 100000 in
theorem walk (s : ByteArray) (a : Int) (hs : s.size ≤ maxLen) (a1 : -9223372036854775808 ≤ a) (a2 : a ≤ 9223372036854775807) (w : World) (hT : TabsX w) :
    Calls Tryz.prog 6 #[.string s, .int .i64 a] w fun e w' => e = .returned (.bool true) ∧ Below w.heap.size w w' := by
  obtain ⟨m, hm0⟩ : ∃ m, m = min s.size 1000 := ⟨_, rfl⟩
  have hm : min (s.size : Int) 1000 = (m : Int) := by omega
  have ml : (m : Int) ≤ (s.size : Int) := by omega
  have m0 : (0 : Int) ≤ (m : Int) := by omega
  have sS : (s.extract 0 m).size = m := by rw [ByteArray.size_extract]; omega
  have hm1 : m ≤ 1000 := by omega
  have c0 := Below.refl w.heap.size w
  have CS := Lib.hid (shown10_any w hT)
  have C1 := Lib.hid (fun u hu => lex_any (s.extract 0 m) (by omega) u hu)
  clear hm0
  cases hx : lexT (s.extract 0 m).data.toList 0 with
  | error p =>
    go_enter Tryz.func6, Tryz.ntmps6
    go_wp2_with fail
    refine CS.out.mono ?_; rintro e w1 ⟨rfl, hb1⟩
    go_wp2_with fail
    refine (C1.out _ (hT.below hb1)).mono ?_; rintro e w2 h2
    obtain ⟨rfl, hb2⟩ := lexR_bad h2 hx
    have c2 := Below.chain hb1 hb2
    go_wp2_with fail
    go_ret
    exact ⟨rfl, c2⟩
  | ok r =>
    cases r with
    | nil =>
      go_enter Tryz.func6, Tryz.ntmps6
      go_wp2_with fail
      refine CS.out.mono ?_; rintro e w1 ⟨rfl, hb1⟩
      go_wp2_with fail
      refine (C1.out _ (hT.below hb1)).mono ?_; rintro e w2 h2
      obtain ⟨⟨v, rfl, hO⟩, hb2⟩ := lexR_ok h2 hx
      obtain ⟨va, vc, rfl⟩ := hO.shape
      have c2 := Below.chain hb1 hb2
      go_wp2_with fail
      go_ret
      exact ⟨rfl, c2⟩
    | cons t0 r0 =>
      obtain ⟨r, hr⟩ : ∃ r, r = t0 :: r0 := ⟨_, rfl⟩
      rw [← hr] at hx
      have hlen : 1 ≤ r.length := by rw [hr]; simp
      obtain ⟨L, hL⟩ : ∃ L, r.length = L := ⟨_, rfl⟩
      rw [hL] at hlen
      have hst := lex_stand (s.extract 0 m).data.toList _ 0 rfl (Nat.zero_le _) r hx
      have hcut := lex_cut (s.extract 0 m).data.toList _ 0 rfl (Nat.zero_le _) r hx
      obtain ⟨A, hA, hA2⟩ := and_mask a
      obtain ⟨k, hk⟩ : ∃ k, k = A % L := ⟨_, rfl⟩
      have hkl : k < L := by rw [hk]; exact Nat.mod_lt _ (by omega)
      have hkr : k < r.length := by omega
      clear hr t0 r0
      have hck := hcut k hkr
      obtain ⟨P, hP⟩ : ∃ P, r[k].pos = P := ⟨_, rfl⟩
      have hsk := stand_at hst k hkr
      rw [hP] at hck hsk
      rw [Nat.sub_zero] at hck
      have hPm : P ≤ m := by have := hsk.2.1; rw [lx_len, sS] at this; omega
      have HSS := Lib.hid sS
      have eT : ((s.extract 0 m).extract 0 P).data.toList = (s.extract 0 m).data.toList.take P := by rw [lx_ext]; rfl
      have C2 := Lib.hid (fun u hu => lex_any ((s.extract 0 m).extract 0 P) (by rw [ByteArray.size_extract]; omega) u hu)
      rw [eT] at C2
      have hki : Int.tmod (A : Int) (L : Int) = (k : Int) := by rw [hk]; rfl
      have hnz : (L : Int) ≠ 0 := by omega
      have hlz : ((L : Int) == 0) = false := by rw [beq_eq_false_iff_ne]; omega
      have k0 : (0 : Int) ≤ (k : Int) := by omega
      have k1 : (k : Int) < (L : Int) := by omega
      have P0 : (0 : Int) ≤ (P : Int) := by omega
      have P1 : (P : Int) ≤ (m : Int) := by omega
      have hll : (L : Int) ≤ 9223372036854775807 := by
        have := stand_len hst
        rw [hL, lx_len, sS] at this
        omega
      have HX := Lib.hid hx
      have HCK := Lib.hid hck
      have HL := Lib.hid hL
      have HPP := Lib.hid hP
      clear hst hcut hk hsk eT hx hck hL hP sS
      go_enter Tryz.func6, Tryz.ntmps6
      go_wp2_with fail
      refine CS.out.mono ?_; rintro e w1 ⟨rfl, hb1⟩
      go_wp2_with fail
      refine (C1.out _ (hT.below hb1)).mono ?_; rintro e w2 h2
      obtain ⟨⟨v, rfl, hO⟩, hb2⟩ := lexR_ok h2 HX.out
      obtain ⟨va, vc, rfl⟩ := hO.shape
      have c2 := Below.chain hb1 hb2
      have HO := Lib.hid hO
      obtain ⟨b, o, rfl, hc⟩ := RwK.at hO.rw k (by rw [HL.out]; exact hkl)
      obtain ⟨-, -, q2⟩ := hc k (by rw [HL.out]; exact hkl)
      rw [HPP.out] at q2
      rw [HL.out]
      clear hc hO h2
      go_wp2_with fail
      refine (C2.out _ (hT.below c2)).mono ?_; rintro e w3 h3
      obtain ⟨⟨v3, rfl, hO3⟩, hb3⟩ := lexR_ok h3 HCK.out
      obtain ⟨vb, vd, rfl⟩ := hO3.shape
      have c3 := Below.chain c2 hb3
      have HR3 := Lib.hid hO3.rw
      have HR := Lib.hid (HO.out.below hb3).rw
      have htk : (r.take k).length = k := by rw [List.length_take]; omega
      have HTK := Lib.hid htk
      rw [htk]
      clear hO3 h3 htk
      have hkk : (k : Int) ≤ (L : Int) := by omega
      go_wp2_with fail
      go_loopg [13] k (fun g s13 wr => ∃ i : Nat, g + i = k ∧ s13 = .int .i64 i ∧ Below w3.heap.size w3 wr)
      case atStart => exact ⟨0, rfl, rfl, Below.refl _ _⟩
      case round =>
        obtain ⟨i, hg, rfl, hb⟩ := hrel
        have HB := Lib.hid hb
        have i0 : (0 : Int) ≤ (i : Int) := by omega
        by_cases hlt : i < k
        · have ii : (i : Int) < (k : Int) := by omega
          have il : (i : Int) < (L : Int) := by omega
          obtain ⟨b1, o1, rfl, hc1⟩ := RwK.at (HR3.out.keep hb) i (by rw [HTK.out]; exact hlt)
          obtain ⟨p0, p1, p2⟩ := hc1 i (by rw [HTK.out]; exact hlt)
          obtain ⟨b2, o2, he2, hc2⟩ := RwK.at (HR.out.keep hb) i (by rw [HL.out]; omega)
          obtain ⟨rfl, rfl⟩ : b = b2 ∧ o = o2 := by injection he2 with he2; injection he2 with h1 h2 h3; exact ⟨h1, h2⟩
          obtain ⟨u0, u1, u2⟩ := hc2 i (by rw [HL.out]; omega)
          simp only [List.getElem_take] at p0 p1 p2
          generalize r[i]'(by have := HL.out; omega) = t at *
          obtain ⟨tk, tx, tp⟩ := t
          simp only at p0 p1 p2 u0 u1 u2
          clear hc1 hc2 he2 hb
          go_wp2_with fail
          go_quiet (fail)
          all_goals
            go_wp2_with fail
            go_roundg (k - (i + 1))
            case rel => exact ⟨i + 1, by omega, by go_num, by first | exact HB.out | exact below_drewN HB.out _⟩
            case measure => omega
        · have ii : ¬ ((i : Int) < (k : Int)) := by omega
          have c4 := Below.chain c3 HB.out
          go_wp2_with fail
          go_ret
          exact ⟨rfl, c4⟩
end Go.Proofs.YtainigcchlgehaaGreatDoor.LexCuts
