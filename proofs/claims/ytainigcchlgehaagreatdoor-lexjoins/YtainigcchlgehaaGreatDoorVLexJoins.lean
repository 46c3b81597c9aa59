/- The walk of the law LexJoins. -/
import Derived.Test.YtainigcchlgehaaGreatDoorXO
import Derived.Laws.StructEq
namespace Go.Proofs.YtainigcchlgehaaGreatDoor.LexJoins
open Go Go.ChangeShapes Go.WideShapes Go.ChangeAt Go.RowKit
open Go.Joins
set_option linter.unusedVariables false
set_option maxHeartbeats 4000000 in
set_option maxRecDepth 100000 in
theorem bad1 (a b A B Z : ByteArray) (m n : Nat) (hm : min (a.size : Int) 1000 = (m : Int)) (ml : (m : Int) ≤ (a.size : Int)) (hA : a.extract 0 m = A) (hn : min (b.size : Int) 1000 = (n : Int)) (nl : (n : Int) ≤ (b.size : Int)) (hB : b.extract 0 n = B) (hZ : A ++ ⟨#[10]⟩ ++ B = Z) (la : A.size ≤ 1000) (lb : B.size ≤ 1000) (lz : Z.size ≤ 2001)
    (p : Nat) (x1 : lexT A.data.toList 0 = .error p) (x3 : lexT Z.data.toList 0 = .error p) (w : World) (hT : TabsX w) :
    Calls Tryz.prog 5 #[.string a, .string b] w fun e w' => e = .returned (.bool true) ∧ Below w.heap.size w w' := by
  have CS := Lib.hid (shown10_any w hT)
  have C1 := Lib.hid (fun u hu => lex_any A (by omega) u hu)
  have C2 := Lib.hid (fun u hu => lex_any B (by omega) u hu)
  have C3 := Lib.hid (fun u hu => lex_any Z (by omega) u hu)
  have m0 : (0 : Int) ≤ (m : Int) := by omega
  have n0 : (0 : Int) ≤ (n : Int) := by omega
  have X1 := Lib.hid x1
  have X3 := Lib.hid x3
  clear x1 x3
  go_enter Tryz.func5, Tryz.ntmps5
  go_wp2_with fail
  refine CS.out.mono ?_; rintro e w1 ⟨rfl, hb1⟩
  go_wp2_with fail
  refine (C1.out _ (hT.below hb1)).mono ?_; rintro e w2 h2
  obtain ⟨rfl, hb2⟩ := lexR_bad h2 X1.out
  have c2 := Below.chain hb1 hb2
  clear h2 hb1 hb2
  go_wp2_with fail
  refine (C2.out _ (hT.below c2)).mono ?_; rintro e w3 h3
  obtain ⟨⟨v3, n3, k3, rfl⟩, hb3⟩ := lexR_any h3
  have c3 := Below.chain c2 hb3
  clear h3 hb3 c2
  go_wp2_with fail
  refine (C3.out _ (hT.below c3)).mono ?_; rintro e w4 h4
  obtain ⟨rfl, hb4⟩ := lexR_bad h4 X3.out
  have c4 := Below.chain c3 hb4
  clear h4 hb4 c3
  go_wp2_with fail
  go_ret
  exact ⟨rfl, c4⟩
set_option maxHeartbeats 4000000 in
set_option maxRecDepth 100000 in
theorem bad2 (a b A B Z : ByteArray) (m n : Nat) (hm : min (a.size : Int) 1000 = (m : Int)) (ml : (m : Int) ≤ (a.size : Int)) (hA : a.extract 0 m = A) (hn : min (b.size : Int) 1000 = (n : Int)) (nl : (n : Int) ≤ (b.size : Int)) (hB : b.extract 0 n = B) (hZ : A ++ ⟨#[10]⟩ ++ B = Z) (la : A.size ≤ 1000) (lb : B.size ≤ 1000) (lz : Z.size ≤ 2001)
    (x : List Tk) (q Q : Nat) (hq : q ≤ 1000) (x1 : lexT A.data.toList 0 = .ok x) (x2 : lexT B.data.toList 0 = .error q) (x3 : lexT Z.data.toList 0 = .error Q) (hQ : ((Q : Int) == (A.size : Int) + 1 + (q : Int)) = true) (w : World) (hT : TabsX w) :
    Calls Tryz.prog 5 #[.string a, .string b] w fun e w' => e = .returned (.bool true) ∧ Below w.heap.size w w' := by
  have CS := Lib.hid (shown10_any w hT)
  have C1 := Lib.hid (fun u hu => lex_any A (by omega) u hu)
  have C2 := Lib.hid (fun u hu => lex_any B (by omega) u hu)
  have C3 := Lib.hid (fun u hu => lex_any Z (by omega) u hu)
  have m0 : (0 : Int) ≤ (m : Int) := by omega
  have n0 : (0 : Int) ≤ (n : Int) := by omega
  have X1 := Lib.hid x1
  have X2 := Lib.hid x2
  have X3 := Lib.hid x3
  clear x1 x2 x3
  go_enter Tryz.func5, Tryz.ntmps5
  go_wp2_with fail
  refine CS.out.mono ?_; rintro e w1 ⟨rfl, hb1⟩
  go_wp2_with fail
  refine (C1.out _ (hT.below hb1)).mono ?_; rintro e w2 h2
  obtain ⟨⟨v, rfl, -⟩, hb2⟩ := lexR_ok h2 X1.out
  have c2 := Below.chain hb1 hb2
  clear h2 hb1 hb2
  go_wp2_with fail
  refine (C2.out _ (hT.below c2)).mono ?_; rintro e w3 h3
  obtain ⟨rfl, hb3⟩ := lexR_bad h3 X2.out
  have c3 := Below.chain c2 hb3
  clear h3 hb3 c2
  go_wp2_with fail
  refine (C3.out _ (hT.below c3)).mono ?_; rintro e w4 h4
  obtain ⟨rfl, hb4⟩ := lexR_bad h4 X3.out
  have c4 := Below.chain c3 hb4
  clear h4 hb4 c3
  go_wp2_with fail
  go_ret
  exact ⟨rfl, c4⟩
set_option maxHeartbeats 8000000 in
set_option maxRecDepth 100000 in
theorem good (a b A B Z : ByteArray) (m n : Nat) (hm : min (a.size : Int) 1000 = (m : Int)) (ml : (m : Int) ≤ (a.size : Int)) (hA : a.extract 0 m = A) (hn : min (b.size : Int) 1000 = (n : Int)) (nl : (n : Int) ≤ (b.size : Int)) (hB : b.extract 0 n = B) (hZ : A ++ ⟨#[10]⟩ ++ B = Z) (la : A.size ≤ 1000) (lb : B.size ≤ 1000) (lz : Z.size ≤ 2001)
    (x y : List Tk) (x1 : lexT A.data.toList 0 = .ok x) (x2 : lexT B.data.toList 0 = .ok y) (x3 : lexT Z.data.toList 0 = .ok (x ++ y.map (Tk.up (A.size + 1)))) (lx : x.length ≤ 1000) (ly : y.length ≤ 1000) (lp : ∀ t ∈ y, t.pos ≤ 1000) (w : World) (hT : TabsX w) :
    Calls Tryz.prog 5 #[.string a, .string b] w fun e w' => e = .returned (.bool true) ∧ Below w.heap.size w w' := by
  have CS := Lib.hid (shown10_any w hT)
  have C1 := Lib.hid (fun u hu => lex_any A (by omega) u hu)
  have C2 := Lib.hid (fun u hu => lex_any B (by omega) u hu)
  have C3 := Lib.hid (fun u hu => lex_any Z (by omega) u hu)
  have m0 : (0 : Int) ≤ (m : Int) := by omega
  have n0 : (0 : Int) ≤ (n : Int) := by omega
  obtain ⟨XL, hXL⟩ : ∃ XL, x.length = XL := ⟨_, rfl⟩
  obtain ⟨YL, hYL⟩ : ∃ YL, y.length = YL := ⟨_, rfl⟩
  obtain ⟨zz, hzz⟩ : ∃ zz, zz = x ++ y.map (Tk.up (A.size + 1)) := ⟨_, rfl⟩
  rw [← hzz] at x3
  obtain ⟨ZL, hZL⟩ : ∃ ZL, zz.length = ZL := ⟨_, rfl⟩
  have hZs : ZL = XL + YL := by rw [← hZL, hzz]; simp; omega
  have hz1 : (XL : Int) + (YL : Int) = (ZL : Int) := by omega
  have XB := Lib.hid (show XL ≤ 1000 ∧ YL ≤ 1000 by omega)
  have lzi : (ZL : Int) ≤ 2000 := by omega
  have X1 := Lib.hid x1
  have X2 := Lib.hid x2
  have X3 := Lib.hid x3
  have HXL := Lib.hid hXL
  have HYL := Lib.hid hYL
  have HZL := Lib.hid hZL
  have HZZ := Lib.hid hzz
  have HZS := Lib.hid hZs
  have LP := Lib.hid lp
  have LA := Lib.hid la
  have lai : (A.size : Int) ≤ 1000 := by omega
  have hXi : (XL : Int) ≤ 1000 := by omega
  clear x1 x2 x3 hXL hYL hZL hzz hZs lx ly lp
  go_enter Tryz.func5, Tryz.ntmps5
  go_wp2_with fail
  refine CS.out.mono ?_; rintro e w1 ⟨rfl, hb1⟩
  go_wp2_with fail
  refine (C1.out _ (hT.below hb1)).mono ?_; rintro e w2 h2
  obtain ⟨⟨v1, rfl, hO1⟩, hb2⟩ := lexR_ok h2 X1.out
  obtain ⟨va1, vc1, rfl⟩ := hO1.shape
  have c2 := Below.chain hb1 hb2
  have HO1 := Lib.hid hO1
  rw [HXL.out]
  clear h2 hb1 hb2 hO1
  go_wp2_with fail
  refine (C2.out _ (hT.below c2)).mono ?_; rintro e w3 h3
  obtain ⟨⟨v2, rfl, hO2⟩, hb3⟩ := lexR_ok h3 X2.out
  obtain ⟨va2, vc2, rfl⟩ := hO2.shape
  have c3 := Below.chain c2 hb3
  have HO2 := Lib.hid hO2
  have HR1 := Lib.hid (HO1.out.below hb3)
  rw [HYL.out]
  clear h3 hb3 c2 hO2
  go_wp2_with fail
  refine (C3.out _ (hT.below c3)).mono ?_; rintro e w4 h4
  obtain ⟨⟨v3, rfl, hO3⟩, hb4⟩ := lexR_ok h4 X3.out
  obtain ⟨va3, vc3, rfl⟩ := hO3.shape
  have c4 := Below.chain c3 hb4
  have HQ1 := Lib.hid (HR1.out.below hb4).rw
  have HQ2 := Lib.hid (HO2.out.below hb4).rw
  have HQ3 := Lib.hid hO3.rw
  rw [HZL.out]
  clear h4 hb4 c3 hO3
  go_wp2_with fail
  go_loopg [15] ZL (fun g s15 wr => ∃ i : Nat, g + i = ZL ∧ s15 = .int .i64 i ∧ Below w4.heap.size w4 wr)
  case atStart => exact ⟨0, rfl, rfl, Below.refl _ _⟩
  case round =>
    obtain ⟨i, hg, rfl, hb⟩ := hrel
    have HB := Lib.hid hb
    have i0 : (0 : Int) ≤ (i : Int) := by omega
    by_cases hlt : i < ZL
    · have ii : (i : Int) < (ZL : Int) := by omega
      obtain ⟨b3, o3, rfl, hc3⟩ := RwK.at (HQ3.out.keep hb) i (by rw [HZL.out]; exact hlt)
      obtain ⟨p0, p1, p2⟩ := hc3 i (by rw [HZL.out]; exact hlt)
      by_cases hlx : i < XL
      · have ix : (i : Int) < (XL : Int) := by omega
        have ix2 : decide ((XL : Int) ≤ (i : Int)) = false := by simp; omega
        have ix3 : decide (XL ≤ i) = false := by simp; omega
        obtain ⟨b1, o1, rfl, hc1⟩ := RwK.at (HQ1.out.keep hb) i (by rw [HXL.out]; exact hlx)
        obtain ⟨q0, q1, q2⟩ := hc1 i (by rw [HXL.out]; exact hlx)
        have ez : zz[i]'(by rw [HZL.out]; exact hlt) = x[i]'(by rw [HXL.out]; exact hlx) := by
          have hz := HZZ.out
          subst hz
          exact List.getElem_append_left _
        rw [ez] at p0 p1 p2
        generalize x[i]'(by rw [HXL.out]; exact hlx) = t at *
        obtain ⟨tk, tx, tp⟩ := t
        simp only at p0 p1 p2 q0 q1 q2
        clear hc3 hc1 hb ez
        go_wp2_with fail
        go_quiet (fail)
        all_goals
          go_wp2_with fail
          go_quiet (fail)
          all_goals
            go_wp2_with fail
            go_roundg (ZL - (i + 1))
            case rel => exact ⟨i + 1, by omega, by go_num, by first | exact HB.out | exact below_drewN HB.out _ | exact below_drewN (below_drewN HB.out _) _⟩
            case measure => omega
      · have ix : decide ((i : Int) < (XL : Int)) = false := by simp; omega
        have ix2 : (XL : Int) ≤ (i : Int) := by omega
        obtain ⟨j, hj⟩ : ∃ j, i = XL + j := ⟨i - XL, by omega⟩
        have hji : (i : Int) - (XL : Int) = (j : Int) := by omega
        have j0 : (0 : Int) ≤ (j : Int) := by omega
        have hjl : j < YL := by have := HZS.out; omega
        have j1 : (j : Int) < (YL : Int) := by omega
        obtain ⟨b2, o2, rfl, hc2⟩ := RwK.at (HQ2.out.keep hb) j (by rw [HYL.out]; exact hjl)
        obtain ⟨q0, q1, q2⟩ := hc2 j (by rw [HYL.out]; exact hjl)
        have ez : zz[i]'(by rw [HZL.out]; exact hlt) = Tk.up (A.size + 1) (y[j]'(by rw [HYL.out]; exact hjl)) := by
          have hz := HZZ.out
          subst hz
          rw [List.getElem_append_right (by rw [HXL.out]; omega), List.getElem_map]
          congr 2
          rw [HXL.out]; omega
        have hpl := LP.out _ (List.getElem_mem (show j < y.length by rw [HYL.out]; exact hjl))
        rw [ez] at p0 p1 p2
        generalize y[j]'(by rw [HYL.out]; exact hjl) = t at *
        obtain ⟨tk, tx, tp⟩ := t
        simp only [Tk.up] at p0 p1 p2 q0 q1 q2 hpl
        obtain ⟨P, hP⟩ : ∃ P, P = tp + (A.size + 1) := ⟨_, rfl⟩
        rw [← hP] at p2
        have hne : ((P : Int) != (tp : Int) + (A.size : Int) + 1) = false := by simp; omega
        have hp1 : (tp : Int) ≤ 1000 := by omega
        clear hc3 hc2 hb ez hP hj
        go_wp2_with fail
        go_quiet (fail)
        all_goals
          go_wp2_with fail
          go_quiet (fail)
          all_goals
            go_wp2_with fail
            go_roundg (ZL - (i + 1))
            case rel => exact ⟨i + 1, by omega, by go_num, by first | exact HB.out | exact below_drewN HB.out _ | exact below_drewN (below_drewN HB.out _) _⟩
            case measure => omega
    · have ii : ¬ ((i : Int) < (ZL : Int)) := by omega
      have c5 := Below.chain c4 HB.out
      go_wp2_with fail
      go_ret
      exact ⟨rfl, c5⟩
theorem walk (a b : ByteArray) (ha : a.size ≤ maxLen) (hb : b.size ≤ maxLen) (w : World) (hT : TabsX w) :
    Calls Tryz.prog 5 #[.string a, .string b] w fun e w' => e = .returned (.bool true) ∧ Below w.heap.size w w' := by
  obtain ⟨m, hm⟩ : ∃ m, m = min a.size 1000 := ⟨_, rfl⟩
  obtain ⟨n, hn⟩ : ∃ n, n = min b.size 1000 := ⟨_, rfl⟩
  have sA : (a.extract 0 m).size = m := by rw [ByteArray.size_extract]; omega
  have sB : (b.extract 0 n).size = n := by rw [ByteArray.size_extract]; omega
  have sZ : (a.extract 0 m ++ ⟨#[10]⟩ ++ b.extract 0 n).size ≤ 2001 := by
    rw [ByteArray.size_append, ByteArray.size_append]
    have : (ByteArray.mk #[10]).size = 1 := rfl
    omega
  have eZ : (a.extract 0 m ++ ⟨#[10]⟩ ++ b.extract 0 n).data.toList = (a.extract 0 m).data.toList ++ 10 :: (b.extract 0 n).data.toList := by simp
  have hj := lexT_join (b.extract 0 n).data.toList (a.extract 0 m).data.toList 0
  rw [← eZ, show 0 + (a.extract 0 m).data.toList.length + 1 = 0 + ((a.extract 0 m).size + 1) by rw [lx_len]; omega, lexT_up] at hj
  cases h1 : lexT (a.extract 0 m).data.toList 0 with
  | error p =>
    rw [h1] at hj
    exact bad1 a b _ _ _ m n (by omega) (by omega) rfl (by omega) (by omega) rfl rfl (by omega) (by omega) sZ p h1 hj w hT
  | ok x =>
    rw [h1] at hj
    cases h2 : lexT (b.extract 0 n).data.toList 0 with
    | error q =>
      rw [h2] at hj
      have hq := lex_bad_lt _ _ _ h2
      rw [lx_len] at hq
      exact bad2 a b _ _ _ m n (by omega) (by omega) rfl (by omega) (by omega) rfl rfl (by omega) (by omega) sZ x q _ (by omega) h1 h2 hj (by simp; omega) w hT
    | ok y =>
      rw [h2] at hj
      have s1 := lex_stand _ _ 0 rfl (Nat.zero_le _) x h1
      have s2 := lex_stand _ _ 0 rfl (Nat.zero_le _) y h2
      have l1 := stand_len s1
      have l2 := stand_len s2
      rw [lx_len] at l1 l2
      refine good a b _ _ _ m n (by omega) (by omega) rfl (by omega) (by omega) rfl rfl (by omega) (by omega) sZ x y h1 h2 hj (by omega) (by omega) ?_ w hT
      intro t ht
      obtain ⟨k, hk, rfl⟩ := List.getElem_of_mem ht
      have := (stand_at s2 k hk).2.1
      rw [lx_len] at this
      omega
end Go.Proofs.YtainigcchlgehaaGreatDoor.LexJoins
