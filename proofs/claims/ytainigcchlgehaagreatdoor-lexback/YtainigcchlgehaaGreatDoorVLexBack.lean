/- The walk of the law LexBack. -/
import Derived.Test.YtainigcchlgehaaGreatDoorXO
import Derived.Laws.StructEq
namespace Go.Proofs.YtainigcchlgehaaGreatDoor.LexBack
open Go Go.ChangeShapes Go.WideShapes Go.ChangeAt Go.RowKit
open Go.Joins
set_option linter.unusedVariables false
theorem join_len {s : Bt} : ∀ {e : Nat} {r : List Tk}, Stand s e r → e ≤ s.length → e + (joinT r).length ≤ s.length + r.length
  | e, [], _, he => by simp [joinT]; exact he
  | e, [t], hs, _ => by
    have h1 := hs.1
    have h2 := hs.2.2.1
    show e + t.text.length ≤ _
    simp; omega
  | e, t :: u :: r, hs, _ => by
    have h1 := hs.1
    have h2 := hs.2.2.1
    have := join_len hs.2.2.2.2.2.2 h2
    show e + (t.text ++ 32 :: joinT (u :: r)).length ≤ _
    rw [List.length_append]
    simp only [List.length_cons] at this ⊢
    omega
theorem alike_len : ∀ {r s : List Tk}, Alike r s → r.length = s.length
  | [], [], _ => rfl
  | a :: r, b :: s, h => by rw [List.length_cons, List.length_cons, alike_len h.2.2]
  | [], b :: s, h => h.elim
  | a :: r, [], h => h.elim
theorem alike_at : ∀ {r s : List Tk}, Alike r s → ∀ (k : Nat) (h1 : k < r.length) (h2 : k < s.length), r[k].kind = s[k].kind ∧ r[k].text = s[k].text
  | a :: r, b :: s, h, 0, _, _ => ⟨h.1, h.2.1⟩
  | a :: r, b :: s, h, k + 1, h1, h2 => alike_at h.2.2 k (Nat.lt_of_succ_lt_succ h1) (Nat.lt_of_succ_lt_succ h2)
  | [], _, _, k, h1, _ => by simp at h1
  | a :: r, [], h, _, _, _ => h.elim
set_option maxHeartbeats 4000000 in
set_option maxRecDepth 100000 in
theorem bad (s S : ByteArray) (m : Nat) (hm : min (s.size : Int) 2000 = (m : Int)) (ml : (m : Int) ≤ (s.size : Int)) (hS : s.extract 0 m = S) (la : S.size ≤ 2000) (p : Nat) (x1 : lexT S.data.toList 0 = .error p) (hp : (p : Int) < (S.size : Int)) (w : World) (hT : TabsX w) :
    Calls Tryz.prog 4 #[.string s] w fun e w' => e = .returned (.bool true) ∧ Below w.heap.size w w' := by
  have CS := Lib.hid (shown10_any w hT)
  have C1 := Lib.hid (fun u hu => lex_any S (by omega) u hu)
  have m0 : (0 : Int) ≤ (m : Int) := by omega
  have p0 : (0 : Int) ≤ (p : Int) := by omega
  have X1 := Lib.hid x1
  clear x1
  go_enter Tryz.func4, Tryz.ntmps4
  go_wp2_with fail
  refine CS.out.mono ?_; rintro e w1 ⟨rfl, hb1⟩
  go_wp2_with fail
  refine (C1.out _ (hT.below hb1)).mono ?_; rintro e w2 h2
  obtain ⟨rfl, hb2⟩ := lexR_bad h2 X1.out
  have c2 := Below.chain hb1 hb2
  go_wp2_with fail
  go_ret
  exact ⟨rfl, c2⟩
set_option maxHeartbeats 8000000 in
set_option maxRecDepth 100000 in
theorem good (s S : ByteArray) (m : Nat) (hm : min (s.size : Int) 2000 = (m : Int)) (ml : (m : Int) ≤ (s.size : Int)) (hS : s.extract 0 m = S) (la : S.size ≤ 2000) (r r' : List Tk) (x1 : lexT S.data.toList 0 = .ok r) (x2 : lexT (joinT r) 0 = .ok r') (ha : Alike r' r) (hst : Stand S.data.toList 0 r)
    (w : World) (hT : TabsX w) :
    Calls Tryz.prog 4 #[.string s] w fun e w' => e = .returned (.bool true) ∧ Below w.heap.size w w' := by
  have CS := Lib.hid (shown10_any w hT)
  have C1 := Lib.hid (fun u hu => lex_any S (by omega) u hu)
  have hjl := join_len hst (Nat.zero_le _)
  have hrl := stand_len hst
  have hsl : S.data.toList.length = S.size := lx_len S
  have C2 := Lib.hid (fun u hu => lex_any ⟨(joinT r).toArray⟩ (by rw [tk_size]; omega) u hu)
  have CT := Lib.hid (fun v u h => lxtext_any r v (by omega) u h)
  have HAL := Lib.hid (alike_len ha)
  have HAT := Lib.hid (fun k h1 h2 => alike_at ha k h1 h2)
  have HST := Lib.hid (fun k h => stand_at hst k h)
  have HSN := Lib.hid (fun k h => stand_next hst k h)
  have HES := Lib.hid (fun k h => endAt_succ r 0 k h)
  have HEL := Lib.hid (fun k h => stand_end hst (Nat.zero_le _) k h)
  have HE0 := Lib.hid (show endAt r 0 0 = 0 from rfl)
  have HLS := Lib.hid hsl
  obtain ⟨L, hL⟩ : ∃ L, r.length = L := ⟨_, rfl⟩
  have hL2 : L ≤ 2000 := by omega
  have HL := Lib.hid hL
  have HL' := Lib.hid (show r'.length = L by rw [← hL]; exact alike_len ha)
  have hLi : (L : Int) ≤ 2000 := by omega
  have m0 : (0 : Int) ≤ (m : Int) := by omega
  have X1 := Lib.hid x1
  have X2 := Lib.hid x2
  have LA := Lib.hid la
  have lai : (S.size : Int) ≤ 2000 := by omega
  clear x1 x2 ha hst hjl hrl hsl hL
  go_enter Tryz.func4, Tryz.ntmps4
  go_wp2_with fail
  refine CS.out.mono ?_; rintro e w1 ⟨rfl, hb1⟩
  go_wp2_with fail
  refine (C1.out _ (hT.below hb1)).mono ?_; rintro e w2 h2
  obtain ⟨⟨v1, rfl, hO1⟩, hb2⟩ := lexR_ok h2 X1.out
  obtain ⟨va1, vc1, rfl⟩ := hO1.shape
  have c2 := Below.chain hb1 hb2
  have HO1 := Lib.hid hO1
  have CT2 := Lib.hid (CT.out _ _ hO1.rw)
  rw [HL.out]
  rw [HL.out] at CT2
  clear h2 hb1 hb2 hO1
  go_wp2_with fail
  refine CT2.out.mono ?_; rintro e w3 ⟨rfl, hb3⟩
  have c3 := Below.chain c2 hb3
  have HO3 := Lib.hid (HO1.out.below hb3)
  clear hb3 c2
  go_wp2_with fail
  refine (C2.out _ (hT.below c3)).mono ?_; rintro e w4 h4
  obtain ⟨⟨v4, rfl, hO4⟩, hb4⟩ := lexR_ok h4 X2.out
  obtain ⟨va4, vc4, rfl⟩ := hO4.shape
  have c4 := Below.chain c3 hb4
  have HQ1 := Lib.hid (HO3.out.below hb4).rw
  have HQ2 := Lib.hid hO4.rw
  rw [HL'.out]
  clear h4 hb4 c3 hO4
  go_wp2_with fail
  go_loopg [10, 11, 12] L (fun g s10 s11 s12 wr => ∃ i : Nat, g + i = L ∧ s11 = .int .i64 i ∧ s10 = .int .i64 (endAt r 0 i : Nat) ∧ Below w4.heap.size w4 wr)
  case atStart => exact ⟨0, rfl, rfl, rfl, Below.refl _ _⟩
  case round =>
    obtain ⟨i, hg, rfl, rfl, hb⟩ := hrel
    have HB := Lib.hid hb
    have i0 : (0 : Int) ≤ (i : Int) := by omega
    by_cases hlt : i < L
    · have ii : (i : Int) < (L : Int) := by omega
      have hir : i < r.length := by rw [HL.out]; exact hlt
      obtain ⟨b1, o1, rfl, hc1⟩ := RwK.at (HQ1.out.keep hb) i hir
      obtain ⟨p0, p1, p2⟩ := hc1 i hir
      obtain ⟨b2, o2, rfl, hc2⟩ := RwK.at (HQ2.out.keep hb) i (by rw [HL'.out]; exact hlt)
      obtain ⟨q0, q1, q2⟩ := hc2 i (by rw [HL'.out]; exact hlt)
      obtain ⟨a1, a2⟩ := HAT.out i (by rw [HL'.out]; exact hlt) hir
      rw [a1] at q0
      rw [a2] at q1
      obtain ⟨t1, t2, t3, t4, t5⟩ := HST.out i hir
      have hsn := HSN.out i hir
      have hes := HES.out i hir
      rw [HLS.out] at t2
      generalize endAt r 0 i = E0 at *
      have HE1 := Lib.hid hes
      obtain ⟨E1, hE1⟩ : ∃ E1, E1 = endAt r 0 (i + 1) := ⟨_, rfl⟩
      rw [← hE1] at HE1 hes
      generalize r[i] = t at *
      have hne := t3.ne
      obtain ⟨tk, tx, tp⟩ := t
      simp only at p0 p1 p2 q0 q1 t1 t2 t4 t5 hsn hes hne
      obtain ⟨X, hX⟩ : ∃ X : ByteArray, X = ⟨tx.toArray⟩ := ⟨_, rfl⟩
      rw [← hX] at p1 q1
      have hXs : X.size = tx.length := by rw [hX, tk_size]
      have hXe : S.extract tp E1 = X := by
        rw [hX]
        apply ba_of
        rw [lx_ext, hes, show tp + tx.length - tp = tx.length by omega]
        exact t1
      have hE1i : (tp : Int) + (X.size : Int) = (E1 : Int) := by omega
      have hXn : (X.toList == []) = false := by
        rw [beq_eq_false_iff_ne, Lib.toList_data]
        rw [hX]; exact hne
      obtain ⟨K, hK⟩ : ∃ K : Int, K = (tk : Int) := ⟨_, rfl⟩
      rw [← hK] at p0 q0
      have k1 : decide (K < 1) = false := by simp; omega
      have k5 : decide ((5 : Int) < K) = false := by simp; omega
      have z1 : decide ((tp : Int) < (E0 : Int)) = false := by simp; omega
      have z2 : decide ((S.size : Int) < (E1 : Int)) = false := by simp; omega
      have z1' : decide (tp < E0) = false := by simp; omega
      have z2' : decide (S.size < E1) = false := by simp; omega
      have y1 : (0 : Int) ≤ (tp : Int) := by omega
      have y2 : (tp : Int) ≤ (E1 : Int) := by omega
      have y3 : (E1 : Int) ≤ (S.size : Int) := by omega
      have hw1 : IntKind.i64.wrap (E1 : Int) = (E1 : Int) := by rw [IntKind.wrap_i64]; omega
      have hb2 : b2 < wr.heap.size := block_lt_of_cell q0
      have hK1 : 1 ≤ K := by omega
      have hK5 : K ≤ 5 := by omega
      have HB1 := Lib.hid (HB.out.trans ((below_a1 wr (.cells #[.int .i64 K, .string X, .int .i64 (tp : Int)] 34)).mono HB.out.size))
      have HEE := Lib.hid hE1
      clear hc1 hc2 hb a1 a2 t1 t2 t3 t4 t5 hsn hes hne hX hXs hK hE1
      go_wp2_with fail
      go_quiet (fail)
      all_goals go_wp2_with fail
      go_roundg (L - (i + 1))
      case rel => exact ⟨i + 1, by omega, by go_num, by rw [← HEE.out], below_drewN HB1.out _⟩
      case measure => omega
    · have ii : ¬ ((i : Int) < (L : Int)) := by omega
      have c5 := Below.chain c4 HB.out
      go_wp2_with fail
      go_ret
      exact ⟨rfl, c5⟩
theorem walk (s : ByteArray) (hs : s.size ≤ maxLen) (w : World) (hT : TabsX w) :
    Calls Tryz.prog 4 #[.string s] w fun e w' => e = .returned (.bool true) ∧ Below w.heap.size w w' := by
  obtain ⟨m, hm⟩ : ∃ m, m = min s.size 2000 := ⟨_, rfl⟩
  have sA : (s.extract 0 m).size = m := by rw [ByteArray.size_extract]; omega
  cases h1 : lexT (s.extract 0 m).data.toList 0 with
  | error p =>
    have hp := lex_bad_lt _ _ _ h1
    rw [lx_len] at hp
    exact bad s _ m (by omega) (by omega) rfl (by omega) p h1 (by omega) w hT
  | ok r =>
    have hst := lex_stand _ _ 0 rfl (Nat.zero_le _) r h1
    obtain ⟨r', h2, h3⟩ := lex_back r 0 (stand_good hst)
    exact good s _ m (by omega) (by omega) rfl (by omega) r r' h1 h2 h3 hst w hT
end Go.Proofs.YtainigcchlgehaaGreatDoor.LexBack
