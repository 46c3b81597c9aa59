import Derived.Test.YtnjlcdemfdokoaaGreatDoorBG
import Derived.Test.YtnjlcdemfdokoaaGreatDoorBH
import Derived.Test.YtnjlcdemfdokoaaGreatDoorBI
namespace Go.Proofs.YtnjlcdemfdokoaaGreatDoor
open Go Go.RowKit
set_option linter.unusedVariables false
theorem fop3 (i : Nat) : fop i = .add ∨ fop i = .sub ∨ fop i = .mul := by unfold fop; (repeat' split) <;> simp
theorem retB_ok {fn : Nat} {a b v : Int} (h : ∀ w, Calls Tryz.prog fn #[.int .i64 a, .int .i64 b] w (IntRetB v w)) (hr : roomB v = true) (w : World) :
    Calls Tryz.prog fn #[.int .i64 a, .int .i64 b] w fun e w' => e = .returned (.tuple #[.int .i64 v, .bool true]) ∧ Below w.heap.size w w' := by
  refine (h w).mono ?_
  rintro e w' ⟨N, he, hN, hb⟩
  rw [hN hr, hr] at he
  exact ⟨he, hb⟩
theorem retB_no {fn : Nat} {a b v : Int} (h : ∀ w, Calls Tryz.prog fn #[.int .i64 a, .int .i64 b] w (IntRetB v w)) (hr : roomB v = false) (w : World) :
    Calls Tryz.prog fn #[.int .i64 a, .int .i64 b] w fun e w' => ∃ N, e = .returned (.tuple #[.int .i64 N, .bool false]) ∧ Below w.heap.size w w' := by
  refine (h w).mono ?_
  rintro e w' ⟨N, he, hN, hb⟩
  rw [hr] at he
  exact ⟨N, he, hb⟩
theorem retB_any {fn : Nat} {a b v : Int} (h : ∀ w, Calls Tryz.prog fn #[.int .i64 a, .int .i64 b] w (IntRetB v w)) (w : World) :
    Calls Tryz.prog fn #[.int .i64 a, .int .i64 b] w fun e w' => ∃ N t, e = .returned (.tuple #[.int .i64 N, .bool t]) ∧ Below w.heap.size w w' := by
  refine (h w).mono ?_
  rintro e w' ⟨N, he, hN, hb⟩
  exact ⟨N, _, he, hb⟩
theorem rk1_all (op : ByteArray) (e1 : (op.toList == [43]) = true) (m1 : (op.toList != [43]) = false) (e2 : (op.toList == [45]) = false) (m2 : (op.toList != [45]) = true) (e3 : (op.toList == [42]) = false) (m3 : (op.toList != [42]) = true) (hi : opO op = 1) (k n k' n' : Int) (f f' : Nat) (s s' : ByteArray) (n1 : -9223372036854775808 ≤ n) (n2 : n ≤ 9223372036854775807) (n1' : -9223372036854775808 ≤ n') (n2' : n' ≤ 9223372036854775807) (hf : f < 18446744073709551616) (hf' : f' < 18446744073709551616) (w : World) :
    Calls Tryz.prog 26 #[.string op, .agg #[.int .i64 k, .int .i64 n, .float .f64 f, .string s], .agg #[.int .i64 k', .int .i64 n', .float .f64 f', .string s']] w fun e w' => e = .returned (.tuple #[.agg #[.int .i64 (reckR op k n f s k' n' f' s').1, .int .i64 (reckR op k n f s k' n' f' s').2.1, .float .f64 (reckR op k n f s k' n' f' s').2.2.1, .string ⟨#[]⟩], .int .i64 (reckR op k n f s k' n' f' s').2.2.2]) ∧ Below w.heap.size w w' := by
  have h0 : ¬ opO op = 0 := by omega
  have R1 := rright_any k n f hf s
  have R2 := rright_any k' n' f' hf' s'
  rcases bool_cases (rightB k n f s) with ha | ha
  · rw [ha] at R1
    refine (rk1_ra op e1 m1 e2 m2 e3 m3 k n k' n' f f' s s' _ R1 R2 w).mono fun e w' h => ret_vf' ?_ h
    simp [reckR, ha]
  rw [ha] at R1
  rcases bool_cases (rightB k' n' f' s') with hb | hb
  · rw [hb] at R2
    refine (rk1_rb op e1 m1 e2 m2 e3 m3 k n k' n' f f' s s' R1 R2 w).mono fun e w' h => ret_vf' ?_ h
    simp [reckR, hb]
  rw [hb] at R2
  by_cases k0 : k = 0
  · refine (rk1_na op e1 m1 e2 m2 e3 m3 k n k' n' f f' s s' R1 R2 (by simpa using k0) w).mono fun e w' h => ret_vf' ?_ h
    unfold reckR
    rw [if_neg (by simp [h0, ha, hb]), if_pos (Or.inl k0)]
  have k0' : (k == 0) = false := by simpa using k0
  by_cases l0 : k' = 0
  · refine (rk1_nb op e1 m1 e2 m2 e3 m3 k n k' n' f f' s s' R1 R2 k0' (by simpa using l0) w).mono fun e w' h => ret_vf' ?_ h
    unfold reckR
    rw [if_neg (by simp [h0, ha, hb]), if_pos (Or.inr l0)]
  have l0' : (k' == 0) = false := by simpa using l0
  have N1 := rnum_any k n f s
  have N2 := rnum_any k' n' f' s'
  rcases bool_cases (numB k) with m1' | m1'
  · rw [m1'] at N1
    refine (rk1_ta op e1 m1 e2 m2 e3 m3 k n k' n' f f' s s' R1 R2 k0' l0' N1 w).mono fun e w' h => ret_vf' ?_ h
    simp [reckR, h0, ha, hb, k0, l0, m1']
  rw [m1'] at N1
  rcases bool_cases (numB k') with m2' | m2'
  · rw [m2'] at N2
    refine (rk1_tb op e1 m1 e2 m2 e3 m3 k n k' n' f f' s s' R1 R2 k0' l0' N1 N2 w).mono fun e w' h => ret_vf' ?_ h
    simp [reckR, h0, ha, hb, k0, l0, m2']
  rw [m2'] at N2
  have TM := retB_any (rtimes_any n n' n1 n2 n1' n2')
  have c1 : k = 2 ∨ k = 3 := by simpa [numB] using m1'
  have c2 : k' = 2 ∨ k' = 3 := by simpa [numB] using m2'
  clear k0 k0' l0 l0' m1' m2'
  rcases c1 with rfl | rfl <;> rcases c2 with rfl | rfl
  · rcases bool_cases (roomB (n + n')) with hr | hr
    · have ht : reckR op 2 n f s 2 n' f' s' = (0, 0, 0, 7) := by
        unfold reckR; rw [if_neg (by simp [h0, ha, hb]), if_neg (by simp), if_neg (by simp [numB]), if_neg (by simp), hi, show iop 1 n n' = n + n' from rfl, if_neg (by simp [hr])]
      rw [ht]
      exact rk1_i_no op e1 m1 e2 m2 e3 m3 2 n 2 n' f f' s s' R1 R2 N1 N2 TM 0 (retB_no (rsum_any n n' n1 n2 n1' n2') hr) w
    · have ht : reckR op 2 n f s 2 n' f' s' = (2, n + n', 0, 0) := by
        unfold reckR; rw [if_neg (by simp [h0, ha, hb]), if_neg (by simp), if_neg (by simp [numB]), if_neg (by simp), hi, show iop 1 n n' = n + n' from rfl, if_pos hr]
      rw [ht]
      exact rk1_i_ok op e1 m1 e2 m2 e3 m3 2 n 2 n' f f' s s' R1 R2 N1 N2 TM _ (retB_ok (rsum_any n n' n1 n2 n1' n2') hr) w
  · have hd : True := trivial
    · have ht : reckR op 2 n f s 3 n' f' s' = (3, 0, arC .add (floatOfInt .f64 n) f', 0) := by
        unfold reckR; rw [if_neg (by simp [h0, ha, hb]), if_neg (by simp), if_neg (by simp [numB]), if_pos (by simp), hi]; rfl
      rw [ht]
      exact rk1_f23 op e1 m1 e2 m2 e3 m3 2 n 3 n' f f' s s' R1 R2 N1 N2 w
  · have hd : True := trivial
    · have ht : reckR op 3 n f s 2 n' f' s' = (3, 0, arC .add f (floatOfInt .f64 n'), 0) := by
        unfold reckR; rw [if_neg (by simp [h0, ha, hb]), if_neg (by simp), if_neg (by simp [numB]), if_pos (by simp), hi]; rfl
      rw [ht]
      exact rk1_f32 op e1 m1 e2 m2 e3 m3 3 n 2 n' f f' s s' R1 R2 N1 N2 w
  · have hd : True := trivial
    · have ht : reckR op 3 n f s 3 n' f' s' = (3, 0, arC .add f f', 0) := by
        unfold reckR; rw [if_neg (by simp [h0, ha, hb]), if_neg (by simp), if_neg (by simp [numB]), if_pos (by simp), hi]; rfl
      rw [ht]
      exact rk1_f33 op e1 m1 e2 m2 e3 m3 3 n 3 n' f f' s s' R1 R2 N1 N2 w
theorem rk2_all (op : ByteArray) (e1 : (op.toList == [43]) = false) (m1 : (op.toList != [43]) = true) (e2 : (op.toList == [45]) = true) (m2 : (op.toList != [45]) = false) (e3 : (op.toList == [42]) = false) (m3 : (op.toList != [42]) = true) (hi : opO op = 2) (k n k' n' : Int) (f f' : Nat) (s s' : ByteArray) (n1 : -9223372036854775808 ≤ n) (n2 : n ≤ 9223372036854775807) (n1' : -9223372036854775808 ≤ n') (n2' : n' ≤ 9223372036854775807) (hf : f < 18446744073709551616) (hf' : f' < 18446744073709551616) (w : World) :
    Calls Tryz.prog 26 #[.string op, .agg #[.int .i64 k, .int .i64 n, .float .f64 f, .string s], .agg #[.int .i64 k', .int .i64 n', .float .f64 f', .string s']] w fun e w' => e = .returned (.tuple #[.agg #[.int .i64 (reckR op k n f s k' n' f' s').1, .int .i64 (reckR op k n f s k' n' f' s').2.1, .float .f64 (reckR op k n f s k' n' f' s').2.2.1, .string ⟨#[]⟩], .int .i64 (reckR op k n f s k' n' f' s').2.2.2]) ∧ Below w.heap.size w w' := by
  have h0 : ¬ opO op = 0 := by omega
  have R1 := rright_any k n f hf s
  have R2 := rright_any k' n' f' hf' s'
  rcases bool_cases (rightB k n f s) with ha | ha
  · rw [ha] at R1
    refine (rk2_ra op e1 m1 e2 m2 e3 m3 k n k' n' f f' s s' _ R1 R2 w).mono fun e w' h => ret_vf' ?_ h
    simp [reckR, ha]
  rw [ha] at R1
  rcases bool_cases (rightB k' n' f' s') with hb | hb
  · rw [hb] at R2
    refine (rk2_rb op e1 m1 e2 m2 e3 m3 k n k' n' f f' s s' R1 R2 w).mono fun e w' h => ret_vf' ?_ h
    simp [reckR, hb]
  rw [hb] at R2
  by_cases k0 : k = 0
  · refine (rk2_na op e1 m1 e2 m2 e3 m3 k n k' n' f f' s s' R1 R2 (by simpa using k0) w).mono fun e w' h => ret_vf' ?_ h
    unfold reckR
    rw [if_neg (by simp [h0, ha, hb]), if_pos (Or.inl k0)]
  have k0' : (k == 0) = false := by simpa using k0
  by_cases l0 : k' = 0
  · refine (rk2_nb op e1 m1 e2 m2 e3 m3 k n k' n' f f' s s' R1 R2 k0' (by simpa using l0) w).mono fun e w' h => ret_vf' ?_ h
    unfold reckR
    rw [if_neg (by simp [h0, ha, hb]), if_pos (Or.inr l0)]
  have l0' : (k' == 0) = false := by simpa using l0
  have N1 := rnum_any k n f s
  have N2 := rnum_any k' n' f' s'
  rcases bool_cases (numB k) with m1' | m1'
  · rw [m1'] at N1
    refine (rk2_ta op e1 m1 e2 m2 e3 m3 k n k' n' f f' s s' R1 R2 k0' l0' N1 w).mono fun e w' h => ret_vf' ?_ h
    simp [reckR, h0, ha, hb, k0, l0, m1']
  rw [m1'] at N1
  rcases bool_cases (numB k') with m2' | m2'
  · rw [m2'] at N2
    refine (rk2_tb op e1 m1 e2 m2 e3 m3 k n k' n' f f' s s' R1 R2 k0' l0' N1 N2 w).mono fun e w' h => ret_vf' ?_ h
    simp [reckR, h0, ha, hb, k0, l0, m2']
  rw [m2'] at N2
  have TM := retB_any (rtimes_any n n' n1 n2 n1' n2')
  have c1 : k = 2 ∨ k = 3 := by simpa [numB] using m1'
  have c2 : k' = 2 ∨ k' = 3 := by simpa [numB] using m2'
  clear k0 k0' l0 l0' m1' m2'
  rcases c1 with rfl | rfl <;> rcases c2 with rfl | rfl
  · by_cases hm : n' = -9223372036854775808
    · have hrm : roomB (n - n') = decide (n < 0) := by unfold roomB; rw [decide_eq_decide]; omega
      rcases bool_cases (roomB (n - n')) with hr | hr
      · have ht : reckR op 2 n f s 2 n' f' s' = (0, 0, 0, 7) := by
          unfold reckR; rw [if_neg (by simp [h0, ha, hb]), if_neg (by simp), if_neg (by simp [numB]), if_neg (by simp), hi, show iop 2 n n' = n - n' from rfl, if_neg (by simp [hr])]
        rw [ht]
        exact rk2_j_no op e1 m1 e2 m2 e3 m3 2 n 2 n' f f' s s' R1 R2 N1 N2 TM (by simpa using hm) (by rw [← hrm]; exact hr) w
      · have ht : reckR op 2 n f s 2 n' f' s' = (2, wrap64 (n - n'), 0, 0) := by
          unfold reckR; rw [if_neg (by simp [h0, ha, hb]), if_neg (by simp), if_neg (by simp [numB]), if_neg (by simp), hi, show iop 2 n n' = n - n' from rfl, if_pos hr, (room_iff _).1 hr]
        rw [ht]
        exact rk2_j_ok op e1 m1 e2 m2 e3 m3 2 n 2 n' f f' s s' R1 R2 N1 N2 TM (by simpa using hm) (by rw [← hrm]; exact hr) w
    · have hw : wrap64 (-n') = -n' := by rw [wrap64_eq]; omega
      have SU : ∀ w, Calls Tryz.prog 59 #[.int .i64 n, .int .i64 (wrap64 (-n'))] w (IntRetB (n - n') w) := by
        rw [hw]; exact fun w => rsum_any n (-n') n1 n2 (by omega) (by omega) w
      rcases bool_cases (roomB (n - n')) with hr | hr
      · have ht : reckR op 2 n f s 2 n' f' s' = (0, 0, 0, 7) := by
          unfold reckR; rw [if_neg (by simp [h0, ha, hb]), if_neg (by simp), if_neg (by simp [numB]), if_neg (by simp), hi, show iop 2 n n' = n - n' from rfl, if_neg (by simp [hr])]
        rw [ht]
        exact rk2_i_no op e1 m1 e2 m2 e3 m3 2 n 2 n' f f' s s' R1 R2 N1 N2 TM (by simpa using hm) 0 (retB_no SU hr) w
      · have ht : reckR op 2 n f s 2 n' f' s' = (2, n - n', 0, 0) := by
          unfold reckR; rw [if_neg (by simp [h0, ha, hb]), if_neg (by simp), if_neg (by simp [numB]), if_neg (by simp), hi, show iop 2 n n' = n - n' from rfl, if_pos hr]
        rw [ht]
        exact rk2_i_ok op e1 m1 e2 m2 e3 m3 2 n 2 n' f f' s s' R1 R2 N1 N2 TM (by simpa using hm) _ (retB_ok SU hr) w
  · have hd : True := trivial
    · have ht : reckR op 2 n f s 3 n' f' s' = (3, 0, arC .sub (floatOfInt .f64 n) f', 0) := by
        unfold reckR; rw [if_neg (by simp [h0, ha, hb]), if_neg (by simp), if_neg (by simp [numB]), if_pos (by simp), hi]; rfl
      rw [ht]
      exact rk2_f23 op e1 m1 e2 m2 e3 m3 2 n 3 n' f f' s s' R1 R2 N1 N2 w
  · have hd : True := trivial
    · have ht : reckR op 3 n f s 2 n' f' s' = (3, 0, arC .sub f (floatOfInt .f64 n'), 0) := by
        unfold reckR; rw [if_neg (by simp [h0, ha, hb]), if_neg (by simp), if_neg (by simp [numB]), if_pos (by simp), hi]; rfl
      rw [ht]
      exact rk2_f32 op e1 m1 e2 m2 e3 m3 3 n 2 n' f f' s s' R1 R2 N1 N2 w
  · have hd : True := trivial
    · have ht : reckR op 3 n f s 3 n' f' s' = (3, 0, arC .sub f f', 0) := by
        unfold reckR; rw [if_neg (by simp [h0, ha, hb]), if_neg (by simp), if_neg (by simp [numB]), if_pos (by simp), hi]; rfl
      rw [ht]
      exact rk2_f33 op e1 m1 e2 m2 e3 m3 3 n 3 n' f f' s s' R1 R2 N1 N2 w
theorem rk3_all (op : ByteArray) (e1 : (op.toList == [43]) = false) (m1 : (op.toList != [43]) = true) (e2 : (op.toList == [45]) = false) (m2 : (op.toList != [45]) = true) (e3 : (op.toList == [42]) = true) (m3 : (op.toList != [42]) = false) (hi : opO op = 3) (k n k' n' : Int) (f f' : Nat) (s s' : ByteArray) (n1 : -9223372036854775808 ≤ n) (n2 : n ≤ 9223372036854775807) (n1' : -9223372036854775808 ≤ n') (n2' : n' ≤ 9223372036854775807) (hf : f < 18446744073709551616) (hf' : f' < 18446744073709551616) (w : World) :
    Calls Tryz.prog 26 #[.string op, .agg #[.int .i64 k, .int .i64 n, .float .f64 f, .string s], .agg #[.int .i64 k', .int .i64 n', .float .f64 f', .string s']] w fun e w' => e = .returned (.tuple #[.agg #[.int .i64 (reckR op k n f s k' n' f' s').1, .int .i64 (reckR op k n f s k' n' f' s').2.1, .float .f64 (reckR op k n f s k' n' f' s').2.2.1, .string ⟨#[]⟩], .int .i64 (reckR op k n f s k' n' f' s').2.2.2]) ∧ Below w.heap.size w w' := by
  have h0 : ¬ opO op = 0 := by omega
  have R1 := rright_any k n f hf s
  have R2 := rright_any k' n' f' hf' s'
  rcases bool_cases (rightB k n f s) with ha | ha
  · rw [ha] at R1
    refine (rk3_ra op e1 m1 e2 m2 e3 m3 k n k' n' f f' s s' _ R1 R2 w).mono fun e w' h => ret_vf' ?_ h
    simp [reckR, ha]
  rw [ha] at R1
  rcases bool_cases (rightB k' n' f' s') with hb | hb
  · rw [hb] at R2
    refine (rk3_rb op e1 m1 e2 m2 e3 m3 k n k' n' f f' s s' R1 R2 w).mono fun e w' h => ret_vf' ?_ h
    simp [reckR, hb]
  rw [hb] at R2
  by_cases k0 : k = 0
  · refine (rk3_na op e1 m1 e2 m2 e3 m3 k n k' n' f f' s s' R1 R2 (by simpa using k0) w).mono fun e w' h => ret_vf' ?_ h
    unfold reckR
    rw [if_neg (by simp [h0, ha, hb]), if_pos (Or.inl k0)]
  have k0' : (k == 0) = false := by simpa using k0
  by_cases l0 : k' = 0
  · refine (rk3_nb op e1 m1 e2 m2 e3 m3 k n k' n' f f' s s' R1 R2 k0' (by simpa using l0) w).mono fun e w' h => ret_vf' ?_ h
    unfold reckR
    rw [if_neg (by simp [h0, ha, hb]), if_pos (Or.inr l0)]
  have l0' : (k' == 0) = false := by simpa using l0
  have N1 := rnum_any k n f s
  have N2 := rnum_any k' n' f' s'
  rcases bool_cases (numB k) with m1' | m1'
  · rw [m1'] at N1
    refine (rk3_ta op e1 m1 e2 m2 e3 m3 k n k' n' f f' s s' R1 R2 k0' l0' N1 w).mono fun e w' h => ret_vf' ?_ h
    simp [reckR, h0, ha, hb, k0, l0, m1']
  rw [m1'] at N1
  rcases bool_cases (numB k') with m2' | m2'
  · rw [m2'] at N2
    refine (rk3_tb op e1 m1 e2 m2 e3 m3 k n k' n' f f' s s' R1 R2 k0' l0' N1 N2 w).mono fun e w' h => ret_vf' ?_ h
    simp [reckR, h0, ha, hb, k0, l0, m2']
  rw [m2'] at N2
  have TM := retB_any (rtimes_any n n' n1 n2 n1' n2')
  have c1 : k = 2 ∨ k = 3 := by simpa [numB] using m1'
  have c2 : k' = 2 ∨ k' = 3 := by simpa [numB] using m2'
  clear k0 k0' l0 l0' m1' m2'
  rcases c1 with rfl | rfl <;> rcases c2 with rfl | rfl
  · rcases bool_cases (roomB (n * n')) with hr | hr
    · have ht : reckR op 2 n f s 2 n' f' s' = (0, 0, 0, 7) := by
        unfold reckR; rw [if_neg (by simp [h0, ha, hb]), if_neg (by simp), if_neg (by simp [numB]), if_neg (by simp), hi, show iop 3 n n' = n * n' from rfl, if_neg (by simp [hr])]
      rw [ht]
      exact rk3_i_no op e1 m1 e2 m2 e3 m3 2 n 2 n' f f' s s' R1 R2 N1 N2 0 (retB_no (rtimes_any n n' n1 n2 n1' n2') hr) w
    · have ht : reckR op 2 n f s 2 n' f' s' = (2, n * n', 0, 0) := by
        unfold reckR; rw [if_neg (by simp [h0, ha, hb]), if_neg (by simp), if_neg (by simp [numB]), if_neg (by simp), hi, show iop 3 n n' = n * n' from rfl, if_pos hr]
      rw [ht]
      exact rk3_i_ok op e1 m1 e2 m2 e3 m3 2 n 2 n' f f' s s' R1 R2 N1 N2 _ (retB_ok (rtimes_any n n' n1 n2 n1' n2') hr) w
  · have hd : True := trivial
    · have ht : reckR op 2 n f s 3 n' f' s' = (3, 0, arC .mul (floatOfInt .f64 n) f', 0) := by
        unfold reckR; rw [if_neg (by simp [h0, ha, hb]), if_neg (by simp), if_neg (by simp [numB]), if_pos (by simp), hi]; rfl
      rw [ht]
      exact rk3_f23 op e1 m1 e2 m2 e3 m3 2 n 3 n' f f' s s' R1 R2 N1 N2 w
  · have hd : True := trivial
    · have ht : reckR op 3 n f s 2 n' f' s' = (3, 0, arC .mul f (floatOfInt .f64 n'), 0) := by
        unfold reckR; rw [if_neg (by simp [h0, ha, hb]), if_neg (by simp), if_neg (by simp [numB]), if_pos (by simp), hi]; rfl
      rw [ht]
      exact rk3_f32 op e1 m1 e2 m2 e3 m3 3 n 2 n' f f' s s' R1 R2 N1 N2 w
  · have hd : True := trivial
    · have ht : reckR op 3 n f s 3 n' f' s' = (3, 0, arC .mul f f', 0) := by
        unfold reckR; rw [if_neg (by simp [h0, ha, hb]), if_neg (by simp), if_neg (by simp [numB]), if_pos (by simp), hi]; rfl
      rw [ht]
      exact rk3_f33 op e1 m1 e2 m2 e3 m3 3 n 3 n' f f' s s' R1 R2 N1 N2 w
theorem rreck_any (op : ByteArray) (k n k' n' : Int) (f f' : Nat) (s s' : ByteArray) (n1 : -9223372036854775808 ≤ n) (n2 : n ≤ 9223372036854775807) (n1' : -9223372036854775808 ≤ n') (n2' : n' ≤ 9223372036854775807) (hf : f < 18446744073709551616) (hf' : f' < 18446744073709551616) (w : World) :
    Calls Tryz.prog 26 #[.string op, .agg #[.int .i64 k, .int .i64 n, .float .f64 f, .string s], .agg #[.int .i64 k', .int .i64 n', .float .f64 f', .string s']] w fun e w' => e = .returned (.tuple #[.agg #[.int .i64 (reckR op k n f s k' n' f' s').1, .int .i64 (reckR op k n f s k' n' f' s').2.1, .float .f64 (reckR op k n f s k' n' f' s').2.2.1, .string ⟨#[]⟩], .int .i64 (reckR op k n f s k' n' f' s').2.2.2]) ∧ Below w.heap.size w w' := by
  by_cases q1 : op.toList = [43]
  · exact rk1_all op (by rw [q1]; decide) (by rw [q1]; decide) (by rw [q1]; decide) (by rw [q1]; decide) (by rw [q1]; decide) (by rw [q1]; decide) (by unfold opO; rw [q1]; decide) k n k' n' f f' s s' n1 n2 n1' n2' hf hf' w
  by_cases q2 : op.toList = [45]
  · exact rk2_all op (by rw [q2]; decide) (by rw [q2]; decide) (by rw [q2]; decide) (by rw [q2]; decide) (by rw [q2]; decide) (by rw [q2]; decide) (by unfold opO; rw [q2]; decide) k n k' n' f f' s s' n1 n2 n1' n2' hf hf' w
  by_cases q3 : op.toList = [42]
  · exact rk3_all op (by rw [q3]; decide) (by rw [q3]; decide) (by rw [q3]; decide) (by rw [q3]; decide) (by rw [q3]; decide) (by rw [q3]; decide) (by unfold opO; rw [q3]; decide) k n k' n' f f' s s' n1 n2 n1' n2' hf hf' w
  have h0 : opO op = 0 := by unfold opO; rw [if_neg q1, if_neg q2, if_neg q3]
  refine (rk_unk op (by simpa using q1) (by simpa using q1) (by simpa using q2) (by simpa using q2) (by simpa using q3) (by simpa using q3) k n k' n' f f' s s' _ _ (rright_any k n f hf s) (rright_any k' n' f' hf' s') w).mono fun e w' h => ret_vf' ?_ h
  simp [reckR, h0]
theorem reckR_lt (op : ByteArray) (k n k' n' : Int) (f f' : Nat) (s s' : ByteArray) (n1 : -9223372036854775808 ≤ n) (n2 : n ≤ 9223372036854775807) (n1' : -9223372036854775808 ≤ n') (n2' : n' ≤ 9223372036854775807) (hf : f < 18446744073709551616) (hf' : f' < 18446744073709551616) : (reckR op k n f s k' n' f' s').2.2.1 < 18446744073709551616 := by
  unfold reckR
  repeat' split
  all_goals first | decide | exact (arC_lt _ _ _).1 | simp
theorem reckR_right (op : ByteArray) (k n k' n' : Int) (f f' : Nat) (s s' : ByteArray) (n1 : -9223372036854775808 ≤ n) (n2 : n ≤ 9223372036854775807) (n1' : -9223372036854775808 ≤ n') (n2' : n' ≤ 9223372036854775807) (hf : f < 18446744073709551616) (hf' : f' < 18446744073709551616) (w : World) :
    Calls Tryz.prog 16 #[.agg #[.int .i64 (reckR op k n f s k' n' f' s').1, .int .i64 (reckR op k n f s k' n' f' s').2.1, .float .f64 (reckR op k n f s k' n' f' s').2.2.1, .string ⟨#[]⟩]] w fun e w' => e = .returned (.bool true) ∧ Below w.heap.size w w' := by
  refine (right_any _ _ _ (reckR_lt op k n k' n' f f' s s' n1 n2 n1' n2' hf hf') ⟨#[]⟩ w).mono fun e w' h => ret_bool' ?_ h
  have hnl : (⟨#[]⟩ : ByteArray).toList = [] := nil_list
  unfold reckR
  repeat' split
  all_goals first | simp [rightB, hnl]; done | (have := (arC_lt (fop (opO op)) (asF k n f) (asF k' n' f')).2; simp [rightB, hnl, this])
end Go.Proofs.YtnjlcdemfdokoaaGreatDoor
