import Derived.Test.YtnjlcdemfdokoaaGreatDoorBA
import Derived.Test.YtnjlcdemfdokoaaGreatDoorBB
import Derived.Test.YtnjlcdemfdokoaaGreatDoorBC
namespace Go.Proofs.YtnjlcdemfdokoaaGreatDoor
open Go Go.RowKit
set_option linter.unusedVariables false
theorem lt_no {o : Int} {a b : Bool} (h : LessT o a b false) : o = 2 ∨ o = -2 := by
  rcases h with ⟨_, h⟩ | ⟨h, _⟩
  · exact h
  · cases h
theorem lt_ok {o : Int} {a b : Bool} (h : LessT o a b true) : a = (o == -1) ∧ b = (o == 0) ∧ (o = -1 ∨ o = 0 ∨ o = 1) := by
  rcases h with ⟨h, _⟩ | ⟨_, h⟩
  · cases h
  · exact h
theorem same_self (k n : Int) (f : Nat) (hf : f < 18446744073709551616) (s : ByteArray) (w : World) :
    Calls Tryz.prog 19 #[.agg #[.int .i64 k, .int .i64 n, .float .f64 f, .string s], .agg #[.int .i64 k, .int .i64 n, .float .f64 f, .string s]] w fun e w' => e = .returned (.bool true) ∧ Below w.heap.size w w' := by
  refine (rsame_any k n k n f f hf hf s s w).mono fun e w' h => ret_bool' ?_ h
  simp [idB]
theorem hold1_no {o : Int} {a b : Bool} (h : LessT o a b false) : holdB 1 o = false := by
  rcases lt_no h with rfl | rfl <;> rfl
theorem hold1_ok {o : Int} {a b : Bool} (h : LessT o a b true) : holdB 1 o = b := by
  obtain ⟨h1, h2, h3⟩ := lt_ok h
  clear h
  subst h1 h2
  rcases h3 with rfl | rfl | rfl <;> rfl
theorem rt1_all (op : ByteArray) (e1 : (op.toList == [61]) = true) (e2 : (op.toList == [60, 62]) = false) (e3 : (op.toList == [60]) = false) (e4 : (op.toList == [60, 61]) = false) (e5 : (op.toList == [62]) = false) (e6 : (op.toList == [62, 61]) = false) (hi : opI op = 1) (k n k' n' : Int) (f f' : Nat) (s s' : ByteArray) (n1 : -9223372036854775808 ≤ n) (n2 : n ≤ 9223372036854775807) (n1' : -9223372036854775808 ≤ n') (n2' : n' ≤ 9223372036854775807) (hf : f < 18446744073709551616) (hf' : f' < 18446744073709551616) (w : World) :
    Calls Tryz.prog 24 #[.string op, .agg #[.int .i64 k, .int .i64 n, .float .f64 f, .string s], .agg #[.int .i64 k', .int .i64 n', .float .f64 f', .string s']] w fun e w' => e = .returned (.tuple #[.agg #[.int .i64 (testR op k n f s k' n' f' s').1, .int .i64 (testR op k n f s k' n' f' s').2.1, .float .f64 0, .string ⟨#[]⟩], .int .i64 (testR op k n f s k' n' f' s').2.2]) ∧ Below w.heap.size w w' := by
  have h0 : ¬ opI op = 0 := by omega
  have R1 := rright_any k n f hf s
  have R2 := rright_any k' n' f' hf' s'
  rcases bool_cases (rightB k n f s) with ha | ha
  · rw [ha] at R1
    refine (rt1_ra op e1 e2 e3 e4 e5 e6 k n k' n' f f' s s' _ R1 R2 w).mono fun e w' h => ret_ve' ?_ h
    simp [testR, ha]
  rw [ha] at R1
  rcases bool_cases (rightB k' n' f' s') with hb | hb
  · rw [hb] at R2
    refine (rt1_rb op e1 e2 e3 e4 e5 e6 k n k' n' f f' s s' R1 R2 w).mono fun e w' h => ret_ve' ?_ h
    simp [testR, hb]
  rw [hb] at R2
  by_cases k0 : k = 0
  · refine (rt1_na op e1 e2 e3 e4 e5 e6 k n k' n' f f' s s' R1 R2 (by simpa using k0) w).mono fun e w' h => ret_ve' ?_ h
    unfold testR
    rw [if_neg (by simp [h0, ha, hb]), if_pos (Or.inl k0)]
  have k0' : (k == 0) = false := by simpa using k0
  by_cases l0 : k' = 0
  · refine (rt1_nb op e1 e2 e3 e4 e5 e6 k n k' n' f f' s s' R1 R2 k0' (by simpa using l0) w).mono fun e w' h => ret_ve' ?_ h
    unfold testR
    rw [if_neg (by simp [h0, ha, hb]), if_pos (Or.inr l0)]
  have l0' : (k' == 0) = false := by simpa using l0
  have N1 := rnum_any k n f s
  have N2 := rnum_any k' n' f' s'
  by_cases e0 : k = k'
  · have e0' : (k != k') = false := by simpa using e0
    obtain ⟨a, b, ok, hT, hL⟩ := rlow_any k n k' n' f f' s s' n1 n2 n1' n2' hf hf' (.inl e0)
    have ht : testR op k n f s k' n' f' s' = (1, b01 (holdB 1 (ordI k n f s k' n' f' s')), 0) := by
      rw [← hi]; unfold testR
      rw [if_neg (by simp [h0, ha, hb]), if_neg (by simp [k0, l0]), if_neg (by simp [e0])]
    rw [ht]
    rcases bool_cases (numB k) with m1 | m1
    · rw [m1] at N1
      cases ok
      · rw [hold1_no hT]
        exact rt1_e0_no op e1 e2 e3 e4 e5 e6 k n k' n' f f' s s' R1 R2 k0' l0' e0' N1 a b hL w
      · rw [hold1_ok hT]
        exact rt1_e0_ok op e1 e2 e3 e4 e5 e6 k n k' n' f f' s s' R1 R2 k0' l0' e0' N1 a b hL w
    · have m2 : numB k' = true := by rw [← e0]; exact m1
      rw [m1] at N1
      rw [m2] at N2
      cases ok
      · rw [hold1_no hT]
        exact rt1_e1_no op e1 e2 e3 e4 e5 e6 k n k' n' f f' s s' R1 R2 k0' l0' e0' N1 N2 a b hL w
      · rw [hold1_ok hT]
        exact rt1_e1_ok op e1 e2 e3 e4 e5 e6 k n k' n' f f' s s' R1 R2 k0' l0' e0' N1 N2 a b hL w
  have e0' : (k != k') = true := by simpa using e0
  rcases bool_cases (numB k) with m1 | m1
  · rw [m1] at N1
    refine (rt1_ta op e1 e2 e3 e4 e5 e6 k n k' n' f f' s s' R1 R2 k0' l0' e0' N1 w).mono fun e w' h => ret_ve' ?_ h
    simp [testR, h0, ha, hb, k0, l0, e0, m1]
  rw [m1] at N1
  rcases bool_cases (numB k') with m2 | m2
  · rw [m2] at N2
    refine (rt1_tb op e1 e2 e3 e4 e5 e6 k n k' n' f f' s s' R1 R2 k0' l0' e0' N1 N2 w).mono fun e w' h => ret_ve' ?_ h
    simp [testR, h0, ha, hb, k0, l0, e0, m2]
  · rw [m2] at N2
    obtain ⟨a, b, ok, hT, hL⟩ := rlow_any k n k' n' f f' s s' n1 n2 n1' n2' hf hf' (.inr (by rw [m1, m2]; rfl))
    have ht : testR op k n f s k' n' f' s' = (1, b01 (holdB 1 (ordI k n f s k' n' f' s')), 0) := by
      rw [← hi]; unfold testR
      rw [if_neg (by simp [h0, ha, hb]), if_neg (by simp [k0, l0]), if_neg (by simp [m1, m2])]
    rw [ht]
    cases ok
    · rw [hold1_no hT]
      exact rt1_nn_no op e1 e2 e3 e4 e5 e6 k n k' n' f f' s s' R1 R2 k0' l0' e0' N1 N2 a b hL w
    · rw [hold1_ok hT]
      exact rt1_nn_ok op e1 e2 e3 e4 e5 e6 k n k' n' f f' s s' R1 R2 k0' l0' e0' N1 N2 a b hL w
theorem hold2_no {o : Int} {a b : Bool} (h : LessT o a b false) : holdB 2 o = true := by
  rcases lt_no h with rfl | rfl <;> rfl
theorem hold2_ok {o : Int} {a b : Bool} (h : LessT o a b true) : holdB 2 o = (!b) := by
  obtain ⟨h1, h2, h3⟩ := lt_ok h
  clear h
  subst h1 h2
  rcases h3 with rfl | rfl | rfl <;> rfl
theorem rt2_all (op : ByteArray) (e1 : (op.toList == [61]) = false) (e2 : (op.toList == [60, 62]) = true) (e3 : (op.toList == [60]) = false) (e4 : (op.toList == [60, 61]) = false) (e5 : (op.toList == [62]) = false) (e6 : (op.toList == [62, 61]) = false) (hi : opI op = 2) (k n k' n' : Int) (f f' : Nat) (s s' : ByteArray) (n1 : -9223372036854775808 ≤ n) (n2 : n ≤ 9223372036854775807) (n1' : -9223372036854775808 ≤ n') (n2' : n' ≤ 9223372036854775807) (hf : f < 18446744073709551616) (hf' : f' < 18446744073709551616) (w : World) :
    Calls Tryz.prog 24 #[.string op, .agg #[.int .i64 k, .int .i64 n, .float .f64 f, .string s], .agg #[.int .i64 k', .int .i64 n', .float .f64 f', .string s']] w fun e w' => e = .returned (.tuple #[.agg #[.int .i64 (testR op k n f s k' n' f' s').1, .int .i64 (testR op k n f s k' n' f' s').2.1, .float .f64 0, .string ⟨#[]⟩], .int .i64 (testR op k n f s k' n' f' s').2.2]) ∧ Below w.heap.size w w' := by
  have h0 : ¬ opI op = 0 := by omega
  have R1 := rright_any k n f hf s
  have R2 := rright_any k' n' f' hf' s'
  rcases bool_cases (rightB k n f s) with ha | ha
  · rw [ha] at R1
    refine (rt2_ra op e1 e2 e3 e4 e5 e6 k n k' n' f f' s s' _ R1 R2 w).mono fun e w' h => ret_ve' ?_ h
    simp [testR, ha]
  rw [ha] at R1
  rcases bool_cases (rightB k' n' f' s') with hb | hb
  · rw [hb] at R2
    refine (rt2_rb op e1 e2 e3 e4 e5 e6 k n k' n' f f' s s' R1 R2 w).mono fun e w' h => ret_ve' ?_ h
    simp [testR, hb]
  rw [hb] at R2
  by_cases k0 : k = 0
  · refine (rt2_na op e1 e2 e3 e4 e5 e6 k n k' n' f f' s s' R1 R2 (by simpa using k0) w).mono fun e w' h => ret_ve' ?_ h
    unfold testR
    rw [if_neg (by simp [h0, ha, hb]), if_pos (Or.inl k0)]
  have k0' : (k == 0) = false := by simpa using k0
  by_cases l0 : k' = 0
  · refine (rt2_nb op e1 e2 e3 e4 e5 e6 k n k' n' f f' s s' R1 R2 k0' (by simpa using l0) w).mono fun e w' h => ret_ve' ?_ h
    unfold testR
    rw [if_neg (by simp [h0, ha, hb]), if_pos (Or.inr l0)]
  have l0' : (k' == 0) = false := by simpa using l0
  have N1 := rnum_any k n f s
  have N2 := rnum_any k' n' f' s'
  by_cases e0 : k = k'
  · have e0' : (k != k') = false := by simpa using e0
    obtain ⟨a, b, ok, hT, hL⟩ := rlow_any k n k' n' f f' s s' n1 n2 n1' n2' hf hf' (.inl e0)
    have ht : testR op k n f s k' n' f' s' = (1, b01 (holdB 2 (ordI k n f s k' n' f' s')), 0) := by
      rw [← hi]; unfold testR
      rw [if_neg (by simp [h0, ha, hb]), if_neg (by simp [k0, l0]), if_neg (by simp [e0])]
    rw [ht]
    rcases bool_cases (numB k) with m1 | m1
    · rw [m1] at N1
      cases ok
      · rw [hold2_no hT]
        exact rt2_e0_no op e1 e2 e3 e4 e5 e6 k n k' n' f f' s s' R1 R2 k0' l0' e0' N1 a b hL w
      · rw [hold2_ok hT]
        exact rt2_e0_ok op e1 e2 e3 e4 e5 e6 k n k' n' f f' s s' R1 R2 k0' l0' e0' N1 a b hL w
    · have m2 : numB k' = true := by rw [← e0]; exact m1
      rw [m1] at N1
      rw [m2] at N2
      cases ok
      · rw [hold2_no hT]
        exact rt2_e1_no op e1 e2 e3 e4 e5 e6 k n k' n' f f' s s' R1 R2 k0' l0' e0' N1 N2 a b hL w
      · rw [hold2_ok hT]
        exact rt2_e1_ok op e1 e2 e3 e4 e5 e6 k n k' n' f f' s s' R1 R2 k0' l0' e0' N1 N2 a b hL w
  have e0' : (k != k') = true := by simpa using e0
  rcases bool_cases (numB k) with m1 | m1
  · rw [m1] at N1
    refine (rt2_ta op e1 e2 e3 e4 e5 e6 k n k' n' f f' s s' R1 R2 k0' l0' e0' N1 w).mono fun e w' h => ret_ve' ?_ h
    simp [testR, h0, ha, hb, k0, l0, e0, m1]
  rw [m1] at N1
  rcases bool_cases (numB k') with m2 | m2
  · rw [m2] at N2
    refine (rt2_tb op e1 e2 e3 e4 e5 e6 k n k' n' f f' s s' R1 R2 k0' l0' e0' N1 N2 w).mono fun e w' h => ret_ve' ?_ h
    simp [testR, h0, ha, hb, k0, l0, e0, m2]
  · rw [m2] at N2
    obtain ⟨a, b, ok, hT, hL⟩ := rlow_any k n k' n' f f' s s' n1 n2 n1' n2' hf hf' (.inr (by rw [m1, m2]; rfl))
    have ht : testR op k n f s k' n' f' s' = (1, b01 (holdB 2 (ordI k n f s k' n' f' s')), 0) := by
      rw [← hi]; unfold testR
      rw [if_neg (by simp [h0, ha, hb]), if_neg (by simp [k0, l0]), if_neg (by simp [m1, m2])]
    rw [ht]
    cases ok
    · rw [hold2_no hT]
      exact rt2_nn_no op e1 e2 e3 e4 e5 e6 k n k' n' f f' s s' R1 R2 k0' l0' e0' N1 N2 a b hL w
    · rw [hold2_ok hT]
      exact rt2_nn_ok op e1 e2 e3 e4 e5 e6 k n k' n' f f' s s' R1 R2 k0' l0' e0' N1 N2 a b hL w
theorem hold3_no {o : Int} {a b : Bool} (h : LessT o a b false) : holdB 3 o = false := by
  rcases lt_no h with rfl | rfl <;> rfl
theorem hold3_ok {o : Int} {a b : Bool} (h : LessT o a b true) : holdB 3 o = a := by
  obtain ⟨h1, h2, h3⟩ := lt_ok h
  clear h
  subst h1 h2
  rcases h3 with rfl | rfl | rfl <;> rfl
theorem rt3_all (op : ByteArray) (e1 : (op.toList == [61]) = false) (e2 : (op.toList == [60, 62]) = false) (e3 : (op.toList == [60]) = true) (e4 : (op.toList == [60, 61]) = false) (e5 : (op.toList == [62]) = false) (e6 : (op.toList == [62, 61]) = false) (hi : opI op = 3) (k n k' n' : Int) (f f' : Nat) (s s' : ByteArray) (n1 : -9223372036854775808 ≤ n) (n2 : n ≤ 9223372036854775807) (n1' : -9223372036854775808 ≤ n') (n2' : n' ≤ 9223372036854775807) (hf : f < 18446744073709551616) (hf' : f' < 18446744073709551616) (w : World) :
    Calls Tryz.prog 24 #[.string op, .agg #[.int .i64 k, .int .i64 n, .float .f64 f, .string s], .agg #[.int .i64 k', .int .i64 n', .float .f64 f', .string s']] w fun e w' => e = .returned (.tuple #[.agg #[.int .i64 (testR op k n f s k' n' f' s').1, .int .i64 (testR op k n f s k' n' f' s').2.1, .float .f64 0, .string ⟨#[]⟩], .int .i64 (testR op k n f s k' n' f' s').2.2]) ∧ Below w.heap.size w w' := by
  have h0 : ¬ opI op = 0 := by omega
  have R1 := rright_any k n f hf s
  have R2 := rright_any k' n' f' hf' s'
  rcases bool_cases (rightB k n f s) with ha | ha
  · rw [ha] at R1
    refine (rt3_ra op e1 e2 e3 e4 e5 e6 k n k' n' f f' s s' _ R1 R2 w).mono fun e w' h => ret_ve' ?_ h
    simp [testR, ha]
  rw [ha] at R1
  rcases bool_cases (rightB k' n' f' s') with hb | hb
  · rw [hb] at R2
    refine (rt3_rb op e1 e2 e3 e4 e5 e6 k n k' n' f f' s s' R1 R2 w).mono fun e w' h => ret_ve' ?_ h
    simp [testR, hb]
  rw [hb] at R2
  by_cases k0 : k = 0
  · refine (rt3_na op e1 e2 e3 e4 e5 e6 k n k' n' f f' s s' R1 R2 (by simpa using k0) w).mono fun e w' h => ret_ve' ?_ h
    unfold testR
    rw [if_neg (by simp [h0, ha, hb]), if_pos (Or.inl k0)]
  have k0' : (k == 0) = false := by simpa using k0
  by_cases l0 : k' = 0
  · refine (rt3_nb op e1 e2 e3 e4 e5 e6 k n k' n' f f' s s' R1 R2 k0' (by simpa using l0) w).mono fun e w' h => ret_ve' ?_ h
    unfold testR
    rw [if_neg (by simp [h0, ha, hb]), if_pos (Or.inr l0)]
  have l0' : (k' == 0) = false := by simpa using l0
  have N1 := rnum_any k n f s
  have N2 := rnum_any k' n' f' s'
  by_cases e0 : k = k'
  · have e0' : (k != k') = false := by simpa using e0
    obtain ⟨a, b, ok, hT, hL⟩ := rlow_any k n k' n' f f' s s' n1 n2 n1' n2' hf hf' (.inl e0)
    have ht : testR op k n f s k' n' f' s' = (1, b01 (holdB 3 (ordI k n f s k' n' f' s')), 0) := by
      rw [← hi]; unfold testR
      rw [if_neg (by simp [h0, ha, hb]), if_neg (by simp [k0, l0]), if_neg (by simp [e0])]
    rw [ht]
    rcases bool_cases (numB k) with m1 | m1
    · rw [m1] at N1
      cases ok
      · rw [hold3_no hT]
        exact rt3_e0_no op e1 e2 e3 e4 e5 e6 k n k' n' f f' s s' R1 R2 k0' l0' e0' N1 a b hL w
      · rw [hold3_ok hT]
        exact rt3_e0_ok op e1 e2 e3 e4 e5 e6 k n k' n' f f' s s' R1 R2 k0' l0' e0' N1 a b hL w
    · have m2 : numB k' = true := by rw [← e0]; exact m1
      rw [m1] at N1
      rw [m2] at N2
      cases ok
      · rw [hold3_no hT]
        exact rt3_e1_no op e1 e2 e3 e4 e5 e6 k n k' n' f f' s s' R1 R2 k0' l0' e0' N1 N2 a b hL w
      · rw [hold3_ok hT]
        exact rt3_e1_ok op e1 e2 e3 e4 e5 e6 k n k' n' f f' s s' R1 R2 k0' l0' e0' N1 N2 a b hL w
  have e0' : (k != k') = true := by simpa using e0
  rcases bool_cases (numB k) with m1 | m1
  · rw [m1] at N1
    refine (rt3_ta op e1 e2 e3 e4 e5 e6 k n k' n' f f' s s' R1 R2 k0' l0' e0' N1 w).mono fun e w' h => ret_ve' ?_ h
    simp [testR, h0, ha, hb, k0, l0, e0, m1]
  rw [m1] at N1
  rcases bool_cases (numB k') with m2 | m2
  · rw [m2] at N2
    refine (rt3_tb op e1 e2 e3 e4 e5 e6 k n k' n' f f' s s' R1 R2 k0' l0' e0' N1 N2 w).mono fun e w' h => ret_ve' ?_ h
    simp [testR, h0, ha, hb, k0, l0, e0, m2]
  · rw [m2] at N2
    obtain ⟨a, b, ok, hT, hL⟩ := rlow_any k n k' n' f f' s s' n1 n2 n1' n2' hf hf' (.inr (by rw [m1, m2]; rfl))
    have ht : testR op k n f s k' n' f' s' = (1, b01 (holdB 3 (ordI k n f s k' n' f' s')), 0) := by
      rw [← hi]; unfold testR
      rw [if_neg (by simp [h0, ha, hb]), if_neg (by simp [k0, l0]), if_neg (by simp [m1, m2])]
    rw [ht]
    cases ok
    · rw [hold3_no hT]
      exact rt3_nn_no op e1 e2 e3 e4 e5 e6 k n k' n' f f' s s' R1 R2 k0' l0' e0' N1 N2 a b hL w
    · rw [hold3_ok hT]
      exact rt3_nn_ok op e1 e2 e3 e4 e5 e6 k n k' n' f f' s s' R1 R2 k0' l0' e0' N1 N2 a b hL w
theorem hold4_no {o : Int} {a b : Bool} (h : LessT o a b false) : holdB 4 o = false := by
  rcases lt_no h with rfl | rfl <;> rfl
theorem hold4_ok {o : Int} {a b : Bool} (h : LessT o a b true) : holdB 4 o = (a || b) := by
  obtain ⟨h1, h2, h3⟩ := lt_ok h
  clear h
  subst h1 h2
  rcases h3 with rfl | rfl | rfl <;> rfl
theorem rt4_all (op : ByteArray) (e1 : (op.toList == [61]) = false) (e2 : (op.toList == [60, 62]) = false) (e3 : (op.toList == [60]) = false) (e4 : (op.toList == [60, 61]) = true) (e5 : (op.toList == [62]) = false) (e6 : (op.toList == [62, 61]) = false) (hi : opI op = 4) (k n k' n' : Int) (f f' : Nat) (s s' : ByteArray) (n1 : -9223372036854775808 ≤ n) (n2 : n ≤ 9223372036854775807) (n1' : -9223372036854775808 ≤ n') (n2' : n' ≤ 9223372036854775807) (hf : f < 18446744073709551616) (hf' : f' < 18446744073709551616) (w : World) :
    Calls Tryz.prog 24 #[.string op, .agg #[.int .i64 k, .int .i64 n, .float .f64 f, .string s], .agg #[.int .i64 k', .int .i64 n', .float .f64 f', .string s']] w fun e w' => e = .returned (.tuple #[.agg #[.int .i64 (testR op k n f s k' n' f' s').1, .int .i64 (testR op k n f s k' n' f' s').2.1, .float .f64 0, .string ⟨#[]⟩], .int .i64 (testR op k n f s k' n' f' s').2.2]) ∧ Below w.heap.size w w' := by
  have h0 : ¬ opI op = 0 := by omega
  have R1 := rright_any k n f hf s
  have R2 := rright_any k' n' f' hf' s'
  rcases bool_cases (rightB k n f s) with ha | ha
  · rw [ha] at R1
    refine (rt4_ra op e1 e2 e3 e4 e5 e6 k n k' n' f f' s s' _ R1 R2 w).mono fun e w' h => ret_ve' ?_ h
    simp [testR, ha]
  rw [ha] at R1
  rcases bool_cases (rightB k' n' f' s') with hb | hb
  · rw [hb] at R2
    refine (rt4_rb op e1 e2 e3 e4 e5 e6 k n k' n' f f' s s' R1 R2 w).mono fun e w' h => ret_ve' ?_ h
    simp [testR, hb]
  rw [hb] at R2
  by_cases k0 : k = 0
  · refine (rt4_na op e1 e2 e3 e4 e5 e6 k n k' n' f f' s s' R1 R2 (by simpa using k0) w).mono fun e w' h => ret_ve' ?_ h
    unfold testR
    rw [if_neg (by simp [h0, ha, hb]), if_pos (Or.inl k0)]
  have k0' : (k == 0) = false := by simpa using k0
  by_cases l0 : k' = 0
  · refine (rt4_nb op e1 e2 e3 e4 e5 e6 k n k' n' f f' s s' R1 R2 k0' (by simpa using l0) w).mono fun e w' h => ret_ve' ?_ h
    unfold testR
    rw [if_neg (by simp [h0, ha, hb]), if_pos (Or.inr l0)]
  have l0' : (k' == 0) = false := by simpa using l0
  have N1 := rnum_any k n f s
  have N2 := rnum_any k' n' f' s'
  by_cases e0 : k = k'
  · have e0' : (k != k') = false := by simpa using e0
    obtain ⟨a, b, ok, hT, hL⟩ := rlow_any k n k' n' f f' s s' n1 n2 n1' n2' hf hf' (.inl e0)
    have ht : testR op k n f s k' n' f' s' = (1, b01 (holdB 4 (ordI k n f s k' n' f' s')), 0) := by
      rw [← hi]; unfold testR
      rw [if_neg (by simp [h0, ha, hb]), if_neg (by simp [k0, l0]), if_neg (by simp [e0])]
    rw [ht]
    rcases bool_cases (numB k) with m1 | m1
    · rw [m1] at N1
      cases ok
      · rw [hold4_no hT]
        exact rt4_e0_no op e1 e2 e3 e4 e5 e6 k n k' n' f f' s s' R1 R2 k0' l0' e0' N1 a b hL w
      · rw [hold4_ok hT]
        exact rt4_e0_ok op e1 e2 e3 e4 e5 e6 k n k' n' f f' s s' R1 R2 k0' l0' e0' N1 a b hL w
    · have m2 : numB k' = true := by rw [← e0]; exact m1
      rw [m1] at N1
      rw [m2] at N2
      cases ok
      · rw [hold4_no hT]
        exact rt4_e1_no op e1 e2 e3 e4 e5 e6 k n k' n' f f' s s' R1 R2 k0' l0' e0' N1 N2 a b hL w
      · rw [hold4_ok hT]
        exact rt4_e1_ok op e1 e2 e3 e4 e5 e6 k n k' n' f f' s s' R1 R2 k0' l0' e0' N1 N2 a b hL w
  have e0' : (k != k') = true := by simpa using e0
  rcases bool_cases (numB k) with m1 | m1
  · rw [m1] at N1
    refine (rt4_ta op e1 e2 e3 e4 e5 e6 k n k' n' f f' s s' R1 R2 k0' l0' e0' N1 w).mono fun e w' h => ret_ve' ?_ h
    simp [testR, h0, ha, hb, k0, l0, e0, m1]
  rw [m1] at N1
  rcases bool_cases (numB k') with m2 | m2
  · rw [m2] at N2
    refine (rt4_tb op e1 e2 e3 e4 e5 e6 k n k' n' f f' s s' R1 R2 k0' l0' e0' N1 N2 w).mono fun e w' h => ret_ve' ?_ h
    simp [testR, h0, ha, hb, k0, l0, e0, m2]
  · rw [m2] at N2
    obtain ⟨a, b, ok, hT, hL⟩ := rlow_any k n k' n' f f' s s' n1 n2 n1' n2' hf hf' (.inr (by rw [m1, m2]; rfl))
    have ht : testR op k n f s k' n' f' s' = (1, b01 (holdB 4 (ordI k n f s k' n' f' s')), 0) := by
      rw [← hi]; unfold testR
      rw [if_neg (by simp [h0, ha, hb]), if_neg (by simp [k0, l0]), if_neg (by simp [m1, m2])]
    rw [ht]
    cases ok
    · rw [hold4_no hT]
      exact rt4_nn_no op e1 e2 e3 e4 e5 e6 k n k' n' f f' s s' R1 R2 k0' l0' e0' N1 N2 a b hL w
    · rw [hold4_ok hT]
      exact rt4_nn_ok op e1 e2 e3 e4 e5 e6 k n k' n' f f' s s' R1 R2 k0' l0' e0' N1 N2 a b hL w
theorem hold5_no {o : Int} {a b : Bool} (h : LessT o a b false) : holdB 5 o = false := by
  rcases lt_no h with rfl | rfl <;> rfl
theorem hold5_ok {o : Int} {a b : Bool} (h : LessT o a b true) : holdB 5 o = (!a && !b) := by
  obtain ⟨h1, h2, h3⟩ := lt_ok h
  clear h
  subst h1 h2
  rcases h3 with rfl | rfl | rfl <;> rfl
theorem rt5_all (op : ByteArray) (e1 : (op.toList == [61]) = false) (e2 : (op.toList == [60, 62]) = false) (e3 : (op.toList == [60]) = false) (e4 : (op.toList == [60, 61]) = false) (e5 : (op.toList == [62]) = true) (e6 : (op.toList == [62, 61]) = false) (hi : opI op = 5) (k n k' n' : Int) (f f' : Nat) (s s' : ByteArray) (n1 : -9223372036854775808 ≤ n) (n2 : n ≤ 9223372036854775807) (n1' : -9223372036854775808 ≤ n') (n2' : n' ≤ 9223372036854775807) (hf : f < 18446744073709551616) (hf' : f' < 18446744073709551616) (w : World) :
    Calls Tryz.prog 24 #[.string op, .agg #[.int .i64 k, .int .i64 n, .float .f64 f, .string s], .agg #[.int .i64 k', .int .i64 n', .float .f64 f', .string s']] w fun e w' => e = .returned (.tuple #[.agg #[.int .i64 (testR op k n f s k' n' f' s').1, .int .i64 (testR op k n f s k' n' f' s').2.1, .float .f64 0, .string ⟨#[]⟩], .int .i64 (testR op k n f s k' n' f' s').2.2]) ∧ Below w.heap.size w w' := by
  have h0 : ¬ opI op = 0 := by omega
  have R1 := rright_any k n f hf s
  have R2 := rright_any k' n' f' hf' s'
  rcases bool_cases (rightB k n f s) with ha | ha
  · rw [ha] at R1
    refine (rt5_ra op e1 e2 e3 e4 e5 e6 k n k' n' f f' s s' _ R1 R2 w).mono fun e w' h => ret_ve' ?_ h
    simp [testR, ha]
  rw [ha] at R1
  rcases bool_cases (rightB k' n' f' s') with hb | hb
  · rw [hb] at R2
    refine (rt5_rb op e1 e2 e3 e4 e5 e6 k n k' n' f f' s s' R1 R2 w).mono fun e w' h => ret_ve' ?_ h
    simp [testR, hb]
  rw [hb] at R2
  by_cases k0 : k = 0
  · refine (rt5_na op e1 e2 e3 e4 e5 e6 k n k' n' f f' s s' R1 R2 (by simpa using k0) w).mono fun e w' h => ret_ve' ?_ h
    unfold testR
    rw [if_neg (by simp [h0, ha, hb]), if_pos (Or.inl k0)]
  have k0' : (k == 0) = false := by simpa using k0
  by_cases l0 : k' = 0
  · refine (rt5_nb op e1 e2 e3 e4 e5 e6 k n k' n' f f' s s' R1 R2 k0' (by simpa using l0) w).mono fun e w' h => ret_ve' ?_ h
    unfold testR
    rw [if_neg (by simp [h0, ha, hb]), if_pos (Or.inr l0)]
  have l0' : (k' == 0) = false := by simpa using l0
  have N1 := rnum_any k n f s
  have N2 := rnum_any k' n' f' s'
  by_cases e0 : k = k'
  · have e0' : (k != k') = false := by simpa using e0
    obtain ⟨a, b, ok, hT, hL⟩ := rlow_any k n k' n' f f' s s' n1 n2 n1' n2' hf hf' (.inl e0)
    have ht : testR op k n f s k' n' f' s' = (1, b01 (holdB 5 (ordI k n f s k' n' f' s')), 0) := by
      rw [← hi]; unfold testR
      rw [if_neg (by simp [h0, ha, hb]), if_neg (by simp [k0, l0]), if_neg (by simp [e0])]
    rw [ht]
    rcases bool_cases (numB k) with m1 | m1
    · rw [m1] at N1
      cases ok
      · rw [hold5_no hT]
        exact rt5_e0_no op e1 e2 e3 e4 e5 e6 k n k' n' f f' s s' R1 R2 k0' l0' e0' N1 a b hL w
      · rw [hold5_ok hT]
        exact rt5_e0_ok op e1 e2 e3 e4 e5 e6 k n k' n' f f' s s' R1 R2 k0' l0' e0' N1 a b hL w
    · have m2 : numB k' = true := by rw [← e0]; exact m1
      rw [m1] at N1
      rw [m2] at N2
      cases ok
      · rw [hold5_no hT]
        exact rt5_e1_no op e1 e2 e3 e4 e5 e6 k n k' n' f f' s s' R1 R2 k0' l0' e0' N1 N2 a b hL w
      · rw [hold5_ok hT]
        exact rt5_e1_ok op e1 e2 e3 e4 e5 e6 k n k' n' f f' s s' R1 R2 k0' l0' e0' N1 N2 a b hL w
  have e0' : (k != k') = true := by simpa using e0
  rcases bool_cases (numB k) with m1 | m1
  · rw [m1] at N1
    refine (rt5_ta op e1 e2 e3 e4 e5 e6 k n k' n' f f' s s' R1 R2 k0' l0' e0' N1 w).mono fun e w' h => ret_ve' ?_ h
    simp [testR, h0, ha, hb, k0, l0, e0, m1]
  rw [m1] at N1
  rcases bool_cases (numB k') with m2 | m2
  · rw [m2] at N2
    refine (rt5_tb op e1 e2 e3 e4 e5 e6 k n k' n' f f' s s' R1 R2 k0' l0' e0' N1 N2 w).mono fun e w' h => ret_ve' ?_ h
    simp [testR, h0, ha, hb, k0, l0, e0, m2]
  · rw [m2] at N2
    obtain ⟨a, b, ok, hT, hL⟩ := rlow_any k n k' n' f f' s s' n1 n2 n1' n2' hf hf' (.inr (by rw [m1, m2]; rfl))
    have ht : testR op k n f s k' n' f' s' = (1, b01 (holdB 5 (ordI k n f s k' n' f' s')), 0) := by
      rw [← hi]; unfold testR
      rw [if_neg (by simp [h0, ha, hb]), if_neg (by simp [k0, l0]), if_neg (by simp [m1, m2])]
    rw [ht]
    cases ok
    · rw [hold5_no hT]
      exact rt5_nn_no op e1 e2 e3 e4 e5 e6 k n k' n' f f' s s' R1 R2 k0' l0' e0' N1 N2 a b hL w
    · rw [hold5_ok hT]
      exact rt5_nn_ok op e1 e2 e3 e4 e5 e6 k n k' n' f f' s s' R1 R2 k0' l0' e0' N1 N2 a b hL w
theorem hold6_no {o : Int} {a b : Bool} (h : LessT o a b false) : holdB 6 o = false := by
  rcases lt_no h with rfl | rfl <;> rfl
theorem hold6_ok {o : Int} {a b : Bool} (h : LessT o a b true) : holdB 6 o = (!a) := by
  obtain ⟨h1, h2, h3⟩ := lt_ok h
  clear h
  subst h1 h2
  rcases h3 with rfl | rfl | rfl <;> rfl
theorem rt6_all (op : ByteArray) (e1 : (op.toList == [61]) = false) (e2 : (op.toList == [60, 62]) = false) (e3 : (op.toList == [60]) = false) (e4 : (op.toList == [60, 61]) = false) (e5 : (op.toList == [62]) = false) (e6 : (op.toList == [62, 61]) = true) (hi : opI op = 6) (k n k' n' : Int) (f f' : Nat) (s s' : ByteArray) (n1 : -9223372036854775808 ≤ n) (n2 : n ≤ 9223372036854775807) (n1' : -9223372036854775808 ≤ n') (n2' : n' ≤ 9223372036854775807) (hf : f < 18446744073709551616) (hf' : f' < 18446744073709551616) (w : World) :
    Calls Tryz.prog 24 #[.string op, .agg #[.int .i64 k, .int .i64 n, .float .f64 f, .string s], .agg #[.int .i64 k', .int .i64 n', .float .f64 f', .string s']] w fun e w' => e = .returned (.tuple #[.agg #[.int .i64 (testR op k n f s k' n' f' s').1, .int .i64 (testR op k n f s k' n' f' s').2.1, .float .f64 0, .string ⟨#[]⟩], .int .i64 (testR op k n f s k' n' f' s').2.2]) ∧ Below w.heap.size w w' := by
  have h0 : ¬ opI op = 0 := by omega
  have R1 := rright_any k n f hf s
  have R2 := rright_any k' n' f' hf' s'
  rcases bool_cases (rightB k n f s) with ha | ha
  · rw [ha] at R1
    refine (rt6_ra op e1 e2 e3 e4 e5 e6 k n k' n' f f' s s' _ R1 R2 w).mono fun e w' h => ret_ve' ?_ h
    simp [testR, ha]
  rw [ha] at R1
  rcases bool_cases (rightB k' n' f' s') with hb | hb
  · rw [hb] at R2
    refine (rt6_rb op e1 e2 e3 e4 e5 e6 k n k' n' f f' s s' R1 R2 w).mono fun e w' h => ret_ve' ?_ h
    simp [testR, hb]
  rw [hb] at R2
  by_cases k0 : k = 0
  · refine (rt6_na op e1 e2 e3 e4 e5 e6 k n k' n' f f' s s' R1 R2 (by simpa using k0) w).mono fun e w' h => ret_ve' ?_ h
    unfold testR
    rw [if_neg (by simp [h0, ha, hb]), if_pos (Or.inl k0)]
  have k0' : (k == 0) = false := by simpa using k0
  by_cases l0 : k' = 0
  · refine (rt6_nb op e1 e2 e3 e4 e5 e6 k n k' n' f f' s s' R1 R2 k0' (by simpa using l0) w).mono fun e w' h => ret_ve' ?_ h
    unfold testR
    rw [if_neg (by simp [h0, ha, hb]), if_pos (Or.inr l0)]
  have l0' : (k' == 0) = false := by simpa using l0
  have N1 := rnum_any k n f s
  have N2 := rnum_any k' n' f' s'
  by_cases e0 : k = k'
  · have e0' : (k != k') = false := by simpa using e0
    obtain ⟨a, b, ok, hT, hL⟩ := rlow_any k n k' n' f f' s s' n1 n2 n1' n2' hf hf' (.inl e0)
    have ht : testR op k n f s k' n' f' s' = (1, b01 (holdB 6 (ordI k n f s k' n' f' s')), 0) := by
      rw [← hi]; unfold testR
      rw [if_neg (by simp [h0, ha, hb]), if_neg (by simp [k0, l0]), if_neg (by simp [e0])]
    rw [ht]
    rcases bool_cases (numB k) with m1 | m1
    · rw [m1] at N1
      cases ok
      · rw [hold6_no hT]
        exact rt6_e0_no op e1 e2 e3 e4 e5 e6 k n k' n' f f' s s' R1 R2 k0' l0' e0' N1 a b hL w
      · rw [hold6_ok hT]
        exact rt6_e0_ok op e1 e2 e3 e4 e5 e6 k n k' n' f f' s s' R1 R2 k0' l0' e0' N1 a b hL w
    · have m2 : numB k' = true := by rw [← e0]; exact m1
      rw [m1] at N1
      rw [m2] at N2
      cases ok
      · rw [hold6_no hT]
        exact rt6_e1_no op e1 e2 e3 e4 e5 e6 k n k' n' f f' s s' R1 R2 k0' l0' e0' N1 N2 a b hL w
      · rw [hold6_ok hT]
        exact rt6_e1_ok op e1 e2 e3 e4 e5 e6 k n k' n' f f' s s' R1 R2 k0' l0' e0' N1 N2 a b hL w
  have e0' : (k != k') = true := by simpa using e0
  rcases bool_cases (numB k) with m1 | m1
  · rw [m1] at N1
    refine (rt6_ta op e1 e2 e3 e4 e5 e6 k n k' n' f f' s s' R1 R2 k0' l0' e0' N1 w).mono fun e w' h => ret_ve' ?_ h
    simp [testR, h0, ha, hb, k0, l0, e0, m1]
  rw [m1] at N1
  rcases bool_cases (numB k') with m2 | m2
  · rw [m2] at N2
    refine (rt6_tb op e1 e2 e3 e4 e5 e6 k n k' n' f f' s s' R1 R2 k0' l0' e0' N1 N2 w).mono fun e w' h => ret_ve' ?_ h
    simp [testR, h0, ha, hb, k0, l0, e0, m2]
  · rw [m2] at N2
    obtain ⟨a, b, ok, hT, hL⟩ := rlow_any k n k' n' f f' s s' n1 n2 n1' n2' hf hf' (.inr (by rw [m1, m2]; rfl))
    have ht : testR op k n f s k' n' f' s' = (1, b01 (holdB 6 (ordI k n f s k' n' f' s')), 0) := by
      rw [← hi]; unfold testR
      rw [if_neg (by simp [h0, ha, hb]), if_neg (by simp [k0, l0]), if_neg (by simp [m1, m2])]
    rw [ht]
    cases ok
    · rw [hold6_no hT]
      exact rt6_nn_no op e1 e2 e3 e4 e5 e6 k n k' n' f f' s s' R1 R2 k0' l0' e0' N1 N2 a b hL w
    · rw [hold6_ok hT]
      exact rt6_nn_ok op e1 e2 e3 e4 e5 e6 k n k' n' f f' s s' R1 R2 k0' l0' e0' N1 N2 a b hL w
theorem rtest_any (op : ByteArray) (k n k' n' : Int) (f f' : Nat) (s s' : ByteArray) (n1 : -9223372036854775808 ≤ n) (n2 : n ≤ 9223372036854775807) (n1' : -9223372036854775808 ≤ n') (n2' : n' ≤ 9223372036854775807) (hf : f < 18446744073709551616) (hf' : f' < 18446744073709551616) (w : World) :
    Calls Tryz.prog 24 #[.string op, .agg #[.int .i64 k, .int .i64 n, .float .f64 f, .string s], .agg #[.int .i64 k', .int .i64 n', .float .f64 f', .string s']] w fun e w' => e = .returned (.tuple #[.agg #[.int .i64 (testR op k n f s k' n' f' s').1, .int .i64 (testR op k n f s k' n' f' s').2.1, .float .f64 0, .string ⟨#[]⟩], .int .i64 (testR op k n f s k' n' f' s').2.2]) ∧ Below w.heap.size w w' := by
  by_cases q1 : op.toList = [61]
  · exact rt1_all op (by rw [q1]; decide) (by rw [q1]; decide) (by rw [q1]; decide) (by rw [q1]; decide) (by rw [q1]; decide) (by rw [q1]; decide) (by unfold opI; rw [q1]; decide) k n k' n' f f' s s' n1 n2 n1' n2' hf hf' w
  by_cases q2 : op.toList = [60, 62]
  · exact rt2_all op (by rw [q2]; decide) (by rw [q2]; decide) (by rw [q2]; decide) (by rw [q2]; decide) (by rw [q2]; decide) (by rw [q2]; decide) (by unfold opI; rw [q2]; decide) k n k' n' f f' s s' n1 n2 n1' n2' hf hf' w
  by_cases q3 : op.toList = [60]
  · exact rt3_all op (by rw [q3]; decide) (by rw [q3]; decide) (by rw [q3]; decide) (by rw [q3]; decide) (by rw [q3]; decide) (by rw [q3]; decide) (by unfold opI; rw [q3]; decide) k n k' n' f f' s s' n1 n2 n1' n2' hf hf' w
  by_cases q4 : op.toList = [60, 61]
  · exact rt4_all op (by rw [q4]; decide) (by rw [q4]; decide) (by rw [q4]; decide) (by rw [q4]; decide) (by rw [q4]; decide) (by rw [q4]; decide) (by unfold opI; rw [q4]; decide) k n k' n' f f' s s' n1 n2 n1' n2' hf hf' w
  by_cases q5 : op.toList = [62]
  · exact rt5_all op (by rw [q5]; decide) (by rw [q5]; decide) (by rw [q5]; decide) (by rw [q5]; decide) (by rw [q5]; decide) (by rw [q5]; decide) (by unfold opI; rw [q5]; decide) k n k' n' f f' s s' n1 n2 n1' n2' hf hf' w
  by_cases q6 : op.toList = [62, 61]
  · exact rt6_all op (by rw [q6]; decide) (by rw [q6]; decide) (by rw [q6]; decide) (by rw [q6]; decide) (by rw [q6]; decide) (by rw [q6]; decide) (by unfold opI; rw [q6]; decide) k n k' n' f f' s s' n1 n2 n1' n2' hf hf' w
  have h0 : opI op = 0 := by unfold opI; rw [if_neg q1, if_neg q2, if_neg q3, if_neg q4, if_neg q5, if_neg q6]
  refine (rt_unk op (by simpa using q1) (by simpa using q2) (by simpa using q3) (by simpa using q4) (by simpa using q5) (by simpa using q6) k n k' n' f f' s s' _ _ (rright_any k n f hf s) (rright_any k' n' f' hf' s') w).mono fun e w' h => ret_ve' ?_ h
  simp [testR, h0]
end Go.Proofs.YtnjlcdemfdokoaaGreatDoor
