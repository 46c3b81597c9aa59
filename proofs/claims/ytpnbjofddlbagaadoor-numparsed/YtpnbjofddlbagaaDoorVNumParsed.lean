/- The walk of the law NumParsed. -/
import Derived.Test.YtpnbjofddlbagaaDoorWo
import Derived.Test.YtpnbjofddlbagaaDoorWrc
import Derived.Test.YtpnbjofddlbagaaDoorWt
namespace Go.Proofs.YtpnbjofddlbagaaDoor.NumParsed
open Go Go.RowKit
set_option linter.unusedVariables false
set_option maxHeartbeats 2000000 in
theorem coreNaf (m e M1 E1 E2 X : Int) (M B L : Nat) (D I : List UInt8)  (h1 : bits BinOp.and IntKind.i64 m 9007199254740991 = M1) (h2 : bits BinOp.or IntKind.i64 M1 1 = (M : Int)) (h3 : bits BinOp.and IntKind.i64 e 65535 = E1) (h4 : E1.tmod 2401 = E2) (h5 : wrap64 (E2 - 1200) = X)
    (X1 : -1200 ≤ X) (X2 : X ≤ 1200) (hM1 : 0 < M) (M2 : M < 9007199254740992) (hL : L = M.log2) (hL2 : L ≤ 52) (hB : B = L + 1) (hB2 : B ≤ 53) (hD : D.length ≤ 20) (hI : I.length ≤ 21)
    (DG : ∀ w, Calls Tryd.prog 32 #[.int .i64 (M : Int)] w fun e w' => e = .returned (.string ⟨D.toArray⟩) ∧ Below w.heap.size w w')
    (SG : ∀ w, Calls Tryd.prog 33 #[.int .i64 X] w fun e w' => e = .returned (.string ⟨I.toArray⟩) ∧ Below w.heap.size w w')
    (r1 : X < -1074) (PX : ∀ w, Tabs w → Calls Tryd.prog 23 #[.string (ByteArray.mk D.toArray ++ ByteArray.mk #[112] ++ ByteArray.mk I.toArray)] w fun e w' => e = .returned (.tuple #[.float .f64 0, .int .i64 2]) ∧ Below w.heap.size w w') (z0 : (FloatKind.f64.format.order 0 0 == some Ordering.eq) = true)
    (w : World) (hT : Tabs w) :
    Calls Tryd.prog 11 #[.int .i64 m, .int .i64 e, .bool false] w fun e w' => e = .returned (.bool true) ∧ Below w.heap.size w w' := by
  have HL := Lib.hid hL
  have HB := Lib.hid hB
  clear hL hB
  go_enter Tryd.func11, Tryd.ntmps11
  go_wp2_with fail
  refine (shown_any _ hT).mono ?_; rintro e w1 ⟨rfl, hb1⟩
  go_wp2_with fail
  refine (DG _).mono ?_; rintro e w2 ⟨rfl, hb2⟩
  have c2 := Below.chain hb1 hb2
  go_wp2_with fail
  refine (SG _).mono ?_; rintro e w3 ⟨rfl, hb3⟩
  have c3 := Below.chain c2 hb3
  go_wp2
  go_loop [9, 10] (fun t9 t10 => ∃ (k n : Nat), t9 = .int .i64 (k : Int) ∧ t10 = .int .i64 (n : Int) ∧ k ≤ B ∧ n < 9007199254740992 ∧ Hid (n = M / 2 ^ k)) (fun _ t10 => (intOf t10).toNat)
  case atStart => exact ⟨0, M, rfl, rfl, Nat.zero_le _, M2, Lib.hid (by simp)⟩
  case round =>
    obtain ⟨k, n, rfl, rfl, q1, q2, hinv⟩ := hrel
    by_cases hz : n = 0
    · have hk : k = B := by
        have h := hinv.out
        rw [hz] at h
        have h' : M < 2 ^ k := (Nat.div_eq_zero_iff_lt (Nat.pow_pos (by omega))).1 h.symm
        have h2 := (Nat.log2_lt (by omega)).2 h'
        have := HL.out
        have := HB.out
        omega
      subst hz
      subst hk
      clear hinv q2
      skip
      go_wp2_with fail
      refine (PX _ (hT.below c3)).mono ?_; rintro e w4 ⟨rfl, hb4⟩
      have c4 := Below.chain c3 hb4
      go_wp2
      all_goals first
        | (exfalso; omega)
        | (go_ret; exact ⟨rfl, c4⟩)
    · have hk : k < B := by
        have h := hinv.out
        have h' : 2 ^ k ≤ M := by
          apply Nat.le_of_not_lt
          intro hlt
          rw [Nat.div_eq_of_lt hlt] at h
          exact hz h
        have h2 := (Nat.le_log2 (by omega)).2 h'
        have := HL.out
        have := HB.out
        omega
      have hi : n / 2 = M / 2 ^ (k + 1) := by rw [hinv.out, Nat.pow_succ, Nat.div_div_eq_div_mul]
      have HI := Lib.hid hi
      clear hi
      go_wp2
      go_round
      case rel => exact ⟨k + 1, n / 2, by go_num, by go_num, by omega, by omega, HI⟩
      case measure => simp [intOf]; omega
set_option maxHeartbeats 2000000 in
theorem coreNbf (m e M1 E1 E2 X : Int) (M B L : Nat) (D I : List UInt8)  (h1 : bits BinOp.and IntKind.i64 m 9007199254740991 = M1) (h2 : bits BinOp.or IntKind.i64 M1 1 = (M : Int)) (h3 : bits BinOp.and IntKind.i64 e 65535 = E1) (h4 : E1.tmod 2401 = E2) (h5 : wrap64 (E2 - 1200) = X)
    (X1 : -1200 ≤ X) (X2 : X ≤ 1200) (hM1 : 0 < M) (M2 : M < 9007199254740992) (hL : L = M.log2) (hL2 : L ≤ 52) (hB : B = L + 1) (hB2 : B ≤ 53) (hD : D.length ≤ 20) (hI : I.length ≤ 21)
    (DG : ∀ w, Calls Tryd.prog 32 #[.int .i64 (M : Int)] w fun e w' => e = .returned (.string ⟨D.toArray⟩) ∧ Below w.heap.size w w')
    (SG : ∀ w, Calls Tryd.prog 33 #[.int .i64 X] w fun e w' => e = .returned (.string ⟨I.toArray⟩) ∧ Below w.heap.size w w')
    (r1 : -1074 ≤ X) (r2 : 1024 < X + B) (PX : ∀ w, Tabs w → Calls Tryd.prog 23 #[.string (ByteArray.mk D.toArray ++ ByteArray.mk #[112] ++ ByteArray.mk I.toArray)] w fun e w' => e = .returned (.tuple #[.float .f64 0, .int .i64 2]) ∧ Below w.heap.size w w') (z0 : (FloatKind.f64.format.order 0 0 == some Ordering.eq) = true)
    (w : World) (hT : Tabs w) :
    Calls Tryd.prog 11 #[.int .i64 m, .int .i64 e, .bool false] w fun e w' => e = .returned (.bool true) ∧ Below w.heap.size w w' := by
  have HL := Lib.hid hL
  have HB := Lib.hid hB
  clear hL hB
  go_enter Tryd.func11, Tryd.ntmps11
  go_wp2_with fail
  refine (shown_any _ hT).mono ?_; rintro e w1 ⟨rfl, hb1⟩
  go_wp2_with fail
  refine (DG _).mono ?_; rintro e w2 ⟨rfl, hb2⟩
  have c2 := Below.chain hb1 hb2
  go_wp2_with fail
  refine (SG _).mono ?_; rintro e w3 ⟨rfl, hb3⟩
  have c3 := Below.chain c2 hb3
  go_wp2
  go_loop [9, 10] (fun t9 t10 => ∃ (k n : Nat), t9 = .int .i64 (k : Int) ∧ t10 = .int .i64 (n : Int) ∧ k ≤ B ∧ n < 9007199254740992 ∧ Hid (n = M / 2 ^ k)) (fun _ t10 => (intOf t10).toNat)
  case atStart => exact ⟨0, M, rfl, rfl, Nat.zero_le _, M2, Lib.hid (by simp)⟩
  case round =>
    obtain ⟨k, n, rfl, rfl, q1, q2, hinv⟩ := hrel
    by_cases hz : n = 0
    · have hk : k = B := by
        have h := hinv.out
        rw [hz] at h
        have h' : M < 2 ^ k := (Nat.div_eq_zero_iff_lt (Nat.pow_pos (by omega))).1 h.symm
        have h2 := (Nat.log2_lt (by omega)).2 h'
        have := HL.out
        have := HB.out
        omega
      subst hz
      subst hk
      clear hinv q2
      have r3 : decide (X + (k : Int) ≤ 1024) = false := by simp; omega
      go_wp2_with fail
      refine (PX _ (hT.below c3)).mono ?_; rintro e w4 ⟨rfl, hb4⟩
      have c4 := Below.chain c3 hb4
      go_wp2
      all_goals first
        | (exfalso; omega)
        | (go_ret; exact ⟨rfl, c4⟩)
    · have hk : k < B := by
        have h := hinv.out
        have h' : 2 ^ k ≤ M := by
          apply Nat.le_of_not_lt
          intro hlt
          rw [Nat.div_eq_of_lt hlt] at h
          exact hz h
        have h2 := (Nat.le_log2 (by omega)).2 h'
        have := HL.out
        have := HB.out
        omega
      have hi : n / 2 = M / 2 ^ (k + 1) := by rw [hinv.out, Nat.pow_succ, Nat.div_div_eq_div_mul]
      have HI := Lib.hid hi
      clear hi
      go_wp2
      go_round
      case rel => exact ⟨k + 1, n / 2, by go_num, by go_num, by omega, by omega, HI⟩
      case measure => simp [intOf]; omega
set_option maxHeartbeats 2000000 in
theorem coreSf (m e M1 E1 E2 X : Int) (M B L : Nat) (D I : List UInt8) (g : Nat) (tg : List UInt8) (h1 : bits BinOp.and IntKind.i64 m 9007199254740991 = M1) (h2 : bits BinOp.or IntKind.i64 M1 1 = (M : Int)) (h3 : bits BinOp.and IntKind.i64 e 65535 = E1) (h4 : E1.tmod 2401 = E2) (h5 : wrap64 (E2 - 1200) = X)
    (X1 : -1200 ≤ X) (X2 : X ≤ 1200) (hM1 : 0 < M) (M2 : M < 9007199254740992) (hL : L = M.log2) (hL2 : L ≤ 52) (hB : B = L + 1) (hB2 : B ≤ 53) (hD : D.length ≤ 20) (hI : I.length ≤ 21)
    (DG : ∀ w, Calls Tryd.prog 32 #[.int .i64 (M : Int)] w fun e w' => e = .returned (.string ⟨D.toArray⟩) ∧ Below w.heap.size w w')
    (SG : ∀ w, Calls Tryd.prog 33 #[.int .i64 X] w fun e w' => e = .returned (.string ⟨I.toArray⟩) ∧ Below w.heap.size w w')
    (r1 : -1074 ≤ X) (r2 : X + B ≤ 1024) (PX : ∀ w, Tabs w → Calls Tryd.prog 23 #[.string (ByteArray.mk D.toArray ++ ByteArray.mk #[112] ++ ByteArray.mk I.toArray)] w fun e w' => e = .returned (.tuple #[.float .f64 g, .int .i64 0]) ∧ Below w.heap.size w w')
    (TX : ∀ w, Tabs w → Calls Tryd.prog 25 #[.float .f64 g] w fun e w' => e = .returned (.string ⟨tg.toArray⟩) ∧ Below w.heap.size w w')
    (hg : (tg == (ByteArray.mk D.toArray ++ ByteArray.mk #[112] ++ ByteArray.mk I.toArray).toList) = true) (hz : (FloatKind.f64.format.order g 0 == some Ordering.lt) = false)
    (w : World) (hT : Tabs w) :
    Calls Tryd.prog 11 #[.int .i64 m, .int .i64 e, .bool false] w fun e w' => e = .returned (.bool true) ∧ Below w.heap.size w w' := by
  have HL := Lib.hid hL
  have HB := Lib.hid hB
  clear hL hB
  go_enter Tryd.func11, Tryd.ntmps11
  go_wp2_with fail
  refine (shown_any _ hT).mono ?_; rintro e w1 ⟨rfl, hb1⟩
  go_wp2_with fail
  refine (DG _).mono ?_; rintro e w2 ⟨rfl, hb2⟩
  have c2 := Below.chain hb1 hb2
  go_wp2_with fail
  refine (SG _).mono ?_; rintro e w3 ⟨rfl, hb3⟩
  have c3 := Below.chain c2 hb3
  go_wp2
  go_loop [9, 10] (fun t9 t10 => ∃ (k n : Nat), t9 = .int .i64 (k : Int) ∧ t10 = .int .i64 (n : Int) ∧ k ≤ B ∧ n < 9007199254740992 ∧ Hid (n = M / 2 ^ k)) (fun _ t10 => (intOf t10).toNat)
  case atStart => exact ⟨0, M, rfl, rfl, Nat.zero_le _, M2, Lib.hid (by simp)⟩
  case round =>
    obtain ⟨k, n, rfl, rfl, q1, q2, hinv⟩ := hrel
    by_cases hz : n = 0
    · have hk : k = B := by
        have h := hinv.out
        rw [hz] at h
        have h' : M < 2 ^ k := (Nat.div_eq_zero_iff_lt (Nat.pow_pos (by omega))).1 h.symm
        have h2 := (Nat.log2_lt (by omega)).2 h'
        have := HL.out
        have := HB.out
        omega
      subst hz
      subst hk
      clear hinv q2
      skip
      go_wp2_with fail
      refine (PX _ (hT.below c3)).mono ?_; rintro e w4 ⟨rfl, hb4⟩
      have c4 := Below.chain c3 hb4
      go_wp2_with fail
      refine (TX _ (hT.below c4)).mono ?_; rintro e w5 ⟨rfl, hb5⟩
      have c5 := Below.chain c4 hb5
      go_wp2
      go_ret
      exact ⟨rfl, c5⟩
    · have hk : k < B := by
        have h := hinv.out
        have h' : 2 ^ k ≤ M := by
          apply Nat.le_of_not_lt
          intro hlt
          rw [Nat.div_eq_of_lt hlt] at h
          exact hz h
        have h2 := (Nat.le_log2 (by omega)).2 h'
        have := HL.out
        have := HB.out
        omega
      have hi : n / 2 = M / 2 ^ (k + 1) := by rw [hinv.out, Nat.pow_succ, Nat.div_div_eq_div_mul]
      have HI := Lib.hid hi
      clear hi
      go_wp2
      go_round
      case rel => exact ⟨k + 1, n / 2, by go_num, by go_num, by omega, by omega, HI⟩
      case measure => simp [intOf]; omega
set_option maxHeartbeats 2000000 in
theorem coreNat (m e M1 E1 E2 X : Int) (M B L : Nat) (D I : List UInt8)  (h1 : bits BinOp.and IntKind.i64 m 9007199254740991 = M1) (h2 : bits BinOp.or IntKind.i64 M1 1 = (M : Int)) (h3 : bits BinOp.and IntKind.i64 e 65535 = E1) (h4 : E1.tmod 2401 = E2) (h5 : wrap64 (E2 - 1200) = X)
    (X1 : -1200 ≤ X) (X2 : X ≤ 1200) (hM1 : 0 < M) (M2 : M < 9007199254740992) (hL : L = M.log2) (hL2 : L ≤ 52) (hB : B = L + 1) (hB2 : B ≤ 53) (hD : D.length ≤ 20) (hI : I.length ≤ 21)
    (DG : ∀ w, Calls Tryd.prog 32 #[.int .i64 (M : Int)] w fun e w' => e = .returned (.string ⟨D.toArray⟩) ∧ Below w.heap.size w w')
    (SG : ∀ w, Calls Tryd.prog 33 #[.int .i64 X] w fun e w' => e = .returned (.string ⟨I.toArray⟩) ∧ Below w.heap.size w w')
    (r1 : X < -1074) (PX : ∀ w, Tabs w → Calls Tryd.prog 23 #[.string (ByteArray.mk #[45] ++ (ByteArray.mk D.toArray ++ ByteArray.mk #[112] ++ ByteArray.mk I.toArray))] w fun e w' => e = .returned (.tuple #[.float .f64 0, .int .i64 2]) ∧ Below w.heap.size w w') (z0 : (FloatKind.f64.format.order 0 0 == some Ordering.eq) = true)
    (w : World) (hT : Tabs w) :
    Calls Tryd.prog 11 #[.int .i64 m, .int .i64 e, .bool true] w fun e w' => e = .returned (.bool true) ∧ Below w.heap.size w w' := by
  have HL := Lib.hid hL
  have HB := Lib.hid hB
  clear hL hB
  go_enter Tryd.func11, Tryd.ntmps11
  go_wp2_with fail
  refine (shown_any _ hT).mono ?_; rintro e w1 ⟨rfl, hb1⟩
  go_wp2_with fail
  refine (DG _).mono ?_; rintro e w2 ⟨rfl, hb2⟩
  have c2 := Below.chain hb1 hb2
  go_wp2_with fail
  refine (SG _).mono ?_; rintro e w3 ⟨rfl, hb3⟩
  have c3 := Below.chain c2 hb3
  go_wp2
  go_loop [9, 10] (fun t9 t10 => ∃ (k n : Nat), t9 = .int .i64 (k : Int) ∧ t10 = .int .i64 (n : Int) ∧ k ≤ B ∧ n < 9007199254740992 ∧ Hid (n = M / 2 ^ k)) (fun _ t10 => (intOf t10).toNat)
  case atStart => exact ⟨0, M, rfl, rfl, Nat.zero_le _, M2, Lib.hid (by simp)⟩
  case round =>
    obtain ⟨k, n, rfl, rfl, q1, q2, hinv⟩ := hrel
    by_cases hz : n = 0
    · have hk : k = B := by
        have h := hinv.out
        rw [hz] at h
        have h' : M < 2 ^ k := (Nat.div_eq_zero_iff_lt (Nat.pow_pos (by omega))).1 h.symm
        have h2 := (Nat.log2_lt (by omega)).2 h'
        have := HL.out
        have := HB.out
        omega
      subst hz
      subst hk
      clear hinv q2
      skip
      go_wp2_with fail
      refine (PX _ (hT.below c3)).mono ?_; rintro e w4 ⟨rfl, hb4⟩
      have c4 := Below.chain c3 hb4
      go_wp2
      all_goals first
        | (exfalso; omega)
        | (go_ret; exact ⟨rfl, c4⟩)
    · have hk : k < B := by
        have h := hinv.out
        have h' : 2 ^ k ≤ M := by
          apply Nat.le_of_not_lt
          intro hlt
          rw [Nat.div_eq_of_lt hlt] at h
          exact hz h
        have h2 := (Nat.le_log2 (by omega)).2 h'
        have := HL.out
        have := HB.out
        omega
      have hi : n / 2 = M / 2 ^ (k + 1) := by rw [hinv.out, Nat.pow_succ, Nat.div_div_eq_div_mul]
      have HI := Lib.hid hi
      clear hi
      go_wp2
      go_round
      case rel => exact ⟨k + 1, n / 2, by go_num, by go_num, by omega, by omega, HI⟩
      case measure => simp [intOf]; omega
set_option maxHeartbeats 2000000 in
theorem coreNbt (m e M1 E1 E2 X : Int) (M B L : Nat) (D I : List UInt8)  (h1 : bits BinOp.and IntKind.i64 m 9007199254740991 = M1) (h2 : bits BinOp.or IntKind.i64 M1 1 = (M : Int)) (h3 : bits BinOp.and IntKind.i64 e 65535 = E1) (h4 : E1.tmod 2401 = E2) (h5 : wrap64 (E2 - 1200) = X)
    (X1 : -1200 ≤ X) (X2 : X ≤ 1200) (hM1 : 0 < M) (M2 : M < 9007199254740992) (hL : L = M.log2) (hL2 : L ≤ 52) (hB : B = L + 1) (hB2 : B ≤ 53) (hD : D.length ≤ 20) (hI : I.length ≤ 21)
    (DG : ∀ w, Calls Tryd.prog 32 #[.int .i64 (M : Int)] w fun e w' => e = .returned (.string ⟨D.toArray⟩) ∧ Below w.heap.size w w')
    (SG : ∀ w, Calls Tryd.prog 33 #[.int .i64 X] w fun e w' => e = .returned (.string ⟨I.toArray⟩) ∧ Below w.heap.size w w')
    (r1 : -1074 ≤ X) (r2 : 1024 < X + B) (PX : ∀ w, Tabs w → Calls Tryd.prog 23 #[.string (ByteArray.mk #[45] ++ (ByteArray.mk D.toArray ++ ByteArray.mk #[112] ++ ByteArray.mk I.toArray))] w fun e w' => e = .returned (.tuple #[.float .f64 0, .int .i64 2]) ∧ Below w.heap.size w w') (z0 : (FloatKind.f64.format.order 0 0 == some Ordering.eq) = true)
    (w : World) (hT : Tabs w) :
    Calls Tryd.prog 11 #[.int .i64 m, .int .i64 e, .bool true] w fun e w' => e = .returned (.bool true) ∧ Below w.heap.size w w' := by
  have HL := Lib.hid hL
  have HB := Lib.hid hB
  clear hL hB
  go_enter Tryd.func11, Tryd.ntmps11
  go_wp2_with fail
  refine (shown_any _ hT).mono ?_; rintro e w1 ⟨rfl, hb1⟩
  go_wp2_with fail
  refine (DG _).mono ?_; rintro e w2 ⟨rfl, hb2⟩
  have c2 := Below.chain hb1 hb2
  go_wp2_with fail
  refine (SG _).mono ?_; rintro e w3 ⟨rfl, hb3⟩
  have c3 := Below.chain c2 hb3
  go_wp2
  go_loop [9, 10] (fun t9 t10 => ∃ (k n : Nat), t9 = .int .i64 (k : Int) ∧ t10 = .int .i64 (n : Int) ∧ k ≤ B ∧ n < 9007199254740992 ∧ Hid (n = M / 2 ^ k)) (fun _ t10 => (intOf t10).toNat)
  case atStart => exact ⟨0, M, rfl, rfl, Nat.zero_le _, M2, Lib.hid (by simp)⟩
  case round =>
    obtain ⟨k, n, rfl, rfl, q1, q2, hinv⟩ := hrel
    by_cases hz : n = 0
    · have hk : k = B := by
        have h := hinv.out
        rw [hz] at h
        have h' : M < 2 ^ k := (Nat.div_eq_zero_iff_lt (Nat.pow_pos (by omega))).1 h.symm
        have h2 := (Nat.log2_lt (by omega)).2 h'
        have := HL.out
        have := HB.out
        omega
      subst hz
      subst hk
      clear hinv q2
      have r3 : decide (X + (k : Int) ≤ 1024) = false := by simp; omega
      go_wp2_with fail
      refine (PX _ (hT.below c3)).mono ?_; rintro e w4 ⟨rfl, hb4⟩
      have c4 := Below.chain c3 hb4
      go_wp2
      all_goals first
        | (exfalso; omega)
        | (go_ret; exact ⟨rfl, c4⟩)
    · have hk : k < B := by
        have h := hinv.out
        have h' : 2 ^ k ≤ M := by
          apply Nat.le_of_not_lt
          intro hlt
          rw [Nat.div_eq_of_lt hlt] at h
          exact hz h
        have h2 := (Nat.le_log2 (by omega)).2 h'
        have := HL.out
        have := HB.out
        omega
      have hi : n / 2 = M / 2 ^ (k + 1) := by rw [hinv.out, Nat.pow_succ, Nat.div_div_eq_div_mul]
      have HI := Lib.hid hi
      clear hi
      go_wp2
      go_round
      case rel => exact ⟨k + 1, n / 2, by go_num, by go_num, by omega, by omega, HI⟩
      case measure => simp [intOf]; omega
set_option maxHeartbeats 2000000 in
theorem coreSt (m e M1 E1 E2 X : Int) (M B L : Nat) (D I : List UInt8) (g : Nat) (tg : List UInt8) (h1 : bits BinOp.and IntKind.i64 m 9007199254740991 = M1) (h2 : bits BinOp.or IntKind.i64 M1 1 = (M : Int)) (h3 : bits BinOp.and IntKind.i64 e 65535 = E1) (h4 : E1.tmod 2401 = E2) (h5 : wrap64 (E2 - 1200) = X)
    (X1 : -1200 ≤ X) (X2 : X ≤ 1200) (hM1 : 0 < M) (M2 : M < 9007199254740992) (hL : L = M.log2) (hL2 : L ≤ 52) (hB : B = L + 1) (hB2 : B ≤ 53) (hD : D.length ≤ 20) (hI : I.length ≤ 21)
    (DG : ∀ w, Calls Tryd.prog 32 #[.int .i64 (M : Int)] w fun e w' => e = .returned (.string ⟨D.toArray⟩) ∧ Below w.heap.size w w')
    (SG : ∀ w, Calls Tryd.prog 33 #[.int .i64 X] w fun e w' => e = .returned (.string ⟨I.toArray⟩) ∧ Below w.heap.size w w')
    (r1 : -1074 ≤ X) (r2 : X + B ≤ 1024) (PX : ∀ w, Tabs w → Calls Tryd.prog 23 #[.string (ByteArray.mk #[45] ++ (ByteArray.mk D.toArray ++ ByteArray.mk #[112] ++ ByteArray.mk I.toArray))] w fun e w' => e = .returned (.tuple #[.float .f64 g, .int .i64 0]) ∧ Below w.heap.size w w')
    (TX : ∀ w, Tabs w → Calls Tryd.prog 25 #[.float .f64 g] w fun e w' => e = .returned (.string ⟨tg.toArray⟩) ∧ Below w.heap.size w w')
    (hg : (tg == (ByteArray.mk #[45] ++ (ByteArray.mk D.toArray ++ ByteArray.mk #[112] ++ ByteArray.mk I.toArray)).toList) = true) (hz : (FloatKind.f64.format.order g 0 == some Ordering.lt) = true)
    (w : World) (hT : Tabs w) :
    Calls Tryd.prog 11 #[.int .i64 m, .int .i64 e, .bool true] w fun e w' => e = .returned (.bool true) ∧ Below w.heap.size w w' := by
  have HL := Lib.hid hL
  have HB := Lib.hid hB
  clear hL hB
  go_enter Tryd.func11, Tryd.ntmps11
  go_wp2_with fail
  refine (shown_any _ hT).mono ?_; rintro e w1 ⟨rfl, hb1⟩
  go_wp2_with fail
  refine (DG _).mono ?_; rintro e w2 ⟨rfl, hb2⟩
  have c2 := Below.chain hb1 hb2
  go_wp2_with fail
  refine (SG _).mono ?_; rintro e w3 ⟨rfl, hb3⟩
  have c3 := Below.chain c2 hb3
  go_wp2
  go_loop [9, 10] (fun t9 t10 => ∃ (k n : Nat), t9 = .int .i64 (k : Int) ∧ t10 = .int .i64 (n : Int) ∧ k ≤ B ∧ n < 9007199254740992 ∧ Hid (n = M / 2 ^ k)) (fun _ t10 => (intOf t10).toNat)
  case atStart => exact ⟨0, M, rfl, rfl, Nat.zero_le _, M2, Lib.hid (by simp)⟩
  case round =>
    obtain ⟨k, n, rfl, rfl, q1, q2, hinv⟩ := hrel
    by_cases hz : n = 0
    · have hk : k = B := by
        have h := hinv.out
        rw [hz] at h
        have h' : M < 2 ^ k := (Nat.div_eq_zero_iff_lt (Nat.pow_pos (by omega))).1 h.symm
        have h2 := (Nat.log2_lt (by omega)).2 h'
        have := HL.out
        have := HB.out
        omega
      subst hz
      subst hk
      clear hinv q2
      skip
      go_wp2_with fail
      refine (PX _ (hT.below c3)).mono ?_; rintro e w4 ⟨rfl, hb4⟩
      have c4 := Below.chain c3 hb4
      go_wp2_with fail
      refine (TX _ (hT.below c4)).mono ?_; rintro e w5 ⟨rfl, hb5⟩
      have c5 := Below.chain c4 hb5
      go_wp2
      go_ret
      exact ⟨rfl, c5⟩
    · have hk : k < B := by
        have h := hinv.out
        have h' : 2 ^ k ≤ M := by
          apply Nat.le_of_not_lt
          intro hlt
          rw [Nat.div_eq_of_lt hlt] at h
          exact hz h
        have h2 := (Nat.le_log2 (by omega)).2 h'
        have := HL.out
        have := HB.out
        omega
      have hi : n / 2 = M / 2 ^ (k + 1) := by rw [hinv.out, Nat.pow_succ, Nat.div_div_eq_div_mul]
      have HI := Lib.hid hi
      clear hi
      go_wp2
      go_round
      case rel => exact ⟨k + 1, n / 2, by go_num, by go_num, by omega, by omega, HI⟩
      case measure => simp [intOf]; omega
theorem and_mask (n : Int) (k : Nat) (hk : k ≤ 62) (h : (BitVec.ofInt 64 ((2 ^ k - 1 : Nat) : Int)).toNat = 2 ^ k - 1) : bits .and .i64 n ((2 ^ k - 1 : Nat) : Int) = (((n % 18446744073709551616).toNat % 2 ^ k : Nat) : Int) := by
  have key : (BitVec.ofInt 64 n &&& BitVec.ofInt 64 ((2 ^ k - 1 : Nat) : Int)).toNat = (n % ((2 ^ 64 : Nat) : Int)).toNat % 2 ^ k := by
    rw [BitVec.toNat_and, BitVec.toNat_ofInt, h, Nat.and_two_pow_sub_one_eq_mod]
  show IntKind.i64.wrap ((BitVec.ofInt 64 n &&& BitVec.ofInt 64 ((2 ^ k - 1 : Nat) : Int)).toNat : Nat) = _
  rw [key, IntKind.wrap_i64, show ((2 ^ 64 : Nat) : Int) = 18446744073709551616 from by decide]
  have h2 : (n % 18446744073709551616).toNat % 2 ^ k < 2 ^ k := Nat.mod_lt _ (Nat.pow_pos (by omega))
  have h3 : 2 ^ k ≤ 2 ^ 62 := Nat.pow_le_pow_right (by omega) hk
  have h4 : (2 : Nat) ^ 62 = 4611686018427387904 := by decide
  omega
theorem or_one (n : Nat) (hn : n < 9007199254740992) : bits .or .i64 (n : Int) 1 = ((n ||| 1 : Nat) : Int) ∧ n ||| 1 < 9007199254740992 ∧ (n ||| 1) % 2 = 1 := by
  have hl : n ||| 1 < 2 ^ 53 := Nat.or_lt_two_pow (by simpa using hn) (by decide)
  have h2 : (2 : Nat) ^ 53 = 9007199254740992 := by decide
  refine ⟨?_, by omega, ?_⟩
  · have key : (BitVec.ofInt 64 (n : Int) ||| BitVec.ofInt 64 ((1 : Nat) : Int)).toNat = n ||| 1 := by
      rw [BitVec.toNat_or, ofInt_u64 n (by omega), ofInt_u64 1 (by omega)]
    show IntKind.i64.wrap ((BitVec.ofInt 64 (n : Int) ||| BitVec.ofInt 64 ((1 : Nat) : Int)).toNat : Nat) = _
    rw [key, IntKind.wrap_i64]
    omega
  · have h := Nat.or_mod_two_pow (a := n) (b := 1) (n := 1)
    rw [Nat.pow_one] at h
    rw [h]
    rcases (by omega : n % 2 = 0 ∨ n % 2 = 1) with e | e <;> rw [e] <;> rfl
theorem lt_zero (s : Bool) {r : Nat} (h0 : 0 < r) (hr : r < 9218868437227405312) : (FloatKind.f64.format.order (withSign s r) 0 == some Ordering.lt) = s := by
  obtain ⟨_, t2, _, t4, t5⟩ := text_shape s hr
  have hn : Flt.isNan (withSign s r) = false := by unfold Flt.isNan; rw [t5]; simp; omega
  show (Ieee.double.order (withSign s r) 0 == some Ordering.lt) = s
  rw [Flt.order_eq t4 (by decide) hn (by decide)]
  have hk : Flt.key (withSign s r) = if s = true then -(r : Int) else (r : Int) := by rw [Flt.key_eq, t2, t5]
  rw [hk, show Flt.key 0 = 0 from by decide]
  cases s
  · have h1 : ¬ ((r : Int) < 0) := by omega
    have h2 : ¬ ((r : Int) = 0) := by omega
    rw [show (if false = true then -(r : Int) else (r : Int)) = r from rfl, if_neg h1, if_neg h2]
    rfl
  · have h1 : (-(r : Int) < 0) := by omega
    rw [show (if true = true then -(r : Int) else (r : Int)) = -(r : Int) from rfl, if_pos h1]
    rfl
theorem joined (D I : List UInt8) : (ByteArray.mk D.toArray ++ ByteArray.mk #[112] ++ ByteArray.mk I.toArray) = ByteArray.mk (D ++ (112 :: I)).toArray := by
  have h : ByteArray.mk #[112] = ByteArray.mk [112].toArray := rfl
  rw [h, ByteArray.mk_append_mk, ByteArray.mk_append_mk]
  simp
theorem joined' (L : List UInt8) : (ByteArray.mk #[45] ++ ByteArray.mk L.toArray) = ByteArray.mk (45 :: L).toArray := by
  have h : ByteArray.mk #[45] = ByteArray.mk [45].toArray := rfl
  rw [h, ByteArray.mk_append_mk]
  rfl
theorem walk (m e : Int) (b : Bool) (_ : -9223372036854775808 ≤ m) (_ : m ≤ 9223372036854775807) (_ : -9223372036854775808 ≤ e) (_ : e ≤ 9223372036854775807) (w : World) (hT : Tabs w) :
    Calls Tryd.prog 11 #[.int .i64 m, .int .i64 e, .bool b] w fun e w' => e = .returned (.bool true) ∧ Below w.heap.size w w' := by
  obtain ⟨N, hN⟩ : ∃ N, N = (m % 18446744073709551616).toNat % 2 ^ 53 := ⟨_, rfl⟩
  have h1 := and_mask m 53 (by omega) (by decide)
  rw [← hN] at h1
  have hNl : N < 9007199254740992 := by rw [hN]; exact Nat.lt_of_lt_of_le (Nat.mod_lt _ (by decide)) (by decide)
  obtain ⟨h2, M2, ho⟩ := or_one N hNl
  obtain ⟨E, hE⟩ : ∃ E, E = (e % 18446744073709551616).toNat % 2 ^ 16 := ⟨_, rfl⟩
  have h3 := and_mask e 16 (by omega) (by decide)
  rw [← hE] at h3
  generalize (N ||| 1) = M at *
  have hEl : E < 65536 := by rw [hE]; exact Nat.mod_lt _ (by decide)
  have h4 : ((E : Nat) : Int).tmod 2401 = ((E % 2401 : Nat) : Int) := by rw [Int.tmod_eq_emod_of_nonneg (by omega)]; omega
  obtain ⟨X, hX⟩ : ∃ X : Int, X = ((E % 2401 : Nat) : Int) - 1200 := ⟨_, rfl⟩
  have h5 : wrap64 (((E % 2401 : Nat) : Int) - 1200) = X := by rw [hX]; unfold wrap64; omega
  have X1 : -1200 ≤ X := by omega
  have X2 : X ≤ 1200 := by omega
  have hL2 := Flt.log2_le52 (m := M) (by omega) M2
  have hD := Flt.dec_len (m := M) (by omega)
  have hI := Flt.itoa_len (x := X) (by omega) (by omega)
  have z0 : (FloatKind.f64.format.order 0 0 == some Ordering.eq) = true := by decide +kernel
  have DG := digits_any M (by omega)
  have SG := signed_any X (by omega) (by omega)
  have PX : ∀ s, ∀ w, Tabs w → Calls Tryd.prog 23 #[.string ⟨(shape s M X).toArray⟩] w fun e w' => e = .returned (psTuple (parseSem (shape s M X))) ∧ Below w.heap.size w w' := by
    intro s w hT
    refine parse_any ⟨(shape s M X).toArray⟩ ?_ w hT
    show (shape s M X).toArray.size ≤ _
    have hl : (shape s M X).length ≤ 50 := by
      unfold shape
      simp only [List.length_append, List.length_cons]
      cases s <;> simp <;> omega
    simp
    omega
  have sf : shape false M X = Lib.decDigits M ++ (112 :: Lib.itoa X) := rfl
  have st : shape true M X = 45 :: (Lib.decDigits M ++ (112 :: Lib.itoa X)) := rfl
  have P := PX b
  by_cases hr : Room M X
  · obtain ⟨t1, t2⟩ := room_some b ho M2 hr
    rw [t2] at P
    have hE : (X + 1074).toNat + M.log2 ≤ 2097 := by unfold Room at hr; omega
    have hR := Flt.rungOf_lt (by omega) M2 hE
    have hP := Flt.rungOf_pos (X + 1074).toNat (by omega) M2
    obtain ⟨_, _, _, t4, _⟩ := text_shape b hR
    have hz := lt_zero b hP hR
    have TX := fun w hT => text_any _ t4 w hT
    rw [t1] at TX
    have r1 := hr.1
    have r2 := hr.2
    clear hr t1 t2
    generalize withSign b (Flt.rungOf M (X + 1074).toNat) = g at *
    cases b
    · rw [sf, ← joined] at P
      exact coreSf m e _ _ _ X M _ _ _ _ g _ h1 h2 h3 h4 h5 X1 X2 (by omega) M2 rfl hL2 rfl (by omega) hD hI DG SG r1 (by omega) P TX (by rw [joined, sf, Lib.toList_data]; simp) hz w hT
    · rw [st, ← joined', ← joined] at P
      exact coreSt m e _ _ _ X M _ _ _ _ g _ h1 h2 h3 h4 h5 X1 X2 (by omega) M2 rfl hL2 rfl (by omega) hD hI DG SG r1 (by omega) P TX (by rw [joined, joined', st, Lib.toList_data]; simp) hz w hT
  · rw [room_none b ho M2 (by omega) (by omega) hr] at P
    by_cases r1 : X < -1074
    · cases b
      · rw [sf, ← joined] at P
        exact coreNaf m e _ _ _ X M _ _ _ _ h1 h2 h3 h4 h5 X1 X2 (by omega) M2 rfl hL2 rfl (by omega) hD hI DG SG r1 P z0 w hT
      · rw [st, ← joined', ← joined] at P
        exact coreNat m e _ _ _ X M _ _ _ _ h1 h2 h3 h4 h5 X1 X2 (by omega) M2 rfl hL2 rfl (by omega) hD hI DG SG r1 P z0 w hT
    · have r2 : 1024 < X + ((M.log2 + 1 : Nat) : Int) := by unfold Room at hr; omega
      cases b
      · rw [sf, ← joined] at P
        exact coreNbf m e _ _ _ X M _ _ _ _ h1 h2 h3 h4 h5 X1 X2 (by omega) M2 rfl hL2 rfl (by omega) hD hI DG SG (by omega) r2 P z0 w hT
      · rw [st, ← joined', ← joined] at P
        exact coreNbt m e _ _ _ X M _ _ _ _ h1 h2 h3 h4 h5 X1 X2 (by omega) M2 rfl hL2 rfl (by omega) hD hI DG SG (by omega) r2 P z0 w hT
end Go.Proofs.YtpnbjofddlbagaaDoor.NumParsed
