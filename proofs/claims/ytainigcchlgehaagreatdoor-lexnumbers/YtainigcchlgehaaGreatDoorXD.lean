import Derived.Test.YtainigcchlgehaaGreatDoorXC
namespace Go.Proofs.YtainigcchlgehaaGreatDoor
open Go Go.ChangeShapes Go.WideShapes Go.ChangeAt Go.RowKit
open Go.Joins
set_option linter.unusedVariables false
theorem vrd_shape (q : Option (Nat × Int × Int × Nat × Bt)) : ∃ k n f t b, vrdTuple q = .tuple #[.agg #[.int .i64 k, .int .i64 n, .float .f64 f, .string t], .int .i64 (szR q : Nat), .bool b] := by
  rcases q with _ | ⟨m, k, n, f, t⟩
  · exact ⟨_, _, _, _, _, rfl⟩
  · exact ⟨_, _, _, _, _, rfl⟩
theorem vrd_le (l : Bt) : szR (vrdSem l) ≤ l.length := by
  cases h : vrdSem l with
  | none => simp [szR]
  | some p => obtain ⟨n, q⟩ := p; exact (vrd_more l [] n q h).2.1
set_option maxHeartbeats 1000000 in
set_option maxRecDepth 100000 in
theorem lxnumber_core (s A B : ByteArray) (m : Nat) (hm : min (s.size : Int) 22 = (m : Int)) (ml : m ≤ s.size) (hA : s.extract 0 m = A) (hB : ⟨#[45]⟩ ++ A = B) (la : A.size ≤ 100) (lb : B.size ≤ 1000) (k1 m1 k2 m2 : Int) (f1 f2 : Nat) (t1 t2 : ByteArray) (x1 x2 : Bool) (n1 n2 : Nat) (l1 : n1 ≤ 100) (l2 : n2 ≤ 100)
    (RA : ∀ w, Tabs w → Calls Tryz.prog 31 #[.string A] w fun e w' => e = .returned (.tuple #[.agg #[.int .i64 k1, .int .i64 m1, .float .f64 f1, .string t1], .int .i64 (n1 : Int), .bool x1]) ∧ Below w.heap.size w w')
    (RB : ∀ w, Tabs w → Calls Tryz.prog 31 #[.string B] w fun e w' => e = .returned (.tuple #[.agg #[.int .i64 k2, .int .i64 m2, .float .f64 f2, .string t2], .int .i64 (n2 : Int), .bool x2]) ∧ Below w.heap.size w w')
    (w : World) (hT : Tabs w) : Calls Tryz.prog 28 #[.string s] w fun e w' => e = .returned (.int .i64 (max (n1 : Int) ((n2 : Int) - 1))) ∧ Below w.heap.size w w' := by
  have hsf := run_store_float
  have c0 := Below.refl w.heap.size w
  have m22 : (m : Int) ≤ 22 := by omega
  go_enter Tryz.func28, Tryz.ntmps28
  go_wp2_with fail
  refine (RA _ (hT.below c0)).mono ?_; rintro e w1 ⟨rfl, hb1⟩
  have c1 := Below.chain c0 hb1
  have c2 := Below.chain c1 (below_a1 w1 (.cells #[.int .i64 k1, .int .i64 m1, .float .f64 f1, .string t1] 41))
  go_wp2_with fail
  refine (RB _ (hT.below c2)).mono ?_; rintro e w3 ⟨rfl, hb3⟩
  have c3 := Below.chain c2 hb3
  have c4 := Below.chain c3 (below_a1 w3 (.cells #[.int .i64 k2, .int .i64 m2, .float .f64 f2, .string t2] 41))
  go_wp2_with fail
  go_ret
  exact ⟨rfl, c4⟩
theorem lxnumber_any (s : ByteArray) (hp : 0 < s.size) (hd : digitB s[0].toNat = true) (w : World) (hT : Tabs w) : Calls Tryz.prog 28 #[.string s] w fun e w' => e = .returned (.int .i64 (numN s.data.toList : Nat)) ∧ Below w.heap.size w w' := by
  obtain ⟨m, hm⟩ : ∃ m, m = min s.size 22 := ⟨_, rfl⟩
  have eA : (s.extract 0 m).data.toList = s.data.toList.take 22 := by
    rw [lx_ext, hm]
    simp only [List.drop_zero, Nat.sub_zero]
    rw [List.take_eq_take_iff, lx_len]; omega
  have sA : (s.extract 0 m).size ≤ 22 := by rw [ByteArray.size_extract]; omega
  have eB : ((⟨#[45]⟩ : ByteArray) ++ s.extract 0 m).data.toList = 45 :: s.data.toList.take 22 := by
    rw [← eA, ByteArray.data_append, Array.toList_append]; rfl
  have sB : ((⟨#[45]⟩ : ByteArray) ++ s.extract 0 m).size ≤ 23 := by
    rw [ByteArray.size_append]
    have : (ByteArray.mk #[45]).size = 1 := rfl
    omega
  have RA := fun w hT => vread_any (s.extract 0 m) (by omega) w hT
  have RB := fun w hT => vread_any ((⟨#[45]⟩ : ByteArray) ++ s.extract 0 m) (by omega) w hT
  rw [eA] at RA
  rw [eB] at RB
  obtain ⟨k1, m1, f1, t1, x1, e1⟩ := vrd_shape (vrdSem (s.data.toList.take 22))
  obtain ⟨k2, m2, f2, t2, x2, e2⟩ := vrd_shape (vrdSem (45 :: s.data.toList.take 22))
  rw [e1] at RA
  rw [e2] at RB
  have g1 := vrd_le (s.data.toList.take 22)
  have g2 := vrd_le (45 :: s.data.toList.take 22)
  simp only [List.length_cons, List.length_take] at g1 g2
  have hl := lx_drop s 0 hp
  simp only [List.drop_zero] at hl
  refine (lxnumber_core s _ _ m (by omega) (by omega) rfl rfl (by omega) (by omega) k1 m1 k2 m2 f1 f2 t1 t2 x1 x2 _ _ (by omega) (by omega) RA RB w hT).mono fun e w' ⟨he, hw⟩ => ⟨?_, hw⟩
  rw [he]
  have := num_cut (c := s[0]) (t := s.data.toList.drop (0 + 1)) hd
  rw [← hl] at this
  rw [← this]
  unfold numN
  congr 2
  omega
end Go.Proofs.YtainigcchlgehaaGreatDoor
