/- The walk of the law ValueRead. -/
import Derived.Test.YtnjlcdemfdokoaaGreatDoorVs
import Derived.Test.YtnjlcdemfdokoaaGreatDoorVy
namespace Go.Proofs.YtnjlcdemfdokoaaGreatDoor.ValueRead
open Go Go.RowKit
set_option linter.unusedVariables false
set_option maxRecDepth 100000 in
theorem no (s M A B C : ByteArray) (m m2 : Nat) (hm : min (s.size : Int) 100 = (m : Int)) (ml : m ≤ s.size) (hA : s.extract 0 m = A) (RA : ∀ w, Tabs w → Calls Tryz.prog 29 #[.string A] w fun e w' => e = .returned (.tuple #[.agg #[.int .i64 0, .int .i64 0, .float .f64 0, .string ⟨#[]⟩], .int .i64 0, .bool false]) ∧ Below w.heap.size w w') (w : World) (hT : Tabs w) : Calls Tryz.prog 13 #[.string s, .string M] w fun e w' => e = .returned (.bool true) ∧ Below w.heap.size w w' := by
  have hsf := run_store_float
  have c0 := Below.refl w.heap.size w
  go_enter Tryz.func13, Tryz.ntmps13
  go_wp2_with fail
  refine (shown_any _ hT).mono ?_; rintro e w1 ⟨rfl, hb1⟩
  have c1 := Below.chain c0 hb1
  go_wp2_with fail
  refine (RA _ (hT.below c1)).mono ?_; rintro e w2 ⟨rfl, hb2⟩
  have c2 := Below.chain c1 hb2
  have c3 := Below.chain c2 (below_a1 w2 (.cells #[.int .i64 0, .int .i64 0, .float .f64 0, .string ⟨#[]⟩] 28))
  have Lx_3 := lies_new w2 (.int .i64 0) (.int .i64 0) (.float .f64 0) (.string ⟨#[]⟩) 28
  have ⟨_, _, _, _⟩ := Lx_3
  go_wp2_with fail
  go_ret
  exact ⟨rfl, c3⟩
set_option maxRecDepth 100000 in
set_option maxHeartbeats 1000000 in
theorem yes (s M A B C : ByteArray) (m m2 : Nat) (hm : min (s.size : Int) 100 = (m : Int)) (ml : m ≤ s.size) (hA : s.extract 0 m = A) (hm2 : min (M.size : Int) 50 = (m2 : Int)) (ml2 : m2 ≤ M.size) (hB : A ++ ⟨#[32]⟩ ++ M.extract 0 m2 = B) (la : A.size ≤ 100) (lb : B.size ≤ 1000) (vk vn : Int) (vf n : Nat) (vt : ByteArray) (hn : n ≤ A.size) (hC : A.extract 0 n = C) (RA : ∀ w, Tabs w → Calls Tryz.prog 29 #[.string A] w fun e w' => e = .returned (.tuple #[.agg #[.int .i64 vk, .int .i64 vn, .float .f64 vf, .string vt], .int .i64 (n : Int), .bool true]) ∧ Below w.heap.size w w') (RB : ∀ w, Tabs w → Calls Tryz.prog 29 #[.string B] w fun e w' => e = .returned (.tuple #[.agg #[.int .i64 vk, .int .i64 vn, .float .f64 vf, .string vt], .int .i64 (n : Int), .bool true]) ∧ Below w.heap.size w w') (RC : ∀ w, Tabs w → Calls Tryz.prog 29 #[.string C] w fun e w' => e = .returned (.tuple #[.agg #[.int .i64 vk, .int .i64 vn, .float .f64 vf, .string vt], .int .i64 (n : Int), .bool true]) ∧ Below w.heap.size w w') (SS : ∀ w, Calls Tryz.prog 18 #[.agg #[.int .i64 vk, .int .i64 vn, .float .f64 vf, .string vt], .agg #[.int .i64 vk, .int .i64 vn, .float .f64 vf, .string vt]] w fun e w' => e = .returned (.bool true) ∧ Below w.heap.size w w') (w : World) (hT : Tabs w) : Calls Tryz.prog 13 #[.string s, .string M] w fun e w' => e = .returned (.bool true) ∧ Below w.heap.size w w' := by
  have hsf := run_store_float
  have c0 := Below.refl w.heap.size w
  go_enter Tryz.func13, Tryz.ntmps13
  go_wp2_with fail
  refine (shown_any _ hT).mono ?_; rintro e w1 ⟨rfl, hb1⟩
  have c1 := Below.chain c0 hb1
  go_wp2_with fail
  refine (RA _ (hT.below c1)).mono ?_; rintro e w2 ⟨rfl, hb2⟩
  have c2 := Below.chain c1 hb2
  have c3 := Below.chain c2 (below_a1 w2 (.cells #[.int .i64 vk, .int .i64 vn, .float .f64 vf, .string vt] 28))
  have Lx_3 := lies_new w2 (.int .i64 vk) (.int .i64 vn) (.float .f64 vf) (.string vt) 28
  have ⟨_, _, _, _⟩ := Lx_3
  go_wp2_with fail
  refine (RB _ (hT.below c3)).mono ?_; rintro e w4 ⟨rfl, hb4⟩
  have c4 := Below.chain c3 hb4
  have Lx_4 := Lx_3.below hb4
  have c5 := Below.chain c4 (below_a1 w4 (.cells #[.int .i64 vk, .int .i64 vn, .float .f64 vf, .string vt] 28))
  have Lx_5 := Lx_4.alloc (.cells #[.int .i64 vk, .int .i64 vn, .float .f64 vf, .string vt] 28)
  have Ly_5 := lies_new w4 (.int .i64 vk) (.int .i64 vn) (.float .f64 vf) (.string vt) 28
  have ⟨_, _, _, _⟩ := Lx_5
  have ⟨_, _, _, _⟩ := Ly_5
  go_wp2_with fail
  refine (RC _ (hT.below c5)).mono ?_; rintro e w6 ⟨rfl, hb6⟩
  have c6 := Below.chain c5 hb6
  have Lx_6 := Lx_5.below hb6
  have Ly_6 := Ly_5.below hb6
  have c7 := Below.chain c6 (below_a1 w6 (.cells #[.int .i64 vk, .int .i64 vn, .float .f64 vf, .string vt] 28))
  have Lx_7 := Lx_6.alloc (.cells #[.int .i64 vk, .int .i64 vn, .float .f64 vf, .string vt] 28)
  have Ly_7 := Ly_6.alloc (.cells #[.int .i64 vk, .int .i64 vn, .float .f64 vf, .string vt] 28)
  have Lz_7 := lies_new w6 (.int .i64 vk) (.int .i64 vn) (.float .f64 vf) (.string vt) 28
  have ⟨_, _, _, _⟩ := Lx_7
  have ⟨_, _, _, _⟩ := Ly_7
  have ⟨_, _, _, _⟩ := Lz_7
  go_wp2_with fail
  refine (SS _).mono ?_; rintro e w8 ⟨rfl, hb8⟩
  have c8 := Below.chain c7 hb8
  have Lx_8 := Lx_7.below hb8
  have Ly_8 := Ly_7.below hb8
  have Lz_8 := Lz_7.below hb8
  have ⟨_, _, _, _⟩ := Lx_8
  have ⟨_, _, _, _⟩ := Ly_8
  have ⟨_, _, _, _⟩ := Lz_8
  go_wp2_with fail
  refine (SS _).mono ?_; rintro e w9 ⟨rfl, hb9⟩
  have c9 := Below.chain c8 hb9
  have Lx_9 := Lx_8.below hb9
  have Ly_9 := Ly_8.below hb9
  have Lz_9 := Lz_8.below hb9
  have ⟨_, _, _, _⟩ := Lx_9
  have ⟨_, _, _, _⟩ := Ly_9
  have ⟨_, _, _, _⟩ := Lz_9
  go_wp2_with fail
  go_ret
  exact ⟨rfl, c9⟩
theorem rpSem_lt {l : List UInt8} {k n : Int} {f : Nat} (h : rpSem l = some (k, n, f)) : f < 18446744073709551616 := by
  have hp : ∀ {g : Option (Int × Int × Nat)}, g = (parseSem l).map (fun f => ((3 : Int), (0 : Int), f)) → g = some (k, n, f) → f < 18446744073709551616 := fun {g} h1 h2 => by
    rw [h1] at h2
    cases hq : parseSem l with
    | none => rw [hq] at h2; cases h2
    | some x => rw [hq] at h2; simp at h2; obtain ⟨_, _, rfl⟩ := h2; exact (parseSem_some hq).1
  unfold rpSem at h
  split at h
  · simp at h; obtain ⟨_, _, rfl⟩ := h; decide
  split at h
  · simp at h; obtain ⟨_, _, rfl⟩ := h; decide
  split at h
  · simp at h; obtain ⟨_, _, rfl⟩ := h; decide
  split at h
  · split at h
    · simp at h; obtain ⟨_, _, rfl⟩ := h; decide
    · exact hp rfl h
  · exact hp rfl h
theorem vrd_lt {l : List UInt8} {n : Nat} {k m : Int} {f : Nat} {t : List UInt8} (h : vrdSem l = some (n, k, m, f, t)) : f < 18446744073709551616 := by
  unfold vrdSem at h
  split at h
  · cases hr : rq (l.length + 1) (l.drop 1) [] 1 with
    | none => rw [hr] at h; cases h
    | some p => rw [hr] at h; simp at h; obtain ⟨_, _, _, rfl, _⟩ := h; decide
  · cases hr : findR l (runN 23 l) with
    | none => rw [hr] at h; cases h
    | some p =>
      obtain ⟨m', k', n', f'⟩ := p
      rw [hr] at h; simp at h; obtain ⟨_, _, _, rfl, _⟩ := h
      exact rpSem_lt (findR_some l _ _ _ hr).2.2
theorem walk (s M : ByteArray) (hs : s.size ≤ maxLen) (hM : M.size ≤ maxLen) (w : World) (hT : Tabs w) : Calls Tryz.prog 13 #[.string s, .string M] w fun e w' => e = .returned (.bool true) ∧ Below w.heap.size w w' := by
  have sA : (s.extract 0 (min s.size 100)).size ≤ 100 := by simp; omega
  have sM : (M.extract 0 (min M.size 50)).size ≤ 50 := by simp; omega
  have sB : (s.extract 0 (min s.size 100) ++ ⟨#[32]⟩ ++ M.extract 0 (min M.size 50)).size ≤ 1000 := by
    rw [ByteArray.size_append, ByteArray.size_append]
    have : (ByteArray.mk #[32]).size = 1 := rfl
    omega
  have RA := fun w hT => vread_any (s.extract 0 (min s.size 100)) (by omega) w hT
  cases h : vrdSem (s.extract 0 (min s.size 100)).data.toList with
  | none =>
    rw [h] at RA
    exact no s M _ ⟨#[]⟩ ⟨#[]⟩ _ 0 (by omega) (by omega) rfl RA w hT
  | some p =>
    obtain ⟨n, k, m, f, t⟩ := p
    have hl := vrd_lt h
    obtain ⟨h1, h2, h3, h4⟩ := vrd_more _ (M.extract 0 (min M.size 50)).data.toList _ _ h
    rw [h] at RA
    have RB := fun w hT => vread_any (s.extract 0 (min s.size 100) ++ ⟨#[32]⟩ ++ M.extract 0 (min M.size 50)) (by omega) w hT
    have eB : (s.extract 0 (min s.size 100) ++ ⟨#[32]⟩ ++ M.extract 0 (min M.size 50)).data.toList = (s.extract 0 (min s.size 100)).data.toList ++ 32 :: (M.extract 0 (min M.size 50)).data.toList := by simp
    rw [eB, h3] at RB
    have RC := fun w hT => vread_any ((s.extract 0 (min s.size 100)).extract 0 n) (by simp; omega) w hT
    rw [ext_take0 (s.extract 0 (min s.size 100)) n, h4] at RC
    have SS := fun W => (same_any k m k m f f hl hl ⟨t.toArray⟩ ⟨t.toArray⟩ W).mono fun e w' h => ret_bool' (b := true) (by simp [idB]) h
    exact yes s M _ _ _ _ _ (by omega) (by omega) rfl (by omega) (by omega) rfl sA sB k m f n ⟨t.toArray⟩ (by simpa using h2) rfl RA RB RC SS w hT
end Go.Proofs.YtnjlcdemfdokoaaGreatDoor.ValueRead
