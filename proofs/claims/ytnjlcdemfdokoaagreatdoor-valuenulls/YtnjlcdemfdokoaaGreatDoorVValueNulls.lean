/- The walk of the law ValueNulls. -/
import Derived.Test.YtnjlcdemfdokoaaGreatDoorVw
namespace Go.Proofs.YtnjlcdemfdokoaaGreatDoor.ValueNulls
open Go Go.RowKit
set_option linter.unusedVariables false
set_option maxRecDepth 100000 in
set_option maxHeartbeats 2000000 in
theorem n0 (k n : Int) (f : Nat) (s : ByteArray) (R : ∀ w, Calls Tryz.prog 16 #[.agg #[.int .i64 k, .int .i64 n, .float .f64 f, .string (cut60 s)]] w fun e w' => e = .returned (.bool false) ∧ Below w.heap.size w w') (w : World) (hT : Tabs w) :
    Calls Tryz.prog 11 #[.agg #[.int .i64 k, .int .i64 n, .int .u64 (f : Int), .string s]] w fun e w' => e = .returned (.bool true) ∧ Below w.heap.size w w' := by
  have hsf := run_store_float
  have c0 : Below w.heap.size w (w.alloc (.cells #[.int .i64 k, .int .i64 n, .int .u64 (f : Int), .string s] 24)) := (Below.refl w.heap.size w).alloc (by simp) _
  have LB0_0 : Lies (w.alloc (.cells #[.int .i64 k, .int .i64 n, .int .u64 (f : Int), .string s] 24)) (w.heap.size) (.int .i64 k) (.int .i64 n) (.int .u64 (f : Int)) (.string s) := lies_at w (w.heap.size) (by simp) (.int .i64 k) (.int .i64 n) (.int .u64 (f : Int)) (.string s) 24
  go_enter Tryz.func11, Tryz.ntmps11
  go_wp2_with fail
  refine (shown_any _ (hT.below c0)).mono ?_; rintro e w1 ⟨rfl, hb1⟩
  have c1 := Below.chain c0 hb1
  have LB0_1 := LB0_0.below hb1
  have ⟨_, _, _, _⟩ := LB0_1
  go_wp2_with fail
  refine (of_any k n f s _).mono ?_; rintro e w2 ⟨rfl, hb2⟩
  have c2 := Below.chain c1 hb2
  have LB0_2 := LB0_1.below hb2
  have c3 := Below.chain c2 (below_a1 w2 (.cells #[.int .i64 k, .int .i64 n, .float .f64 f, .string (cut60 s)] 28))
  have LB0_3 := LB0_2.alloc (.cells #[.int .i64 k, .int .i64 n, .float .f64 f, .string (cut60 s)] 28)
  have Lx_3 := lies_new w2 (.int .i64 k) (.int .i64 n) (.float .f64 f) (.string (cut60 s)) 28
  have ⟨_, _, _, _⟩ := LB0_3
  have ⟨_, _, _, _⟩ := Lx_3
  go_wp2_with fail
  refine (R _).mono ?_; rintro e w4 ⟨rfl, hb4⟩
  have c4 := Below.chain c3 hb4
  have LB0_4 := LB0_3.below hb4
  have Lx_4 := Lx_3.below hb4
  have ⟨_, _, _, _⟩ := LB0_4
  have ⟨_, _, _, _⟩ := Lx_4
  go_wp2_with fail
  go_ret
  exact ⟨rfl, c4⟩
set_option maxRecDepth 100000 in
set_option maxHeartbeats 2000000 in
theorem nr (k n : Int) (f : Nat) (s : ByteArray) (R : ∀ w, Calls Tryz.prog 16 #[.agg #[.int .i64 k, .int .i64 n, .float .f64 f, .string (cut60 s)]] w fun e w' => e = .returned (.bool true) ∧ Below w.heap.size w w') (Q1 : ∀ j, j < 6 → ∀ w, Calls Tryz.prog 23 #[.string (opAt j), .agg #[.int .i64 k, .int .i64 n, .float .f64 f, .string (cut60 s)], .agg #[.int .i64 0, .int .i64 0, .float .f64 0, .string ⟨#[]⟩]] w fun e w' => e = .returned (.tuple #[.agg #[.int .i64 0, .int .i64 0, .float .f64 0, .string ⟨#[]⟩], .int .i64 0]) ∧ Below w.heap.size w w') (Q2 : ∀ j, j < 6 → ∀ w, Calls Tryz.prog 23 #[.string (opAt j), .agg #[.int .i64 0, .int .i64 0, .float .f64 0, .string ⟨#[]⟩], .agg #[.int .i64 k, .int .i64 n, .float .f64 f, .string (cut60 s)]] w fun e w' => e = .returned (.tuple #[.agg #[.int .i64 0, .int .i64 0, .float .f64 0, .string ⟨#[]⟩], .int .i64 0]) ∧ Below w.heap.size w w') (Q3 : ∀ j, 6 ≤ j → j < 9 → ∀ w, Calls Tryz.prog 23 #[.string (opAt j), .agg #[.int .i64 k, .int .i64 n, .float .f64 f, .string (cut60 s)], .agg #[.int .i64 0, .int .i64 0, .float .f64 0, .string ⟨#[]⟩]] w fun e w' => e = .returned (.tuple #[.agg #[.int .i64 0, .int .i64 0, .float .f64 0, .string ⟨#[]⟩], .int .i64 1]) ∧ Below w.heap.size w w') (Q4 : ∀ j, 6 ≤ j → j < 9 → ∀ w, Calls Tryz.prog 23 #[.string (opAt j), .agg #[.int .i64 0, .int .i64 0, .float .f64 0, .string ⟨#[]⟩], .agg #[.int .i64 k, .int .i64 n, .float .f64 f, .string (cut60 s)]] w fun e w' => e = .returned (.tuple #[.agg #[.int .i64 0, .int .i64 0, .float .f64 0, .string ⟨#[]⟩], .int .i64 1]) ∧ Below w.heap.size w w') (Q5 : ∀ j, 6 ≤ j → j < 9 → ∀ w, Calls Tryz.prog 25 #[.string (opAt j), .agg #[.int .i64 k, .int .i64 n, .float .f64 f, .string (cut60 s)], .agg #[.int .i64 0, .int .i64 0, .float .f64 0, .string ⟨#[]⟩]] w fun e w' => e = .returned (.tuple #[.agg #[.int .i64 0, .int .i64 0, .float .f64 0, .string ⟨#[]⟩], .int .i64 0]) ∧ Below w.heap.size w w') (Q6 : ∀ j, 6 ≤ j → j < 9 → ∀ w, Calls Tryz.prog 25 #[.string (opAt j), .agg #[.int .i64 0, .int .i64 0, .float .f64 0, .string ⟨#[]⟩], .agg #[.int .i64 k, .int .i64 n, .float .f64 f, .string (cut60 s)]] w fun e w' => e = .returned (.tuple #[.agg #[.int .i64 0, .int .i64 0, .float .f64 0, .string ⟨#[]⟩], .int .i64 0]) ∧ Below w.heap.size w w') (w : World) (hT : Tabs w) :
    Calls Tryz.prog 11 #[.agg #[.int .i64 k, .int .i64 n, .int .u64 (f : Int), .string s]] w fun e w' => e = .returned (.bool true) ∧ Below w.heap.size w w' := by
  have hsf := run_store_float
  have c0 : Below w.heap.size w (w.alloc (.cells #[.int .i64 k, .int .i64 n, .int .u64 (f : Int), .string s] 24)) := (Below.refl w.heap.size w).alloc (by simp) _
  have LB0_0 : Lies (w.alloc (.cells #[.int .i64 k, .int .i64 n, .int .u64 (f : Int), .string s] 24)) (w.heap.size) (.int .i64 k) (.int .i64 n) (.int .u64 (f : Int)) (.string s) := lies_at w (w.heap.size) (by simp) (.int .i64 k) (.int .i64 n) (.int .u64 (f : Int)) (.string s) 24
  go_enter Tryz.func11, Tryz.ntmps11
  go_wp2_with fail
  refine (shown_any _ (hT.below c0)).mono ?_; rintro e w1 ⟨rfl, hb1⟩
  have c1 := Below.chain c0 hb1
  have LB0_1 := LB0_0.below hb1
  have ⟨_, _, _, _⟩ := LB0_1
  go_wp2_with fail
  refine (of_any k n f s _).mono ?_; rintro e w2 ⟨rfl, hb2⟩
  have c2 := Below.chain c1 hb2
  have LB0_2 := LB0_1.below hb2
  have c3 := Below.chain c2 (below_a1 w2 (.cells #[.int .i64 k, .int .i64 n, .float .f64 f, .string (cut60 s)] 28))
  have LB0_3 := LB0_2.alloc (.cells #[.int .i64 k, .int .i64 n, .float .f64 f, .string (cut60 s)] 28)
  have Lx_3 := lies_new w2 (.int .i64 k) (.int .i64 n) (.float .f64 f) (.string (cut60 s)) 28
  have ⟨_, _, _, _⟩ := LB0_3
  have ⟨_, _, _, _⟩ := Lx_3
  go_wp2_with fail
  refine (R _).mono ?_; rintro e w4 ⟨rfl, hb4⟩
  have c4 := Below.chain c3 hb4
  have LB0_4 := LB0_3.below hb4
  have Lx_4 := Lx_3.below hb4
  have ⟨_, _, _, _⟩ := LB0_4
  have ⟨_, _, _, _⟩ := Lx_4
  go_wp2_with fail
  refine (ops_any _).mono ?_; rintro e w' ⟨rfl, rfl⟩
  have cL := Below.chain c4 (below_a1 w4 (.cells #[.string ⟨#[61]⟩, .string ⟨#[60, 62]⟩, .string ⟨#[60]⟩, .string ⟨#[60, 61]⟩, .string ⟨#[62]⟩, .string ⟨#[62, 61]⟩, .string ⟨#[43]⟩, .string ⟨#[45]⟩, .string ⟨#[42]⟩, .string ⟨#[47]⟩, .string ⟨#[]⟩] 9))
  have LxL := Lx_4.alloc (.cells #[.string ⟨#[61]⟩, .string ⟨#[60, 62]⟩, .string ⟨#[60]⟩, .string ⟨#[60, 61]⟩, .string ⟨#[62]⟩, .string ⟨#[62, 61]⟩, .string ⟨#[43]⟩, .string ⟨#[45]⟩, .string ⟨#[42]⟩, .string ⟨#[47]⟩, .string ⟨#[]⟩] 9)
  go_wp2_with fail
  go_loopg [6, 7, 8, 9, 10] 9 (fun g s6 s7 s8 s9 s10 wr => ∃ j : Nat, g + j = 9 ∧ s6 = .int .i64 j ∧ Below (w4.alloc (.cells #[.string ⟨#[61]⟩, .string ⟨#[60, 62]⟩, .string ⟨#[60]⟩, .string ⟨#[60, 61]⟩, .string ⟨#[62]⟩, .string ⟨#[62, 61]⟩, .string ⟨#[43]⟩, .string ⟨#[45]⟩, .string ⟨#[42]⟩, .string ⟨#[47]⟩, .string ⟨#[]⟩] 9)).heap.size (w4.alloc (.cells #[.string ⟨#[61]⟩, .string ⟨#[60, 62]⟩, .string ⟨#[60]⟩, .string ⟨#[60, 61]⟩, .string ⟨#[62]⟩, .string ⟨#[62, 61]⟩, .string ⟨#[43]⟩, .string ⟨#[45]⟩, .string ⟨#[42]⟩, .string ⟨#[47]⟩, .string ⟨#[]⟩] 9)) wr)
  case atStart => exact ⟨0, rfl, rfl, Below.refl _ _⟩
  case round =>
    obtain ⟨j, hg, rfl, hb⟩ := hrel
    by_cases hj : j < 9
    · by_cases h6 : j < 6
      · have T1 := Q1 j h6
        have T2 := Q2 j h6
        clear Q1 Q2 Q3 Q4 Q5 Q6
        have ij0 : (0 : Int) ≤ (j : Int) := by omega
        have ij : (j : Int) < 9 := by omega
        have ij2 : (j : Int) < 11 := by omega
        have q := later_cell (opsCell w4 j (by omega)) ⟨wr, hb⟩
        have Lx_r := LxL.below hb
        obtain ⟨o, ho⟩ : ∃ o, o = opAt j := ⟨_, rfl⟩
        rw [← ho] at q T1 T2
        have HO := Lib.hid ho
        clear ho
        have HA := Lib.hid (And.intro q Lx_r)
        clear q
        go_upto_region 9 with fail
        go_cut [7, 8] (fun sp se wx => ∃ b, sp = .pointer (some ⟨b, 0, none⟩) ∧ se = .int .i64 0 ∧ Lies wx b (.int .i64 0) (.int .i64 0) (.float .f64 0) (.string ⟨#[]⟩) ∧ Free wx b ∧ wr.heap.size ≤ b ∧ Below wr.heap.size wr wx)
        case first =>
          go_region_held3 (fun W => W.cell? ⟨w4.heap.size, j, none⟩ = some (.string o) ∧ W.cell? ⟨w2.heap.size, 0, none⟩ = some (.int .i64 k) ∧ W.cell? ⟨w2.heap.size, 1, none⟩ = some (.int .i64 n) ∧ W.cell? ⟨w2.heap.size, 2, none⟩ = some (.float .f64 f) ∧ W.cell? ⟨w2.heap.size, 3, none⟩ = some (.string (cut60 s))) (first | exact k5 HA.out (Below.refl _ _).drew | exact k5 HA.out (below_a1 _ _).drew | exact k5 HA.out (Below.chain (Below.refl _ _).drew hba) | exact k5 HA.out (Below.chain (below_a1 _ _).drew hba) | exact k5 HA.out (Below.chain (Below.chain (Below.refl _ _).drew hba) (below_a1 _ _)) | exact k5 HA.out (below_set4 (Below.chain (below_a1 _ _).drew hba) (Nat.le_refl _) _ _ _ _))
            (first | ((with_reducible refine (T1 _).mono ?_); rintro e wa ⟨rfl, hba⟩; obtain ⟨hcA, hfA⟩ := bcell hba))
          all_goals (go_wp2_with fail; go_meet; refine ⟨_, rfl, rfl, ?_, ?_, ?_, ?_⟩; (first | with_reducible exact lies_new _ _ _ _ _ _ | with_reducible exact ((Lies.drew (lies_new _ _ _ _ _ _)).below hba).set _ _ _ _); (first | with_reducible exact free_new _ _ _ _ _ _ | with_reducible exact ((Free.drew (free_new _ _ _ _ _ _)).below (Lies.drew (lies_new _ _ _ _ _ _)) hba).set); (first | exact Nat.le_refl _ | (have := hba.size; simpa using this)); (first | with_reducible exact Below.chain (Below.chain (Below.refl _ _).drew hba) (below_a1 _ _) | with_reducible exact below_set4 (Below.chain (below_a1 _ _).drew hba) (Nat.le_refl _) _ _ _ _))
        case rest =>
        obtain ⟨b1, rfl, rfl, hl1, fr1, le1, hb1⟩ := hcut
        rename World => wp1
        have HB := Lib.hid (k5 HA.out hb1)
        clear HA
        go_upto_region 10 with fail
        go_cut [9, 10] (fun sp se wx => ∃ b, sp = .pointer (some ⟨b, 0, none⟩) ∧ se = .int .i64 0 ∧ Lies wx b (.int .i64 0) (.int .i64 0) (.float .f64 0) (.string ⟨#[]⟩) ∧ Free wx b ∧ wp1.heap.size ≤ b ∧ Below wp1.heap.size wp1 wx)
        case first =>
          go_region_held3 (fun W => W.cell? ⟨w4.heap.size, j, none⟩ = some (.string o) ∧ W.cell? ⟨w2.heap.size, 0, none⟩ = some (.int .i64 k) ∧ W.cell? ⟨w2.heap.size, 1, none⟩ = some (.int .i64 n) ∧ W.cell? ⟨w2.heap.size, 2, none⟩ = some (.float .f64 f) ∧ W.cell? ⟨w2.heap.size, 3, none⟩ = some (.string (cut60 s))) (first | exact k5 HB.out (Below.refl _ _).drew | exact k5 HB.out (below_a1 _ _).drew | exact k5 HB.out (Below.chain (Below.refl _ _).drew hba) | exact k5 HB.out (Below.chain (below_a1 _ _).drew hba) | exact k5 HB.out (Below.chain (Below.chain (Below.refl _ _).drew hba) (below_a1 _ _)) | exact k5 HB.out (below_set4 (Below.chain (below_a1 _ _).drew hba) (Nat.le_refl _) _ _ _ _))
            (first | ((with_reducible refine (T2 _).mono ?_); rintro e wa ⟨rfl, hba⟩; obtain ⟨hcA, hfA⟩ := bcell hba))
          all_goals (go_wp2_with fail; go_meet; refine ⟨_, rfl, rfl, ?_, ?_, ?_, ?_⟩; (first | with_reducible exact lies_new _ _ _ _ _ _ | with_reducible exact ((Lies.drew (lies_new _ _ _ _ _ _)).below hba).set _ _ _ _); (first | with_reducible exact free_new _ _ _ _ _ _ | with_reducible exact ((Free.drew (free_new _ _ _ _ _ _)).below (Lies.drew (lies_new _ _ _ _ _ _)) hba).set); (first | exact Nat.le_refl _ | (have := hba.size; simpa using this)); (first | with_reducible exact Below.chain (Below.chain (Below.refl _ _).drew hba) (below_a1 _ _) | with_reducible exact below_set4 (Below.chain (below_a1 _ _).drew hba) (Nat.le_refl _) _ _ _ _))
        case rest =>
        obtain ⟨b2, rfl, rfl, hl2, fr2, le2, hb2⟩ := hcut
        rename World => wp2
        clear HB
        have ⟨_, _, _, _⟩ := hl1.below hb2
        have ⟨_, _, _, _⟩ := hl2
        have hge : decide (6 ≤ (j : Int)) = false := by simp; omega
        go_wp2_with fail
        go_roundg (gk - 1)
        case measure => omega
        case rel => exact ⟨j + 1, by omega, by go_num, Below.chain (Below.chain hb hb1) hb2⟩
      · have h6' : 6 ≤ j := by omega
        have T1 := Q3 j h6' hj
        have T2 := Q4 j h6' hj
        have T3 := Q5 j h6' hj
        have T4 := Q6 j h6' hj
        clear Q1 Q2 Q3 Q4 Q5 Q6
        have ij0 : (0 : Int) ≤ (j : Int) := by omega
        have ij : (j : Int) < 9 := by omega
        have ij2 : (j : Int) < 11 := by omega
        have q := later_cell (opsCell w4 j (by omega)) ⟨wr, hb⟩
        have Lx_r := LxL.below hb
        obtain ⟨o, ho⟩ : ∃ o, o = opAt j := ⟨_, rfl⟩
        rw [← ho] at q T1 T2 T3 T4
        have HO := Lib.hid ho
        clear ho
        have HA := Lib.hid (And.intro q Lx_r)
        clear q
        have hge : decide (6 ≤ (j : Int)) = true := by simp; omega
        go_upto_region 9 with fail
        go_cut [7, 8] (fun sp se wx => ∃ b, sp = .pointer (some ⟨b, 0, none⟩) ∧ se = .int .i64 1 ∧ Lies wx b (.int .i64 0) (.int .i64 0) (.float .f64 0) (.string ⟨#[]⟩) ∧ Free wx b ∧ wr.heap.size ≤ b ∧ Below wr.heap.size wr wx)
        case first =>
          go_region_held3 (fun W => W.cell? ⟨w4.heap.size, j, none⟩ = some (.string o) ∧ W.cell? ⟨w2.heap.size, 0, none⟩ = some (.int .i64 k) ∧ W.cell? ⟨w2.heap.size, 1, none⟩ = some (.int .i64 n) ∧ W.cell? ⟨w2.heap.size, 2, none⟩ = some (.float .f64 f) ∧ W.cell? ⟨w2.heap.size, 3, none⟩ = some (.string (cut60 s))) (first | exact k5 HA.out (Below.refl _ _).drew | exact k5 HA.out (below_a1 _ _).drew | exact k5 HA.out (Below.chain (Below.refl _ _).drew hba) | exact k5 HA.out (Below.chain (below_a1 _ _).drew hba) | exact k5 HA.out (Below.chain (Below.chain (Below.refl _ _).drew hba) (below_a1 _ _)) | exact k5 HA.out (below_set4 (Below.chain (below_a1 _ _).drew hba) (Nat.le_refl _) _ _ _ _))
            (first | ((with_reducible refine (T1 _).mono ?_); rintro e wa ⟨rfl, hba⟩; obtain ⟨hcA, hfA⟩ := bcell hba))
          all_goals (go_wp2_with fail; go_meet; refine ⟨_, rfl, rfl, ?_, ?_, ?_, ?_⟩; (first | with_reducible exact lies_new _ _ _ _ _ _ | with_reducible exact ((Lies.drew (lies_new _ _ _ _ _ _)).below hba).set _ _ _ _); (first | with_reducible exact free_new _ _ _ _ _ _ | with_reducible exact ((Free.drew (free_new _ _ _ _ _ _)).below (Lies.drew (lies_new _ _ _ _ _ _)) hba).set); (first | exact Nat.le_refl _ | (have := hba.size; simpa using this)); (first | with_reducible exact Below.chain (Below.chain (Below.refl _ _).drew hba) (below_a1 _ _) | with_reducible exact below_set4 (Below.chain (below_a1 _ _).drew hba) (Nat.le_refl _) _ _ _ _))
        case rest =>
        obtain ⟨b1, rfl, rfl, hl1, fr1, le1, hb1⟩ := hcut
        rename World => wp1
        have HB := Lib.hid (k5 HA.out hb1)
        go_upto_region 10 with fail
        go_cut [9, 10] (fun sp se wx => ∃ b, sp = .pointer (some ⟨b, 0, none⟩) ∧ se = .int .i64 1 ∧ Lies wx b (.int .i64 0) (.int .i64 0) (.float .f64 0) (.string ⟨#[]⟩) ∧ Free wx b ∧ wp1.heap.size ≤ b ∧ Below wp1.heap.size wp1 wx)
        case first =>
          go_region_held3 (fun W => W.cell? ⟨w4.heap.size, j, none⟩ = some (.string o) ∧ W.cell? ⟨w2.heap.size, 0, none⟩ = some (.int .i64 k) ∧ W.cell? ⟨w2.heap.size, 1, none⟩ = some (.int .i64 n) ∧ W.cell? ⟨w2.heap.size, 2, none⟩ = some (.float .f64 f) ∧ W.cell? ⟨w2.heap.size, 3, none⟩ = some (.string (cut60 s))) (first | exact k5 HB.out (Below.refl _ _).drew | exact k5 HB.out (below_a1 _ _).drew | exact k5 HB.out (Below.chain (Below.refl _ _).drew hba) | exact k5 HB.out (Below.chain (below_a1 _ _).drew hba) | exact k5 HB.out (Below.chain (Below.chain (Below.refl _ _).drew hba) (below_a1 _ _)) | exact k5 HB.out (below_set4 (Below.chain (below_a1 _ _).drew hba) (Nat.le_refl _) _ _ _ _))
            (first | ((with_reducible refine (T2 _).mono ?_); rintro e wa ⟨rfl, hba⟩; obtain ⟨hcA, hfA⟩ := bcell hba))
          all_goals (go_wp2_with fail; go_meet; refine ⟨_, rfl, rfl, ?_, ?_, ?_, ?_⟩; (first | with_reducible exact lies_new _ _ _ _ _ _ | with_reducible exact ((Lies.drew (lies_new _ _ _ _ _ _)).below hba).set _ _ _ _); (first | with_reducible exact free_new _ _ _ _ _ _ | with_reducible exact ((Free.drew (free_new _ _ _ _ _ _)).below (Lies.drew (lies_new _ _ _ _ _ _)) hba).set); (first | exact Nat.le_refl _ | (have := hba.size; simpa using this)); (first | with_reducible exact Below.chain (Below.chain (Below.refl _ _).drew hba) (below_a1 _ _) | with_reducible exact below_set4 (Below.chain (below_a1 _ _).drew hba) (Nat.le_refl _) _ _ _ _))
        case rest =>
        obtain ⟨b2, rfl, rfl, hl2, fr2, le2, hb2⟩ := hcut
        rename World => wp2
        have lt1 := Lib.lt_of_cell hl1.1
        have ne12 : b1 ≠ b2 := by simp at lt1; omega
        have ne21 : b2 ≠ b1 := fun q => ne12 q.symm
        have le2' : wr.heap.size ≤ b2 := Nat.le_trans hb1.size le2
        have hl1' := hl1.below hb2
        have fr1' := fr1.below hl1 hb2
        have bw := Below.chain hb1 hb2
        have HE := Lib.hid ne12
        have HE' := Lib.hid ne21
        clear HB ne12 ne21 lt1
        go_upto_region 12 with fail
        go_cut [8] (fun se wx => se = .int .i64 0 ∧ Lies wx b1 (.int .i64 0) (.int .i64 0) (.float .f64 0) (.string ⟨#[]⟩) ∧ Lies wx b2 (.int .i64 0) (.int .i64 0) (.float .f64 0) (.string ⟨#[]⟩) ∧ Free wx b2 ∧ Below wr.heap.size wr wx)
        case first =>
          go_region_held3 (fun W => W.cell? ⟨w4.heap.size, j, none⟩ = some (.string o) ∧ W.cell? ⟨w2.heap.size, 0, none⟩ = some (.int .i64 k) ∧ W.cell? ⟨w2.heap.size, 1, none⟩ = some (.int .i64 n) ∧ W.cell? ⟨w2.heap.size, 2, none⟩ = some (.float .f64 f) ∧ W.cell? ⟨w2.heap.size, 3, none⟩ = some (.string (cut60 s))) (first | exact k5 HA.out bw.drew | exact k5 HA.out (Below.chain bw.drew hba) | exact k5 HA.out (below_set4 (Below.chain bw.drew hba) le1 _ _ _ _))
            (first | ((with_reducible refine (T3 _).mono ?_); rintro e wa ⟨rfl, hba⟩; have ⟨_, _, _, _⟩ := (Lies.drew hl1').below hba; have ⟨_, _, _, _⟩ := (Free.drew fr1').below (Lies.drew hl1') hba))
          all_goals (go_wp2_with fail; go_meet; refine ⟨rfl, ?_, ?_, ?_, ?_⟩; (with_reducible exact ((Lies.drew hl1').below hba).set _ _ _ _); (with_reducible exact ((Lies.drew hl2).below hba).setfar HE.out); (with_reducible exact ((Free.drew fr2).below (Lies.drew hl2) hba).set); (with_reducible exact below_set4 (Below.chain bw.drew hba) le1 _ _ _ _))
        case rest =>
        obtain ⟨rfl, ha3, hc3, hd3, bw3⟩ := hcut
        rename World => wq3
        go_upto_region 13 with fail
        go_cut [10] (fun se wx => se = .int .i64 0 ∧ Lies wx b2 (.int .i64 0) (.int .i64 0) (.float .f64 0) (.string ⟨#[]⟩) ∧ Lies wx b1 (.int .i64 0) (.int .i64 0) (.float .f64 0) (.string ⟨#[]⟩) ∧ Below wr.heap.size wr wx)
        case first =>
          go_region_held3 (fun W => W.cell? ⟨w4.heap.size, j, none⟩ = some (.string o) ∧ W.cell? ⟨w2.heap.size, 0, none⟩ = some (.int .i64 k) ∧ W.cell? ⟨w2.heap.size, 1, none⟩ = some (.int .i64 n) ∧ W.cell? ⟨w2.heap.size, 2, none⟩ = some (.float .f64 f) ∧ W.cell? ⟨w2.heap.size, 3, none⟩ = some (.string (cut60 s))) (first | exact k5 HA.out bw3.drew | exact k5 HA.out (Below.chain bw3.drew hba) | exact k5 HA.out (below_set4 (Below.chain bw3.drew hba) le2' _ _ _ _))
            (first | ((with_reducible refine (T4 _).mono ?_); rintro e wa ⟨rfl, hba⟩; have ⟨_, _, _, _⟩ := (Lies.drew hc3).below hba; have ⟨_, _, _, _⟩ := (Free.drew hd3).below (Lies.drew hc3) hba))
          all_goals (go_wp2_with fail; go_meet; refine ⟨rfl, ?_, ?_, ?_⟩; (with_reducible exact ((Lies.drew hc3).below hba).set _ _ _ _); (with_reducible exact ((Lies.drew ha3).below hba).setfar HE'.out); (with_reducible exact below_set4 (Below.chain bw3.drew hba) le2' _ _ _ _))
        case rest =>
        obtain ⟨rfl, ha4, hc4, bw4⟩ := hcut
        rename World => wq4
        have ⟨_, _, _, _⟩ := ha4
        have ⟨_, _, _, _⟩ := hc4
        go_wp2_with fail
        go_roundg (gk - 1)
        case measure => omega
        case rel => exact ⟨j + 1, by omega, by go_num, Below.chain hb bw4⟩
    · have ij : decide ((j : Int) < 9) = false := by simp; omega
      have ij' : decide (j < 9) = false := by simpa using hj
      go_wp2_with fail
      go_ret
      exact ⟨rfl, Below.chain cL hb⟩
theorem opI_at (j : Nat) : (j < 6 → opI (opAt j) ≠ 0 ∧ opO (opAt j) = 0) ∧ (6 ≤ j → j < 9 → opI (opAt j) = 0 ∧ opO (opAt j) ≠ 0) := by
  constructor
  · intro h
    have e : j = 0 ∨ j = 1 ∨ j = 2 ∨ j = 3 ∨ j = 4 ∨ j = 5 := by omega
    rcases e with rfl | rfl | rfl | rfl | rfl | rfl <;> simp [opAt, opsL, opI, opO, Lib.toList_data]
  · intro h1 h2
    have e : j = 6 ∨ j = 7 ∨ j = 8 := by omega
    rcases e with rfl | rfl | rfl <;> simp [opAt, opsL, opI, opO, Lib.toList_data]
theorem right0n : rightB 0 0 0 ⟨#[]⟩ = true := by simp [rightB]
theorem walk (k n : Int) (f : Nat) (s : ByteArray) (_ : -9223372036854775808 ≤ k) (_ : k ≤ 9223372036854775807) (n1 : -9223372036854775808 ≤ n) (n2 : n ≤ 9223372036854775807) (hf : f < 18446744073709551616) (hs : s.size ≤ maxLen) (w : World) (hT : Tabs w) :
    Calls Tryz.prog 11 #[.agg #[.int .i64 k, .int .i64 n, .int .u64 (f : Int), .string s]] w fun e w' => e = .returned (.bool true) ∧ Below w.heap.size w w' := by
  have R := right_any k n f hf (cut60 s)
  rcases bool_cases (rightB k n f (cut60 s)) with ha | ha
  · rw [ha] at R
    exact n0 k n f s R w hT
  rw [ha] at R
  refine nr k n f s R ?_ ?_ ?_ ?_ ?_ ?_ w hT
  · intro j hj w
    refine (test_any (opAt j) k n 0 0 f 0 (cut60 s) ⟨#[]⟩ n1 n2 (by decide) (by decide) hf (by decide) w).mono fun e w' h => ret_ve' ?_ h
    unfold testR
    rw [if_neg (by simp [((opI_at j).1 hj).1, ha, right0n]), if_pos (Or.inr rfl)]
  · intro j hj w
    refine (test_any (opAt j) 0 0 k n 0 f ⟨#[]⟩ (cut60 s) (by decide) (by decide) n1 n2 (by decide) hf w).mono fun e w' h => ret_ve' ?_ h
    unfold testR
    rw [if_neg (by simp [((opI_at j).1 hj).1, ha, right0n]), if_pos (Or.inl rfl)]
  · intro j h1 h2 w
    refine (test_any (opAt j) k n 0 0 f 0 (cut60 s) ⟨#[]⟩ n1 n2 (by decide) (by decide) hf (by decide) w).mono fun e w' h => ret_ve' ?_ h
    unfold testR
    rw [if_pos (Or.inl ((opI_at j).2 h1 h2).1)]
  · intro j h1 h2 w
    refine (test_any (opAt j) 0 0 k n 0 f ⟨#[]⟩ (cut60 s) (by decide) (by decide) n1 n2 (by decide) hf w).mono fun e w' h => ret_ve' ?_ h
    unfold testR
    rw [if_pos (Or.inl ((opI_at j).2 h1 h2).1)]
  · intro j h1 h2 w
    refine (reck_any (opAt j) k n 0 0 f 0 (cut60 s) ⟨#[]⟩ n1 n2 (by decide) (by decide) hf (by decide) w).mono fun e w' h => ret_vf' ?_ h
    unfold reckR
    rw [if_neg (by simp [((opI_at j).2 h1 h2).2, ha, right0n]), if_pos (Or.inr rfl)]
  · intro j h1 h2 w
    refine (reck_any (opAt j) 0 0 k n 0 f ⟨#[]⟩ (cut60 s) (by decide) (by decide) n1 n2 (by decide) hf w).mono fun e w' h => ret_vf' ?_ h
    unfold reckR
    rw [if_neg (by simp [((opI_at j).2 h1 h2).2, ha, right0n]), if_pos (Or.inl rfl)]
end Go.Proofs.YtnjlcdemfdokoaaGreatDoor.ValueNulls
