/- The walk of the law ValueReckons. -/
import Derived.Test.YtnjlcdemfdokoaaGreatDoorBJ
import Derived.Test.YtnjlcdemfdokoaaGreatDoorBE
import Derived.Test.YtnjlcdemfdokoaaGreatDoorBD
namespace Go.Proofs.YtnjlcdemfdokoaaGreatDoor.ValueReckons
open Go Go.RowKit
set_option linter.unusedVariables false
set_option maxRecDepth 100000 in
set_option maxHeartbeats 4000000 in
theorem core (k n k' n' : Int) (f f' : Nat) (s s' op : ByteArray) (A B E : ByteArray → Int) (F : ByteArray → Nat) (T1 : ∀ (o : ByteArray) (w : World), Calls Tryz.prog 25 #[.string o, .agg #[.int .i64 k, .int .i64 n, .float .f64 f, .string (cut60 s)], .agg #[.int .i64 k', .int .i64 n', .float .f64 f', .string (cut60 s')]] w fun e w' => e = .returned (.tuple #[.agg #[.int .i64 (A o), .int .i64 (B o), .float .f64 (F o), .string ⟨#[]⟩], .int .i64 (E o)]) ∧ Below w.heap.size w w') (T2 : ∀ (o : ByteArray) (w : World), Calls Tryz.prog 26 #[.string o, .agg #[.int .i64 k, .int .i64 n, .float .f64 f, .string (cut60 s)], .agg #[.int .i64 k', .int .i64 n', .float .f64 f', .string (cut60 s')]] w fun e w' => e = .returned (.tuple #[.agg #[.int .i64 (A o), .int .i64 (B o), .float .f64 (F o), .string ⟨#[]⟩], .int .i64 (E o)]) ∧ Below w.heap.size w w') (SM : ∀ (o : ByteArray) (w : World), Calls Tryz.prog 19 #[.agg #[.int .i64 (A o), .int .i64 (B o), .float .f64 (F o), .string ⟨#[]⟩], .agg #[.int .i64 (A o), .int .i64 (B o), .float .f64 (F o), .string ⟨#[]⟩]] w fun e w' => e = .returned (.bool true) ∧ Below w.heap.size w w') (RT : ∀ (o : ByteArray) (w : World), Calls Tryz.prog 16 #[.agg #[.int .i64 (A o), .int .i64 (B o), .float .f64 (F o), .string ⟨#[]⟩]] w fun e w' => e = .returned (.bool true) ∧ Below w.heap.size w w') (w : World) (hT : Tabs w) :
    Calls Tryz.prog 5 #[.agg #[.int .i64 k, .int .i64 n, .int .u64 (f : Int), .string s], .agg #[.int .i64 k', .int .i64 n', .int .u64 (f' : Int), .string s'], .string op] w fun e w' => e = .returned (.bool true) ∧ Below w.heap.size w w' := by
  have hsf := run_store_float
  have c0 : Below w.heap.size w ((w.alloc (.cells #[.int .i64 k, .int .i64 n, .int .u64 (f : Int), .string s] 24)).alloc (.cells #[.int .i64 k', .int .i64 n', .int .u64 (f' : Int), .string s'] 24)) := ((Below.refl w.heap.size w).alloc (by simp) _).alloc (by simp <;> omega) _
  have LB0_0 : Lies ((w.alloc (.cells #[.int .i64 k, .int .i64 n, .int .u64 (f : Int), .string s] 24)).alloc (.cells #[.int .i64 k', .int .i64 n', .int .u64 (f' : Int), .string s'] 24)) (w.heap.size) (.int .i64 k) (.int .i64 n) (.int .u64 (f : Int)) (.string s) := (lies_at w (w.heap.size) (by simp) (.int .i64 k) (.int .i64 n) (.int .u64 (f : Int)) (.string s) 24).alloc _
  have LB1_0 : Lies ((w.alloc (.cells #[.int .i64 k, .int .i64 n, .int .u64 (f : Int), .string s] 24)).alloc (.cells #[.int .i64 k', .int .i64 n', .int .u64 (f' : Int), .string s'] 24)) (w.heap.size + 1) (.int .i64 k') (.int .i64 n') (.int .u64 (f' : Int)) (.string s') := lies_at (w.alloc (.cells #[.int .i64 k, .int .i64 n, .int .u64 (f : Int), .string s] 24)) (w.heap.size + 1) (by simp) (.int .i64 k') (.int .i64 n') (.int .u64 (f' : Int)) (.string s') 24
  go_enter Tryz.func5, Tryz.ntmps5
  go_wp2_with fail
  refine (shown_any _ (hT.below c0)).mono ?_; rintro e w1 ⟨rfl, hb1⟩
  have c1 := Below.chain c0 hb1
  have LB0_1 := LB0_0.below hb1
  have LB1_1 := LB1_0.below hb1
  have ⟨_, _, _, _⟩ := LB0_1
  have ⟨_, _, _, _⟩ := LB1_1
  go_wp2_with fail
  refine (of_any k n f s _).mono ?_; rintro e w2 ⟨rfl, hb2⟩
  have c2 := Below.chain c1 hb2
  have LB0_2 := LB0_1.below hb2
  have LB1_2 := LB1_1.below hb2
  have c3 := Below.chain c2 (below_a1 w2 (.cells #[.int .i64 k, .int .i64 n, .float .f64 f, .string (cut60 s)] 28))
  have LB0_3 := LB0_2.alloc (.cells #[.int .i64 k, .int .i64 n, .float .f64 f, .string (cut60 s)] 28)
  have LB1_3 := LB1_2.alloc (.cells #[.int .i64 k, .int .i64 n, .float .f64 f, .string (cut60 s)] 28)
  have Lx_3 := lies_new w2 (.int .i64 k) (.int .i64 n) (.float .f64 f) (.string (cut60 s)) 28
  have ⟨_, _, _, _⟩ := LB0_3
  have ⟨_, _, _, _⟩ := LB1_3
  have ⟨_, _, _, _⟩ := Lx_3
  go_wp2_with fail
  refine (of_any k' n' f' s' _).mono ?_; rintro e w4 ⟨rfl, hb4⟩
  have c4 := Below.chain c3 hb4
  have LB0_4 := LB0_3.below hb4
  have LB1_4 := LB1_3.below hb4
  have Lx_4 := Lx_3.below hb4
  have c5 := Below.chain c4 (below_a1 w4 (.cells #[.int .i64 k', .int .i64 n', .float .f64 f', .string (cut60 s')] 28))
  have Lx_5 := Lx_4.alloc (.cells #[.int .i64 k', .int .i64 n', .float .f64 f', .string (cut60 s')] 28)
  have Ly_5 := lies_new w4 (.int .i64 k') (.int .i64 n') (.float .f64 f') (.string (cut60 s')) 28
  have ⟨_, _, _, _⟩ := Lx_5
  have ⟨_, _, _, _⟩ := Ly_5
  go_wp2_with fail
  refine (ops_any _).mono ?_; rintro e w' ⟨rfl, rfl⟩
  have hO1 : OwnS ((w4.alloc (.cells #[.int .i64 k', .int .i64 n', .float .f64 f', .string (cut60 s')] 28)).alloc (.cells #[.string ⟨#[61]⟩, .string ⟨#[60, 62]⟩, .string ⟨#[60]⟩, .string ⟨#[60, 61]⟩, .string ⟨#[62]⟩, .string ⟨#[62, 61]⟩, .string ⟨#[43]⟩, .string ⟨#[45]⟩, .string ⟨#[42]⟩, .string ⟨#[47]⟩, .string ⟨#[]⟩] 9)) (w4.alloc (.cells #[.int .i64 k', .int .i64 n', .float .f64 f', .string (cut60 s')] 28)).heap.size (.slice (some ⟨(w4.alloc (.cells #[.int .i64 k', .int .i64 n', .float .f64 f', .string (cut60 s')] 28)).heap.size, 0, none⟩) 11 11) opsL := World.ownsRow_lit (base := (w4.alloc (.cells #[.int .i64 k', .int .i64 n', .float .f64 f', .string (cut60 s')] 28)).heap.size) (e := 9) (size := 1) (w4.alloc (.cells #[.int .i64 k', .int .i64 n', .float .f64 f', .string (cut60 s')] 28)) #[.string ⟨#[61]⟩, .string ⟨#[60, 62]⟩, .string ⟨#[60]⟩, .string ⟨#[60, 61]⟩, .string ⟨#[62]⟩, .string ⟨#[62, 61]⟩, .string ⟨#[43]⟩, .string ⟨#[45]⟩, .string ⟨#[42]⟩, .string ⟨#[47]⟩, .string ⟨#[]⟩] 11 (Nat.le_refl _) (by simp only [maxLen]; omega) rfl
  have hO2 : OwnS (((w4.alloc (.cells #[.int .i64 k', .int .i64 n', .float .f64 f', .string (cut60 s')] 28)).alloc (.cells #[.string ⟨#[61]⟩, .string ⟨#[60, 62]⟩, .string ⟨#[60]⟩, .string ⟨#[60, 61]⟩, .string ⟨#[62]⟩, .string ⟨#[62, 61]⟩, .string ⟨#[43]⟩, .string ⟨#[45]⟩, .string ⟨#[42]⟩, .string ⟨#[47]⟩, .string ⟨#[]⟩] 9)).alloc (.cells #[.string op] 9)) (w4.alloc (.cells #[.int .i64 k', .int .i64 n', .float .f64 f', .string (cut60 s')] 28)).heap.size (.slice (some ⟨(w4.alloc (.cells #[.int .i64 k', .int .i64 n', .float .f64 f', .string (cut60 s')] 28)).heap.size, 0, none⟩) 11 11) opsL := World.ownsRow.alloc hO1 (.cells #[.string op] 9)
  have hcl : ∀ j u, (strs [op])[j]? = some u → (((w4.alloc (.cells #[.int .i64 k', .int .i64 n', .float .f64 f', .string (cut60 s')] 28)).alloc (.cells #[.string ⟨#[61]⟩, .string ⟨#[60, 62]⟩, .string ⟨#[60]⟩, .string ⟨#[60, 61]⟩, .string ⟨#[62]⟩, .string ⟨#[62, 61]⟩, .string ⟨#[43]⟩, .string ⟨#[45]⟩, .string ⟨#[42]⟩, .string ⟨#[47]⟩, .string ⟨#[]⟩] 9)).alloc (.cells #[.string op] 9)).cell? ((⟨((w4.alloc (.cells #[.int .i64 k', .int .i64 n', .float .f64 f', .string (cut60 s')] 28)).alloc (.cells #[.string ⟨#[61]⟩, .string ⟨#[60, 62]⟩, .string ⟨#[60]⟩, .string ⟨#[60, 61]⟩, .string ⟨#[62]⟩, .string ⟨#[62, 61]⟩, .string ⟨#[43]⟩, .string ⟨#[45]⟩, .string ⟨#[42]⟩, .string ⟨#[47]⟩, .string ⟨#[]⟩] 9)).heap.size, 0, none⟩ : Addr).add j) = some u := fun j u hj => (World.ownsRow_lit (base := ((w4.alloc (.cells #[.int .i64 k', .int .i64 n', .float .f64 f', .string (cut60 s')] 28)).alloc (.cells #[.string ⟨#[61]⟩, .string ⟨#[60, 62]⟩, .string ⟨#[60]⟩, .string ⟨#[60, 61]⟩, .string ⟨#[62]⟩, .string ⟨#[62, 61]⟩, .string ⟨#[43]⟩, .string ⟨#[45]⟩, .string ⟨#[42]⟩, .string ⟨#[47]⟩, .string ⟨#[]⟩] 9)).heap.size) (e := 9) (size := 1) ((w4.alloc (.cells #[.int .i64 k', .int .i64 n', .float .f64 f', .string (cut60 s')] 28)).alloc (.cells #[.string ⟨#[61]⟩, .string ⟨#[60, 62]⟩, .string ⟨#[60]⟩, .string ⟨#[60, 61]⟩, .string ⟨#[62]⟩, .string ⟨#[62, 61]⟩, .string ⟨#[43]⟩, .string ⟨#[45]⟩, .string ⟨#[42]⟩, .string ⟨#[47]⟩, .string ⟨#[]⟩] 9)) #[.string op] 1 (Nat.le_refl _) (by simp only [maxLen]; omega) rfl).cells (g := ((w4.alloc (.cells #[.int .i64 k', .int .i64 n', .float .f64 f', .string (cut60 s')] 28)).alloc (.cells #[.string ⟨#[61]⟩, .string ⟨#[60, 62]⟩, .string ⟨#[60]⟩, .string ⟨#[60, 61]⟩, .string ⟨#[62]⟩, .string ⟨#[62, 61]⟩, .string ⟨#[43]⟩, .string ⟨#[45]⟩, .string ⟨#[42]⟩, .string ⟨#[47]⟩, .string ⟨#[]⟩] 9)).heap.size) rfl j u hj
  have hs1 : (w4.alloc (.cells #[.int .i64 k', .int .i64 n', .float .f64 f', .string (cut60 s')] 28)).heap.size = w4.heap.size + 1 := by simp
  have hs2 : ((w4.alloc (.cells #[.int .i64 k', .int .i64 n', .float .f64 f', .string (cut60 s')] 28)).alloc (.cells #[.string ⟨#[61]⟩, .string ⟨#[60, 62]⟩, .string ⟨#[60]⟩, .string ⟨#[60, 61]⟩, .string ⟨#[62]⟩, .string ⟨#[62, 61]⟩, .string ⟨#[43]⟩, .string ⟨#[45]⟩, .string ⟨#[42]⟩, .string ⟨#[47]⟩, .string ⟨#[]⟩] 9)).heap.size = w4.heap.size + 1 + 1 := by simp
  rw [hs1] at hO2
  rw [hs2] at hcl
  have Hcl := Lib.hid hcl
  have HO2 := Lib.hid hO2
  have cA := Below.chain (below_a1 (w4.alloc (.cells #[.int .i64 k', .int .i64 n', .float .f64 f', .string (cut60 s')] 28)) (.cells #[.string ⟨#[61]⟩, .string ⟨#[60, 62]⟩, .string ⟨#[60]⟩, .string ⟨#[60, 61]⟩, .string ⟨#[62]⟩, .string ⟨#[62, 61]⟩, .string ⟨#[43]⟩, .string ⟨#[45]⟩, .string ⟨#[42]⟩, .string ⟨#[47]⟩, .string ⟨#[]⟩] 9)) (below_a1 ((w4.alloc (.cells #[.int .i64 k', .int .i64 n', .float .f64 f', .string (cut60 s')] 28)).alloc (.cells #[.string ⟨#[61]⟩, .string ⟨#[60, 62]⟩, .string ⟨#[60]⟩, .string ⟨#[60, 61]⟩, .string ⟨#[62]⟩, .string ⟨#[62, 61]⟩, .string ⟨#[43]⟩, .string ⟨#[45]⟩, .string ⟨#[42]⟩, .string ⟨#[47]⟩, .string ⟨#[]⟩] 9)) (.cells #[.string op] 9))
  have hzA : w4.heap.size + 1 ≤ (((w4.alloc (.cells #[.int .i64 k', .int .i64 n', .float .f64 f', .string (cut60 s')] 28)).alloc (.cells #[.string ⟨#[61]⟩, .string ⟨#[60, 62]⟩, .string ⟨#[60]⟩, .string ⟨#[60, 61]⟩, .string ⟨#[62]⟩, .string ⟨#[62, 61]⟩, .string ⟨#[43]⟩, .string ⟨#[45]⟩, .string ⟨#[42]⟩, .string ⟨#[47]⟩, .string ⟨#[]⟩] 9)).alloc (.cells #[.string op] 9)).heap.size := by rw [← hs1]; exact cA.size
  rw [hs1] at cA
  have hl12 : opsL.length + [op].length ≤ 1000000 := by simp [opsL]
  clear hcl hO1 hO2 hs1 hs2
  go_wp2_with (at_builtin; refine wpList_append_s (Y := [op]) rfl _ _ rfl rfl rfl HO2.out Hcl.out hl12 hzA ?_; intro v3 w9 hO3 hg3)
  have cB := cA.grown hg3 hzA HO2.out.row
  rw [show w4.heap.size + 1 = (w4.alloc (.cells #[.int .i64 k', .int .i64 n', .float .f64 f', .string (cut60 s')] 28)).heap.size by simp] at cB
  have hL3 : (opsL ++ [op]).length = 12 := rfl
  obtain ⟨gL, capL, rfl, hcells⟩ := hO3.at (by rw [hL3]; decide)
  have cL := Below.chain c5 cB
  have LxL := Lx_5.below cB
  have LyL := Ly_5.below cB
  have HC := Lib.hid (show ∀ j, j < 12 → ∃ o, w9.cell? ⟨gL, j, none⟩ = some (.string o) from fun j hj => ⟨_, hcells j (by rw [hL3]; exact hj)⟩)
  rw [hL3]
  clear hcells hO3 hg3 cA cB hzA hl12 HO2 Hcl hL3
  go_wp2_with fail
  go_loopg [11, 12, 13, 14, 15] 12 (fun g s11 s12 s13 s14 s15 wr => ∃ j : Nat, g + j = 12 ∧ s11 = .int .i64 j ∧ Below w9.heap.size w9 wr)
  case atStart => exact ⟨0, rfl, rfl, Below.refl _ _⟩
  case round =>
    obtain ⟨j, hg, rfl, hb⟩ := hrel
    by_cases hj : j < 12
    · have ij0 : (0 : Int) ≤ (j : Int) := by omega
      have ij : (j : Int) < 12 := by omega
      obtain ⟨o, ho⟩ := HC.out j hj
      have q := later_cell ho ⟨wr, hb⟩
      clear ho
      have HA := Lib.hid (And.intro q (And.intro (LxL.below hb) (LyL.below hb)))
      clear q
      go_upto_region 8 with fail
      go_cut [12, 13] (fun sp se wx => ∃ b, sp = .pointer (some ⟨b, 0, none⟩) ∧ se = .int .i64 (E o) ∧ Lies wx b (.int .i64 (A o)) (.int .i64 (B o)) (.float .f64 (F o)) (.string ⟨#[]⟩) ∧ Below wr.heap.size wr wx)
      case first =>
        go_region_held3 (fun W => W.cell? ⟨gL, j, none⟩ = some (.string o) ∧ (W.cell? ⟨w2.heap.size, 0, none⟩ = some (.int .i64 k) ∧ W.cell? ⟨w2.heap.size, 1, none⟩ = some (.int .i64 n) ∧ W.cell? ⟨w2.heap.size, 2, none⟩ = some (.float .f64 f) ∧ W.cell? ⟨w2.heap.size, 3, none⟩ = some (.string (cut60 s))) ∧ W.cell? ⟨w4.heap.size, 0, none⟩ = some (.int .i64 k') ∧ W.cell? ⟨w4.heap.size, 1, none⟩ = some (.int .i64 n') ∧ W.cell? ⟨w4.heap.size, 2, none⟩ = some (.float .f64 f') ∧ W.cell? ⟨w4.heap.size, 3, none⟩ = some (.string (cut60 s'))) (first | exact k9 HA.out (Below.refl _ _).drew | exact k9 HA.out (below_a1 _ _).drew | exact k9 HA.out (Below.chain (Below.refl _ _).drew hba) | exact k9 HA.out (Below.chain (below_a1 _ _).drew hba) | exact k9 HA.out (Below.chain (Below.chain (Below.refl _ _).drew hba) (below_a1 _ _)) | exact k9 HA.out (below_set4 (Below.chain (below_a1 _ _).drew hba) (Nat.le_refl _) _ _ _ _))
          (first | ((with_reducible refine (T1 o _).mono ?_); rintro e wa ⟨rfl, hba⟩; obtain ⟨hcA, hfA⟩ := bcell hba))
        all_goals (go_wp2_with fail; go_meet; refine ⟨_, rfl, rfl, ?_, ?_⟩; (first | with_reducible exact lies_new _ _ _ _ _ _ | with_reducible exact ((Lies.drew (lies_new _ _ _ _ _ _)).below hba).set _ _ _ _); (first | with_reducible exact Below.chain (Below.chain (Below.refl _ _).drew hba) (below_a1 _ _) | with_reducible exact below_set4 (Below.chain (below_a1 _ _).drew hba) (Nat.le_refl _) _ _ _ _))
      case rest =>
      obtain ⟨b1, rfl, rfl, hl1, hb1⟩ := hcut
      rename World => wp1
      have HB := Lib.hid (k9 HA.out hb1)
      clear HA
      go_upto_region 9 with fail
      go_cut [14, 15] (fun sp se wx => ∃ b, sp = .pointer (some ⟨b, 0, none⟩) ∧ se = .int .i64 (E o) ∧ Lies wx b (.int .i64 (A o)) (.int .i64 (B o)) (.float .f64 (F o)) (.string ⟨#[]⟩) ∧ Below wp1.heap.size wp1 wx)
      case first =>
        go_region_held3 (fun W => W.cell? ⟨gL, j, none⟩ = some (.string o) ∧ (W.cell? ⟨w2.heap.size, 0, none⟩ = some (.int .i64 k) ∧ W.cell? ⟨w2.heap.size, 1, none⟩ = some (.int .i64 n) ∧ W.cell? ⟨w2.heap.size, 2, none⟩ = some (.float .f64 f) ∧ W.cell? ⟨w2.heap.size, 3, none⟩ = some (.string (cut60 s))) ∧ W.cell? ⟨w4.heap.size, 0, none⟩ = some (.int .i64 k') ∧ W.cell? ⟨w4.heap.size, 1, none⟩ = some (.int .i64 n') ∧ W.cell? ⟨w4.heap.size, 2, none⟩ = some (.float .f64 f') ∧ W.cell? ⟨w4.heap.size, 3, none⟩ = some (.string (cut60 s'))) (first | exact k9 HB.out (Below.refl _ _).drew | exact k9 HB.out (below_a1 _ _).drew | exact k9 HB.out (Below.chain (Below.refl _ _).drew hba) | exact k9 HB.out (Below.chain (below_a1 _ _).drew hba) | exact k9 HB.out (Below.chain (Below.chain (Below.refl _ _).drew hba) (below_a1 _ _)) | exact k9 HB.out (below_set4 (Below.chain (below_a1 _ _).drew hba) (Nat.le_refl _) _ _ _ _))
          (first | ((with_reducible refine (T2 o _).mono ?_); rintro e wa ⟨rfl, hba⟩; obtain ⟨hcA, hfA⟩ := bcell hba))
        all_goals (go_wp2_with fail; go_meet; refine ⟨_, rfl, rfl, ?_, ?_⟩; (first | with_reducible exact lies_new _ _ _ _ _ _ | with_reducible exact ((Lies.drew (lies_new _ _ _ _ _ _)).below hba).set _ _ _ _); (first | with_reducible exact Below.chain (Below.chain (Below.refl _ _).drew hba) (below_a1 _ _) | with_reducible exact below_set4 (Below.chain (below_a1 _ _).drew hba) (Nat.le_refl _) _ _ _ _))
      case rest =>
      obtain ⟨b2, rfl, rfl, hl2, hb2⟩ := hcut
      rename World => wp2
      clear HB
      have hm1 := hl1.below hb2
      have ⟨_, _, _, _⟩ := hm1
      have ⟨_, _, _, _⟩ := hl2
      have cc := Below.chain (Below.chain hb hb1) hb2
      clear hb1 hb2 T1 T2
      go_wp2_with fail
      refine (SM o _).mono ?_; rintro e w10 ⟨rfl, hb10⟩
      have cd := Below.chain cc hb10
      have ⟨_, _, _, _⟩ := hm1.below hb10
      go_wp2_with fail
      refine (RT o _).mono ?_; rintro e w11 ⟨rfl, hb11⟩
      have cd := Below.chain cd hb11
      go_wp2_with fail
      go_roundg (gk - 1)
      case measure => omega
      case rel => exact ⟨j + 1, by omega, by go_num, cd⟩
    · have ij : decide ((j : Int) < 12) = false := by simp; omega
      have ij' : decide (j < 12) = false := by simpa using hj
      go_wp2_with fail
      go_ret
      exact ⟨rfl, Below.chain cL hb⟩
theorem walk (k n : Int) (f : Nat) (s : ByteArray) (k' n' : Int) (f' : Nat) (s' op : ByteArray) (_ : -9223372036854775808 ≤ k) (_ : k ≤ 9223372036854775807) (n1 : -9223372036854775808 ≤ n) (n2 : n ≤ 9223372036854775807) (hf : f < 18446744073709551616) (hs : s.size ≤ maxLen) (_ : -9223372036854775808 ≤ k') (_ : k' ≤ 9223372036854775807) (n1' : -9223372036854775808 ≤ n') (n2' : n' ≤ 9223372036854775807) (hf' : f' < 18446744073709551616) (hs' : s'.size ≤ maxLen) (ho : op.size ≤ maxLen) (w : World) (hT : Tabs w) :
    Calls Tryz.prog 5 #[.agg #[.int .i64 k, .int .i64 n, .int .u64 (f : Int), .string s], .agg #[.int .i64 k', .int .i64 n', .int .u64 (f' : Int), .string s'], .string op] w fun e w' => e = .returned (.bool true) ∧ Below w.heap.size w w' := by
  exact core k n k' n' f f' s s' op (fun o => (reckR o k n f (cut60 s) k' n' f' (cut60 s')).1) (fun o => (reckR o k n f (cut60 s) k' n' f' (cut60 s')).2.1) (fun o => (reckR o k n f (cut60 s) k' n' f' (cut60 s')).2.2.2) (fun o => (reckR o k n f (cut60 s) k' n' f' (cut60 s')).2.2.1) (fun o w => reck_any o k n k' n' f f' _ _ n1 n2 n1' n2' hf hf' w) (fun o w => rreck_any o k n k' n' f f' _ _ n1 n2 n1' n2' hf hf' w) (fun o w => same_self _ _ _ (reckR_lt o k n k' n' f f' _ _ n1 n2 n1' n2' hf hf') ⟨#[]⟩ w) (fun o w => reckR_right o k n k' n' f f' _ _ n1 n2 n1' n2' hf hf' w) w hT
end Go.Proofs.YtnjlcdemfdokoaaGreatDoor.ValueReckons
