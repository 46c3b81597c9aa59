/- The walk of the law ValueTurned. -/
import Derived.Test.YtnjlcdemfdokoaaGreatDoorVs
namespace Go.Proofs.YtnjlcdemfdokoaaGreatDoor.ValueTurned
open Go Go.RowKit
set_option linter.unusedVariables false
set_option maxRecDepth 100000 in
set_option maxHeartbeats 1000000 in
theorem t1 (k n k' n' : Int) (f f' : Nat) (s s' : ByteArray) (pk pn pe qk qn qe dk dn de ek en ee : Int) (pf qf df ef : Nat) (A1 : ∀ w, Calls Tryz.prog 25 #[.string ⟨#[43]⟩, .agg #[.int .i64 k, .int .i64 n, .float .f64 f, .string (cut60 s)], .agg #[.int .i64 k', .int .i64 n', .float .f64 f', .string (cut60 s')]] w fun e w' => e = .returned (.tuple #[.agg #[.int .i64 pk, .int .i64 pn, .float .f64 pf, .string ⟨#[]⟩], .int .i64 pe]) ∧ Below w.heap.size w w') (A2 : ∀ w, Calls Tryz.prog 25 #[.string ⟨#[43]⟩, .agg #[.int .i64 k', .int .i64 n', .float .f64 f', .string (cut60 s')], .agg #[.int .i64 k, .int .i64 n, .float .f64 f, .string (cut60 s)]] w fun e w' => e = .returned (.tuple #[.agg #[.int .i64 pk, .int .i64 pn, .float .f64 pf, .string ⟨#[]⟩], .int .i64 pe]) ∧ Below w.heap.size w w') (S1 : ∀ w, Calls Tryz.prog 18 #[.agg #[.int .i64 pk, .int .i64 pn, .float .f64 pf, .string ⟨#[]⟩], .agg #[.int .i64 pk, .int .i64 pn, .float .f64 pf, .string ⟨#[]⟩]] w fun e w' => e = .returned (.bool true) ∧ Below w.heap.size w w') (B1 : ∀ w, Calls Tryz.prog 25 #[.string ⟨#[42]⟩, .agg #[.int .i64 k, .int .i64 n, .float .f64 f, .string (cut60 s)], .agg #[.int .i64 k', .int .i64 n', .float .f64 f', .string (cut60 s')]] w fun e w' => e = .returned (.tuple #[.agg #[.int .i64 qk, .int .i64 qn, .float .f64 qf, .string ⟨#[]⟩], .int .i64 qe]) ∧ Below w.heap.size w w') (B2 : ∀ w, Calls Tryz.prog 25 #[.string ⟨#[42]⟩, .agg #[.int .i64 k', .int .i64 n', .float .f64 f', .string (cut60 s')], .agg #[.int .i64 k, .int .i64 n, .float .f64 f, .string (cut60 s)]] w fun e w' => e = .returned (.tuple #[.agg #[.int .i64 qk, .int .i64 qn, .float .f64 qf, .string ⟨#[]⟩], .int .i64 qe]) ∧ Below w.heap.size w w') (S2 : ∀ w, Calls Tryz.prog 18 #[.agg #[.int .i64 qk, .int .i64 qn, .float .f64 qf, .string ⟨#[]⟩], .agg #[.int .i64 qk, .int .i64 qn, .float .f64 qf, .string ⟨#[]⟩]] w fun e w' => e = .returned (.bool true) ∧ Below w.heap.size w w') (D1 : ∀ w, Calls Tryz.prog 25 #[.string ⟨#[45]⟩, .agg #[.int .i64 k, .int .i64 n, .float .f64 f, .string (cut60 s)], .agg #[.int .i64 k', .int .i64 n', .float .f64 f', .string (cut60 s')]] w fun e w' => e = .returned (.tuple #[.agg #[.int .i64 dk, .int .i64 dn, .float .f64 df, .string ⟨#[]⟩], .int .i64 de]) ∧ Below w.heap.size w w') (D2 : ∀ w, Calls Tryz.prog 25 #[.string ⟨#[45]⟩, .agg #[.int .i64 k', .int .i64 n', .float .f64 f', .string (cut60 s')], .agg #[.int .i64 k, .int .i64 n, .float .f64 f, .string (cut60 s)]] w fun e w' => e = .returned (.tuple #[.agg #[.int .i64 ek, .int .i64 en, .float .f64 ef, .string ⟨#[]⟩], .int .i64 ee]) ∧ Below w.heap.size w w') (h1 : (de != 0) = true) (h4 : (ek != 1) = true) (w : World) (hT : Tabs w) :
    Calls Tryz.prog 10 #[.agg #[.int .i64 k, .int .i64 n, .int .u64 (f : Int), .string s], .agg #[.int .i64 k', .int .i64 n', .int .u64 (f' : Int), .string s']] w fun e w' => e = .returned (.bool true) ∧ Below w.heap.size w w' := by
  have hsf := run_store_float
  have c0 : Below w.heap.size w ((w.alloc (.cells #[.int .i64 k, .int .i64 n, .int .u64 (f : Int), .string s] 24)).alloc (.cells #[.int .i64 k', .int .i64 n', .int .u64 (f' : Int), .string s'] 24)) := ((Below.refl w.heap.size w).alloc (by simp) _).alloc (by simp <;> omega) _
  have LB0_0 : Lies ((w.alloc (.cells #[.int .i64 k, .int .i64 n, .int .u64 (f : Int), .string s] 24)).alloc (.cells #[.int .i64 k', .int .i64 n', .int .u64 (f' : Int), .string s'] 24)) (w.heap.size) (.int .i64 k) (.int .i64 n) (.int .u64 (f : Int)) (.string s) := (lies_at w (w.heap.size) (by simp) (.int .i64 k) (.int .i64 n) (.int .u64 (f : Int)) (.string s) 24).alloc _
  have LB1_0 : Lies ((w.alloc (.cells #[.int .i64 k, .int .i64 n, .int .u64 (f : Int), .string s] 24)).alloc (.cells #[.int .i64 k', .int .i64 n', .int .u64 (f' : Int), .string s'] 24)) (w.heap.size + 1) (.int .i64 k') (.int .i64 n') (.int .u64 (f' : Int)) (.string s') := lies_at (w.alloc (.cells #[.int .i64 k, .int .i64 n, .int .u64 (f : Int), .string s] 24)) (w.heap.size + 1) (by simp) (.int .i64 k') (.int .i64 n') (.int .u64 (f' : Int)) (.string s') 24
  go_enter Tryz.func10, Tryz.ntmps10
  go_wp2_with fail
  refine (shown_any _ (hT.below c0)).mono ?_; rintro e w1 ⟨rfl, hb1⟩
  have c1 := Below.chain c0 hb1
  have LB0_1 := LB0_0.below hb1
  have LB1_1 := LB1_0.below hb1
  have ⟨_, _, _, _⟩ := LB0_1
  have ⟨_, _, _, _⟩ := LB1_1
  go_wp2_with fail
  refine (of_any k n f s _).mono ?_; rintro e w2 ⟨rfl, hb2⟩
  have c2 := Below.chain c1 hb2
  have LB0_2 := LB0_1.below hb2
  have LB1_2 := LB1_1.below hb2
  have c3 := Below.chain c2 (below_a1 w2 (.cells #[.int .i64 k, .int .i64 n, .float .f64 f, .string (cut60 s)] 28))
  have LB0_3 := LB0_2.alloc (.cells #[.int .i64 k, .int .i64 n, .float .f64 f, .string (cut60 s)] 28)
  have LB1_3 := LB1_2.alloc (.cells #[.int .i64 k, .int .i64 n, .float .f64 f, .string (cut60 s)] 28)
  have Lx_3 := lies_new w2 (.int .i64 k) (.int .i64 n) (.float .f64 f) (.string (cut60 s)) 28
  have ⟨_, _, _, _⟩ := LB0_3
  have ⟨_, _, _, _⟩ := LB1_3
  have ⟨_, _, _, _⟩ := Lx_3
  go_wp2_with fail
  refine (of_any k' n' f' s' _).mono ?_; rintro e w4 ⟨rfl, hb4⟩
  have c4 := Below.chain c3 hb4
  have LB0_4 := LB0_3.below hb4
  have LB1_4 := LB1_3.below hb4
  have Lx_4 := Lx_3.below hb4
  have c5 := Below.chain c4 (below_a1 w4 (.cells #[.int .i64 k', .int .i64 n', .float .f64 f', .string (cut60 s')] 28))
  have LB0_5 := LB0_4.alloc (.cells #[.int .i64 k', .int .i64 n', .float .f64 f', .string (cut60 s')] 28)
  have LB1_5 := LB1_4.alloc (.cells #[.int .i64 k', .int .i64 n', .float .f64 f', .string (cut60 s')] 28)
  have Lx_5 := Lx_4.alloc (.cells #[.int .i64 k', .int .i64 n', .float .f64 f', .string (cut60 s')] 28)
  have Ly_5 := lies_new w4 (.int .i64 k') (.int .i64 n') (.float .f64 f') (.string (cut60 s')) 28
  have ⟨_, _, _, _⟩ := LB0_5
  have ⟨_, _, _, _⟩ := LB1_5
  have ⟨_, _, _, _⟩ := Lx_5
  have ⟨_, _, _, _⟩ := Ly_5
  go_wp2_with fail
  have cL := Below.chain c5 (below_a1 (w4.alloc (.cells #[.int .i64 k', .int .i64 n', .float .f64 f', .string (cut60 s')] 28)) (.cells #[.string ⟨#[43]⟩, .string ⟨#[42]⟩] 9))
  have LxL := Lx_5.alloc (.cells #[.string ⟨#[43]⟩, .string ⟨#[42]⟩] 9)
  have LyL := Ly_5.alloc (.cells #[.string ⟨#[43]⟩, .string ⟨#[42]⟩] 9)
  have p0 : ((w4.alloc (.cells #[.int .i64 k', .int .i64 n', .float .f64 f', .string (cut60 s')] 28)).alloc (.cells #[.string ⟨#[43]⟩, .string ⟨#[42]⟩] 9)).cell? ⟨w4.heap.size + 1, 0, none⟩ = some (.string ⟨#[43]⟩) := by go_simp
  have p1 : ((w4.alloc (.cells #[.int .i64 k', .int .i64 n', .float .f64 f', .string (cut60 s')] 28)).alloc (.cells #[.string ⟨#[43]⟩, .string ⟨#[42]⟩] 9)).cell? ⟨w4.heap.size + 1, 1, none⟩ = some (.string ⟨#[42]⟩) := by go_simp
  go_loopg [9, 10, 11, 12, 13, 25] 2 (fun g s9 s10 s11 s12 s13 s25 wr => ∃ j : Nat, g + j = 2 ∧ s25 = .int .i64 j ∧ Below ((w4.alloc (.cells #[.int .i64 k', .int .i64 n', .float .f64 f', .string (cut60 s')] 28)).alloc (.cells #[.string ⟨#[43]⟩, .string ⟨#[42]⟩] 9)).heap.size ((w4.alloc (.cells #[.int .i64 k', .int .i64 n', .float .f64 f', .string (cut60 s')] 28)).alloc (.cells #[.string ⟨#[43]⟩, .string ⟨#[42]⟩] 9)) wr)
  case atStart => exact ⟨0, rfl, rfl, Below.refl _ _⟩
  case round =>
    obtain ⟨j, hg, rfl, hb⟩ := hrel
    have e : (gk = 2 ∧ j = 0) ∨ (gk = 1 ∧ j = 1) ∨ (gk = 0 ∧ j = 2) := by omega
    clear hg
    rcases e with ⟨rfl, rfl⟩ | ⟨rfl, rfl⟩ | ⟨rfl, rfl⟩
    · have q0 := later_cell p0 ⟨wr, hb⟩
      have c0 := hb
      have Lx_0 := LxL.below hb
      have Ly_0 := LyL.below hb
      have ⟨_, _, _, _⟩ := Lx_0
      have ⟨_, _, _, _⟩ := Ly_0
      go_wp2_with fail
      refine (A1 _).mono ?_; rintro e w1 ⟨rfl, hb1⟩
      have c1 := Below.chain c0 hb1
      have Lx_1 := Lx_0.below hb1
      have Ly_1 := Ly_0.below hb1
      have c2 := Below.chain c1 (below_a1 w1 (.cells #[.int .i64 pk, .int .i64 pn, .float .f64 pf, .string ⟨#[]⟩] 28))
      have Lx_2 := Lx_1.alloc (.cells #[.int .i64 pk, .int .i64 pn, .float .f64 pf, .string ⟨#[]⟩] 28)
      have Ly_2 := Ly_1.alloc (.cells #[.int .i64 pk, .int .i64 pn, .float .f64 pf, .string ⟨#[]⟩] 28)
      have La_2 := lies_new w1 (.int .i64 pk) (.int .i64 pn) (.float .f64 pf) (.string ⟨#[]⟩) 28
      have ⟨_, _, _, _⟩ := Lx_2
      have ⟨_, _, _, _⟩ := Ly_2
      have ⟨_, _, _, _⟩ := La_2
      go_wp2_with fail
      refine (A2 _).mono ?_; rintro e w3 ⟨rfl, hb3⟩
      have c3 := Below.chain c2 hb3
      have Lx_3 := Lx_2.below hb3
      have Ly_3 := Ly_2.below hb3
      have La_3 := La_2.below hb3
      have c4 := Below.chain c3 (below_a1 w3 (.cells #[.int .i64 pk, .int .i64 pn, .float .f64 pf, .string ⟨#[]⟩] 28))
      have Lx_4 := Lx_3.alloc (.cells #[.int .i64 pk, .int .i64 pn, .float .f64 pf, .string ⟨#[]⟩] 28)
      have Ly_4 := Ly_3.alloc (.cells #[.int .i64 pk, .int .i64 pn, .float .f64 pf, .string ⟨#[]⟩] 28)
      have La_4 := La_3.alloc (.cells #[.int .i64 pk, .int .i64 pn, .float .f64 pf, .string ⟨#[]⟩] 28)
      have Lb_4 := lies_new w3 (.int .i64 pk) (.int .i64 pn) (.float .f64 pf) (.string ⟨#[]⟩) 28
      have ⟨_, _, _, _⟩ := Lx_4
      have ⟨_, _, _, _⟩ := Ly_4
      have ⟨_, _, _, _⟩ := La_4
      have ⟨_, _, _, _⟩ := Lb_4
      go_wp2_with fail
      refine (S1 _).mono ?_; rintro e w5 ⟨rfl, hb5⟩
      have c5 := Below.chain c4 hb5
      have Lx_5 := Lx_4.below hb5
      have Ly_5 := Ly_4.below hb5
      have La_5 := La_4.below hb5
      have Lb_5 := Lb_4.below hb5
      have ⟨_, _, _, _⟩ := Lx_5
      have ⟨_, _, _, _⟩ := Ly_5
      have ⟨_, _, _, _⟩ := La_5
      have ⟨_, _, _, _⟩ := Lb_5
      go_wp2_with fail
      go_roundg 1
      case measure => omega
      case rel => exact ⟨1, rfl, by go_num, c5⟩
    · have q0 := later_cell p1 ⟨wr, hb⟩
      have c0 := hb
      have Lx_0 := LxL.below hb
      have Ly_0 := LyL.below hb
      have ⟨_, _, _, _⟩ := Lx_0
      have ⟨_, _, _, _⟩ := Ly_0
      go_wp2_with fail
      refine (B1 _).mono ?_; rintro e w1 ⟨rfl, hb1⟩
      have c1 := Below.chain c0 hb1
      have Lx_1 := Lx_0.below hb1
      have Ly_1 := Ly_0.below hb1
      have c2 := Below.chain c1 (below_a1 w1 (.cells #[.int .i64 qk, .int .i64 qn, .float .f64 qf, .string ⟨#[]⟩] 28))
      have Lx_2 := Lx_1.alloc (.cells #[.int .i64 qk, .int .i64 qn, .float .f64 qf, .string ⟨#[]⟩] 28)
      have Ly_2 := Ly_1.alloc (.cells #[.int .i64 qk, .int .i64 qn, .float .f64 qf, .string ⟨#[]⟩] 28)
      have La_2 := lies_new w1 (.int .i64 qk) (.int .i64 qn) (.float .f64 qf) (.string ⟨#[]⟩) 28
      have ⟨_, _, _, _⟩ := Lx_2
      have ⟨_, _, _, _⟩ := Ly_2
      have ⟨_, _, _, _⟩ := La_2
      go_wp2_with fail
      refine (B2 _).mono ?_; rintro e w3 ⟨rfl, hb3⟩
      have c3 := Below.chain c2 hb3
      have Lx_3 := Lx_2.below hb3
      have Ly_3 := Ly_2.below hb3
      have La_3 := La_2.below hb3
      have c4 := Below.chain c3 (below_a1 w3 (.cells #[.int .i64 qk, .int .i64 qn, .float .f64 qf, .string ⟨#[]⟩] 28))
      have Lx_4 := Lx_3.alloc (.cells #[.int .i64 qk, .int .i64 qn, .float .f64 qf, .string ⟨#[]⟩] 28)
      have Ly_4 := Ly_3.alloc (.cells #[.int .i64 qk, .int .i64 qn, .float .f64 qf, .string ⟨#[]⟩] 28)
      have La_4 := La_3.alloc (.cells #[.int .i64 qk, .int .i64 qn, .float .f64 qf, .string ⟨#[]⟩] 28)
      have Lb_4 := lies_new w3 (.int .i64 qk) (.int .i64 qn) (.float .f64 qf) (.string ⟨#[]⟩) 28
      have ⟨_, _, _, _⟩ := Lx_4
      have ⟨_, _, _, _⟩ := Ly_4
      have ⟨_, _, _, _⟩ := La_4
      have ⟨_, _, _, _⟩ := Lb_4
      go_wp2_with fail
      refine (S2 _).mono ?_; rintro e w5 ⟨rfl, hb5⟩
      have c5 := Below.chain c4 hb5
      have Lx_5 := Lx_4.below hb5
      have Ly_5 := Ly_4.below hb5
      have La_5 := La_4.below hb5
      have Lb_5 := Lb_4.below hb5
      have ⟨_, _, _, _⟩ := Lx_5
      have ⟨_, _, _, _⟩ := Ly_5
      have ⟨_, _, _, _⟩ := La_5
      have ⟨_, _, _, _⟩ := Lb_5
      go_wp2_with fail
      go_roundg 0
      case measure => omega
      case rel => exact ⟨2, rfl, by go_num, c5⟩
    · have c0 := Below.chain cL hb
      have Lx_0 := LxL.below hb
      have Ly_0 := LyL.below hb
      have ⟨_, _, _, _⟩ := Lx_0
      have ⟨_, _, _, _⟩ := Ly_0
      go_wp2_with fail
      refine (D1 _).mono ?_; rintro e w1 ⟨rfl, hb1⟩
      have c1 := Below.chain c0 hb1
      have Lx_1 := Lx_0.below hb1
      have Ly_1 := Ly_0.below hb1
      have c2 := Below.chain c1 (below_a1 w1 (.cells #[.int .i64 dk, .int .i64 dn, .float .f64 df, .string ⟨#[]⟩] 28))
      have Lx_2 := Lx_1.alloc (.cells #[.int .i64 dk, .int .i64 dn, .float .f64 df, .string ⟨#[]⟩] 28)
      have Ly_2 := Ly_1.alloc (.cells #[.int .i64 dk, .int .i64 dn, .float .f64 df, .string ⟨#[]⟩] 28)
      have La_2 := lies_new w1 (.int .i64 dk) (.int .i64 dn) (.float .f64 df) (.string ⟨#[]⟩) 28
      have ⟨_, _, _, _⟩ := Lx_2
      have ⟨_, _, _, _⟩ := Ly_2
      have ⟨_, _, _, _⟩ := La_2
      go_wp2_with fail
      refine (D2 _).mono ?_; rintro e w3 ⟨rfl, hb3⟩
      have c3 := Below.chain c2 hb3
      have Lx_3 := Lx_2.below hb3
      have Ly_3 := Ly_2.below hb3
      have La_3 := La_2.below hb3
      have c4 := Below.chain c3 (below_a1 w3 (.cells #[.int .i64 ek, .int .i64 en, .float .f64 ef, .string ⟨#[]⟩] 28))
      have Lx_4 := Lx_3.alloc (.cells #[.int .i64 ek, .int .i64 en, .float .f64 ef, .string ⟨#[]⟩] 28)
      have Ly_4 := Ly_3.alloc (.cells #[.int .i64 ek, .int .i64 en, .float .f64 ef, .string ⟨#[]⟩] 28)
      have La_4 := La_3.alloc (.cells #[.int .i64 ek, .int .i64 en, .float .f64 ef, .string ⟨#[]⟩] 28)
      have Lb_4 := lies_new w3 (.int .i64 ek) (.int .i64 en) (.float .f64 ef) (.string ⟨#[]⟩) 28
      have ⟨_, _, _, _⟩ := Lx_4
      have ⟨_, _, _, _⟩ := Ly_4
      have ⟨_, _, _, _⟩ := La_4
      have ⟨_, _, _, _⟩ := Lb_4
      go_wp2_with fail
      go_ret
      refine ⟨?_, c4⟩
      first | rfl | simp
set_option maxRecDepth 100000 in
set_option maxHeartbeats 1000000 in
theorem t2 (k n k' n' : Int) (f f' : Nat) (s s' : ByteArray) (pk pn pe qk qn qe dk dn de ek en ee : Int) (pf qf df ef : Nat) (A1 : ∀ w, Calls Tryz.prog 25 #[.string ⟨#[43]⟩, .agg #[.int .i64 k, .int .i64 n, .float .f64 f, .string (cut60 s)], .agg #[.int .i64 k', .int .i64 n', .float .f64 f', .string (cut60 s')]] w fun e w' => e = .returned (.tuple #[.agg #[.int .i64 pk, .int .i64 pn, .float .f64 pf, .string ⟨#[]⟩], .int .i64 pe]) ∧ Below w.heap.size w w') (A2 : ∀ w, Calls Tryz.prog 25 #[.string ⟨#[43]⟩, .agg #[.int .i64 k', .int .i64 n', .float .f64 f', .string (cut60 s')], .agg #[.int .i64 k, .int .i64 n, .float .f64 f, .string (cut60 s)]] w fun e w' => e = .returned (.tuple #[.agg #[.int .i64 pk, .int .i64 pn, .float .f64 pf, .string ⟨#[]⟩], .int .i64 pe]) ∧ Below w.heap.size w w') (S1 : ∀ w, Calls Tryz.prog 18 #[.agg #[.int .i64 pk, .int .i64 pn, .float .f64 pf, .string ⟨#[]⟩], .agg #[.int .i64 pk, .int .i64 pn, .float .f64 pf, .string ⟨#[]⟩]] w fun e w' => e = .returned (.bool true) ∧ Below w.heap.size w w') (B1 : ∀ w, Calls Tryz.prog 25 #[.string ⟨#[42]⟩, .agg #[.int .i64 k, .int .i64 n, .float .f64 f, .string (cut60 s)], .agg #[.int .i64 k', .int .i64 n', .float .f64 f', .string (cut60 s')]] w fun e w' => e = .returned (.tuple #[.agg #[.int .i64 qk, .int .i64 qn, .float .f64 qf, .string ⟨#[]⟩], .int .i64 qe]) ∧ Below w.heap.size w w') (B2 : ∀ w, Calls Tryz.prog 25 #[.string ⟨#[42]⟩, .agg #[.int .i64 k', .int .i64 n', .float .f64 f', .string (cut60 s')], .agg #[.int .i64 k, .int .i64 n, .float .f64 f, .string (cut60 s)]] w fun e w' => e = .returned (.tuple #[.agg #[.int .i64 qk, .int .i64 qn, .float .f64 qf, .string ⟨#[]⟩], .int .i64 qe]) ∧ Below w.heap.size w w') (S2 : ∀ w, Calls Tryz.prog 18 #[.agg #[.int .i64 qk, .int .i64 qn, .float .f64 qf, .string ⟨#[]⟩], .agg #[.int .i64 qk, .int .i64 qn, .float .f64 qf, .string ⟨#[]⟩]] w fun e w' => e = .returned (.bool true) ∧ Below w.heap.size w w') (D1 : ∀ w, Calls Tryz.prog 25 #[.string ⟨#[45]⟩, .agg #[.int .i64 k, .int .i64 n, .float .f64 f, .string (cut60 s)], .agg #[.int .i64 k', .int .i64 n', .float .f64 f', .string (cut60 s')]] w fun e w' => e = .returned (.tuple #[.agg #[.int .i64 dk, .int .i64 dn, .float .f64 df, .string ⟨#[]⟩], .int .i64 de]) ∧ Below w.heap.size w w') (D2 : ∀ w, Calls Tryz.prog 25 #[.string ⟨#[45]⟩, .agg #[.int .i64 k', .int .i64 n', .float .f64 f', .string (cut60 s')], .agg #[.int .i64 k, .int .i64 n, .float .f64 f, .string (cut60 s)]] w fun e w' => e = .returned (.tuple #[.agg #[.int .i64 ek, .int .i64 en, .float .f64 ef, .string ⟨#[]⟩], .int .i64 ee]) ∧ Below w.heap.size w w') (h1 : (de != 0) = false) (h2 : (ee != 0) = true) (h4 : (ek != 1) = true) (w : World) (hT : Tabs w) :
    Calls Tryz.prog 10 #[.agg #[.int .i64 k, .int .i64 n, .int .u64 (f : Int), .string s], .agg #[.int .i64 k', .int .i64 n', .int .u64 (f' : Int), .string s']] w fun e w' => e = .returned (.bool true) ∧ Below w.heap.size w w' := by
  have hsf := run_store_float
  have c0 : Below w.heap.size w ((w.alloc (.cells #[.int .i64 k, .int .i64 n, .int .u64 (f : Int), .string s] 24)).alloc (.cells #[.int .i64 k', .int .i64 n', .int .u64 (f' : Int), .string s'] 24)) := ((Below.refl w.heap.size w).alloc (by simp) _).alloc (by simp <;> omega) _
  have LB0_0 : Lies ((w.alloc (.cells #[.int .i64 k, .int .i64 n, .int .u64 (f : Int), .string s] 24)).alloc (.cells #[.int .i64 k', .int .i64 n', .int .u64 (f' : Int), .string s'] 24)) (w.heap.size) (.int .i64 k) (.int .i64 n) (.int .u64 (f : Int)) (.string s) := (lies_at w (w.heap.size) (by simp) (.int .i64 k) (.int .i64 n) (.int .u64 (f : Int)) (.string s) 24).alloc _
  have LB1_0 : Lies ((w.alloc (.cells #[.int .i64 k, .int .i64 n, .int .u64 (f : Int), .string s] 24)).alloc (.cells #[.int .i64 k', .int .i64 n', .int .u64 (f' : Int), .string s'] 24)) (w.heap.size + 1) (.int .i64 k') (.int .i64 n') (.int .u64 (f' : Int)) (.string s') := lies_at (w.alloc (.cells #[.int .i64 k, .int .i64 n, .int .u64 (f : Int), .string s] 24)) (w.heap.size + 1) (by simp) (.int .i64 k') (.int .i64 n') (.int .u64 (f' : Int)) (.string s') 24
  go_enter Tryz.func10, Tryz.ntmps10
  go_wp2_with fail
  refine (shown_any _ (hT.below c0)).mono ?_; rintro e w1 ⟨rfl, hb1⟩
  have c1 := Below.chain c0 hb1
  have LB0_1 := LB0_0.below hb1
  have LB1_1 := LB1_0.below hb1
  have ⟨_, _, _, _⟩ := LB0_1
  have ⟨_, _, _, _⟩ := LB1_1
  go_wp2_with fail
  refine (of_any k n f s _).mono ?_; rintro e w2 ⟨rfl, hb2⟩
  have c2 := Below.chain c1 hb2
  have LB0_2 := LB0_1.below hb2
  have LB1_2 := LB1_1.below hb2
  have c3 := Below.chain c2 (below_a1 w2 (.cells #[.int .i64 k, .int .i64 n, .float .f64 f, .string (cut60 s)] 28))
  have LB0_3 := LB0_2.alloc (.cells #[.int .i64 k, .int .i64 n, .float .f64 f, .string (cut60 s)] 28)
  have LB1_3 := LB1_2.alloc (.cells #[.int .i64 k, .int .i64 n, .float .f64 f, .string (cut60 s)] 28)
  have Lx_3 := lies_new w2 (.int .i64 k) (.int .i64 n) (.float .f64 f) (.string (cut60 s)) 28
  have ⟨_, _, _, _⟩ := LB0_3
  have ⟨_, _, _, _⟩ := LB1_3
  have ⟨_, _, _, _⟩ := Lx_3
  go_wp2_with fail
  refine (of_any k' n' f' s' _).mono ?_; rintro e w4 ⟨rfl, hb4⟩
  have c4 := Below.chain c3 hb4
  have LB0_4 := LB0_3.below hb4
  have LB1_4 := LB1_3.below hb4
  have Lx_4 := Lx_3.below hb4
  have c5 := Below.chain c4 (below_a1 w4 (.cells #[.int .i64 k', .int .i64 n', .float .f64 f', .string (cut60 s')] 28))
  have LB0_5 := LB0_4.alloc (.cells #[.int .i64 k', .int .i64 n', .float .f64 f', .string (cut60 s')] 28)
  have LB1_5 := LB1_4.alloc (.cells #[.int .i64 k', .int .i64 n', .float .f64 f', .string (cut60 s')] 28)
  have Lx_5 := Lx_4.alloc (.cells #[.int .i64 k', .int .i64 n', .float .f64 f', .string (cut60 s')] 28)
  have Ly_5 := lies_new w4 (.int .i64 k') (.int .i64 n') (.float .f64 f') (.string (cut60 s')) 28
  have ⟨_, _, _, _⟩ := LB0_5
  have ⟨_, _, _, _⟩ := LB1_5
  have ⟨_, _, _, _⟩ := Lx_5
  have ⟨_, _, _, _⟩ := Ly_5
  go_wp2_with fail
  have cL := Below.chain c5 (below_a1 (w4.alloc (.cells #[.int .i64 k', .int .i64 n', .float .f64 f', .string (cut60 s')] 28)) (.cells #[.string ⟨#[43]⟩, .string ⟨#[42]⟩] 9))
  have LxL := Lx_5.alloc (.cells #[.string ⟨#[43]⟩, .string ⟨#[42]⟩] 9)
  have LyL := Ly_5.alloc (.cells #[.string ⟨#[43]⟩, .string ⟨#[42]⟩] 9)
  have p0 : ((w4.alloc (.cells #[.int .i64 k', .int .i64 n', .float .f64 f', .string (cut60 s')] 28)).alloc (.cells #[.string ⟨#[43]⟩, .string ⟨#[42]⟩] 9)).cell? ⟨w4.heap.size + 1, 0, none⟩ = some (.string ⟨#[43]⟩) := by go_simp
  have p1 : ((w4.alloc (.cells #[.int .i64 k', .int .i64 n', .float .f64 f', .string (cut60 s')] 28)).alloc (.cells #[.string ⟨#[43]⟩, .string ⟨#[42]⟩] 9)).cell? ⟨w4.heap.size + 1, 1, none⟩ = some (.string ⟨#[42]⟩) := by go_simp
  go_loopg [9, 10, 11, 12, 13, 25] 2 (fun g s9 s10 s11 s12 s13 s25 wr => ∃ j : Nat, g + j = 2 ∧ s25 = .int .i64 j ∧ Below ((w4.alloc (.cells #[.int .i64 k', .int .i64 n', .float .f64 f', .string (cut60 s')] 28)).alloc (.cells #[.string ⟨#[43]⟩, .string ⟨#[42]⟩] 9)).heap.size ((w4.alloc (.cells #[.int .i64 k', .int .i64 n', .float .f64 f', .string (cut60 s')] 28)).alloc (.cells #[.string ⟨#[43]⟩, .string ⟨#[42]⟩] 9)) wr)
  case atStart => exact ⟨0, rfl, rfl, Below.refl _ _⟩
  case round =>
    obtain ⟨j, hg, rfl, hb⟩ := hrel
    have e : (gk = 2 ∧ j = 0) ∨ (gk = 1 ∧ j = 1) ∨ (gk = 0 ∧ j = 2) := by omega
    clear hg
    rcases e with ⟨rfl, rfl⟩ | ⟨rfl, rfl⟩ | ⟨rfl, rfl⟩
    · have q0 := later_cell p0 ⟨wr, hb⟩
      have c0 := hb
      have Lx_0 := LxL.below hb
      have Ly_0 := LyL.below hb
      have ⟨_, _, _, _⟩ := Lx_0
      have ⟨_, _, _, _⟩ := Ly_0
      go_wp2_with fail
      refine (A1 _).mono ?_; rintro e w1 ⟨rfl, hb1⟩
      have c1 := Below.chain c0 hb1
      have Lx_1 := Lx_0.below hb1
      have Ly_1 := Ly_0.below hb1
      have c2 := Below.chain c1 (below_a1 w1 (.cells #[.int .i64 pk, .int .i64 pn, .float .f64 pf, .string ⟨#[]⟩] 28))
      have Lx_2 := Lx_1.alloc (.cells #[.int .i64 pk, .int .i64 pn, .float .f64 pf, .string ⟨#[]⟩] 28)
      have Ly_2 := Ly_1.alloc (.cells #[.int .i64 pk, .int .i64 pn, .float .f64 pf, .string ⟨#[]⟩] 28)
      have La_2 := lies_new w1 (.int .i64 pk) (.int .i64 pn) (.float .f64 pf) (.string ⟨#[]⟩) 28
      have ⟨_, _, _, _⟩ := Lx_2
      have ⟨_, _, _, _⟩ := Ly_2
      have ⟨_, _, _, _⟩ := La_2
      go_wp2_with fail
      refine (A2 _).mono ?_; rintro e w3 ⟨rfl, hb3⟩
      have c3 := Below.chain c2 hb3
      have Lx_3 := Lx_2.below hb3
      have Ly_3 := Ly_2.below hb3
      have La_3 := La_2.below hb3
      have c4 := Below.chain c3 (below_a1 w3 (.cells #[.int .i64 pk, .int .i64 pn, .float .f64 pf, .string ⟨#[]⟩] 28))
      have Lx_4 := Lx_3.alloc (.cells #[.int .i64 pk, .int .i64 pn, .float .f64 pf, .string ⟨#[]⟩] 28)
      have Ly_4 := Ly_3.alloc (.cells #[.int .i64 pk, .int .i64 pn, .float .f64 pf, .string ⟨#[]⟩] 28)
      have La_4 := La_3.alloc (.cells #[.int .i64 pk, .int .i64 pn, .float .f64 pf, .string ⟨#[]⟩] 28)
      have Lb_4 := lies_new w3 (.int .i64 pk) (.int .i64 pn) (.float .f64 pf) (.string ⟨#[]⟩) 28
      have ⟨_, _, _, _⟩ := Lx_4
      have ⟨_, _, _, _⟩ := Ly_4
      have ⟨_, _, _, _⟩ := La_4
      have ⟨_, _, _, _⟩ := Lb_4
      go_wp2_with fail
      refine (S1 _).mono ?_; rintro e w5 ⟨rfl, hb5⟩
      have c5 := Below.chain c4 hb5
      have Lx_5 := Lx_4.below hb5
      have Ly_5 := Ly_4.below hb5
      have La_5 := La_4.below hb5
      have Lb_5 := Lb_4.below hb5
      have ⟨_, _, _, _⟩ := Lx_5
      have ⟨_, _, _, _⟩ := Ly_5
      have ⟨_, _, _, _⟩ := La_5
      have ⟨_, _, _, _⟩ := Lb_5
      go_wp2_with fail
      go_roundg 1
      case measure => omega
      case rel => exact ⟨1, rfl, by go_num, c5⟩
    · have q0 := later_cell p1 ⟨wr, hb⟩
      have c0 := hb
      have Lx_0 := LxL.below hb
      have Ly_0 := LyL.below hb
      have ⟨_, _, _, _⟩ := Lx_0
      have ⟨_, _, _, _⟩ := Ly_0
      go_wp2_with fail
      refine (B1 _).mono ?_; rintro e w1 ⟨rfl, hb1⟩
      have c1 := Below.chain c0 hb1
      have Lx_1 := Lx_0.below hb1
      have Ly_1 := Ly_0.below hb1
      have c2 := Below.chain c1 (below_a1 w1 (.cells #[.int .i64 qk, .int .i64 qn, .float .f64 qf, .string ⟨#[]⟩] 28))
      have Lx_2 := Lx_1.alloc (.cells #[.int .i64 qk, .int .i64 qn, .float .f64 qf, .string ⟨#[]⟩] 28)
      have Ly_2 := Ly_1.alloc (.cells #[.int .i64 qk, .int .i64 qn, .float .f64 qf, .string ⟨#[]⟩] 28)
      have La_2 := lies_new w1 (.int .i64 qk) (.int .i64 qn) (.float .f64 qf) (.string ⟨#[]⟩) 28
      have ⟨_, _, _, _⟩ := Lx_2
      have ⟨_, _, _, _⟩ := Ly_2
      have ⟨_, _, _, _⟩ := La_2
      go_wp2_with fail
      refine (B2 _).mono ?_; rintro e w3 ⟨rfl, hb3⟩
      have c3 := Below.chain c2 hb3
      have Lx_3 := Lx_2.below hb3
      have Ly_3 := Ly_2.below hb3
      have La_3 := La_2.below hb3
      have c4 := Below.chain c3 (below_a1 w3 (.cells #[.int .i64 qk, .int .i64 qn, .float .f64 qf, .string ⟨#[]⟩] 28))
      have Lx_4 := Lx_3.alloc (.cells #[.int .i64 qk, .int .i64 qn, .float .f64 qf, .string ⟨#[]⟩] 28)
      have Ly_4 := Ly_3.alloc (.cells #[.int .i64 qk, .int .i64 qn, .float .f64 qf, .string ⟨#[]⟩] 28)
      have La_4 := La_3.alloc (.cells #[.int .i64 qk, .int .i64 qn, .float .f64 qf, .string ⟨#[]⟩] 28)
      have Lb_4 := lies_new w3 (.int .i64 qk) (.int .i64 qn) (.float .f64 qf) (.string ⟨#[]⟩) 28
      have ⟨_, _, _, _⟩ := Lx_4
      have ⟨_, _, _, _⟩ := Ly_4
      have ⟨_, _, _, _⟩ := La_4
      have ⟨_, _, _, _⟩ := Lb_4
      go_wp2_with fail
      refine (S2 _).mono ?_; rintro e w5 ⟨rfl, hb5⟩
      have c5 := Below.chain c4 hb5
      have Lx_5 := Lx_4.below hb5
      have Ly_5 := Ly_4.below hb5
      have La_5 := La_4.below hb5
      have Lb_5 := Lb_4.below hb5
      have ⟨_, _, _, _⟩ := Lx_5
      have ⟨_, _, _, _⟩ := Ly_5
      have ⟨_, _, _, _⟩ := La_5
      have ⟨_, _, _, _⟩ := Lb_5
      go_wp2_with fail
      go_roundg 0
      case measure => omega
      case rel => exact ⟨2, rfl, by go_num, c5⟩
    · have c0 := Below.chain cL hb
      have Lx_0 := LxL.below hb
      have Ly_0 := LyL.below hb
      have ⟨_, _, _, _⟩ := Lx_0
      have ⟨_, _, _, _⟩ := Ly_0
      go_wp2_with fail
      refine (D1 _).mono ?_; rintro e w1 ⟨rfl, hb1⟩
      have c1 := Below.chain c0 hb1
      have Lx_1 := Lx_0.below hb1
      have Ly_1 := Ly_0.below hb1
      have c2 := Below.chain c1 (below_a1 w1 (.cells #[.int .i64 dk, .int .i64 dn, .float .f64 df, .string ⟨#[]⟩] 28))
      have Lx_2 := Lx_1.alloc (.cells #[.int .i64 dk, .int .i64 dn, .float .f64 df, .string ⟨#[]⟩] 28)
      have Ly_2 := Ly_1.alloc (.cells #[.int .i64 dk, .int .i64 dn, .float .f64 df, .string ⟨#[]⟩] 28)
      have La_2 := lies_new w1 (.int .i64 dk) (.int .i64 dn) (.float .f64 df) (.string ⟨#[]⟩) 28
      have ⟨_, _, _, _⟩ := Lx_2
      have ⟨_, _, _, _⟩ := Ly_2
      have ⟨_, _, _, _⟩ := La_2
      go_wp2_with fail
      refine (D2 _).mono ?_; rintro e w3 ⟨rfl, hb3⟩
      have c3 := Below.chain c2 hb3
      have Lx_3 := Lx_2.below hb3
      have Ly_3 := Ly_2.below hb3
      have La_3 := La_2.below hb3
      have c4 := Below.chain c3 (below_a1 w3 (.cells #[.int .i64 ek, .int .i64 en, .float .f64 ef, .string ⟨#[]⟩] 28))
      have Lx_4 := Lx_3.alloc (.cells #[.int .i64 ek, .int .i64 en, .float .f64 ef, .string ⟨#[]⟩] 28)
      have Ly_4 := Ly_3.alloc (.cells #[.int .i64 ek, .int .i64 en, .float .f64 ef, .string ⟨#[]⟩] 28)
      have La_4 := La_3.alloc (.cells #[.int .i64 ek, .int .i64 en, .float .f64 ef, .string ⟨#[]⟩] 28)
      have Lb_4 := lies_new w3 (.int .i64 ek) (.int .i64 en) (.float .f64 ef) (.string ⟨#[]⟩) 28
      have ⟨_, _, _, _⟩ := Lx_4
      have ⟨_, _, _, _⟩ := Ly_4
      have ⟨_, _, _, _⟩ := La_4
      have ⟨_, _, _, _⟩ := Lb_4
      go_wp2_with fail
      go_ret
      refine ⟨?_, c4⟩
      first | rfl | simp
set_option maxRecDepth 100000 in
set_option maxHeartbeats 1000000 in
theorem t3 (k n k' n' : Int) (f f' : Nat) (s s' : ByteArray) (pk pn pe qk qn qe dk dn de ek en ee : Int) (pf qf df ef : Nat) (A1 : ∀ w, Calls Tryz.prog 25 #[.string ⟨#[43]⟩, .agg #[.int .i64 k, .int .i64 n, .float .f64 f, .string (cut60 s)], .agg #[.int .i64 k', .int .i64 n', .float .f64 f', .string (cut60 s')]] w fun e w' => e = .returned (.tuple #[.agg #[.int .i64 pk, .int .i64 pn, .float .f64 pf, .string ⟨#[]⟩], .int .i64 pe]) ∧ Below w.heap.size w w') (A2 : ∀ w, Calls Tryz.prog 25 #[.string ⟨#[43]⟩, .agg #[.int .i64 k', .int .i64 n', .float .f64 f', .string (cut60 s')], .agg #[.int .i64 k, .int .i64 n, .float .f64 f, .string (cut60 s)]] w fun e w' => e = .returned (.tuple #[.agg #[.int .i64 pk, .int .i64 pn, .float .f64 pf, .string ⟨#[]⟩], .int .i64 pe]) ∧ Below w.heap.size w w') (S1 : ∀ w, Calls Tryz.prog 18 #[.agg #[.int .i64 pk, .int .i64 pn, .float .f64 pf, .string ⟨#[]⟩], .agg #[.int .i64 pk, .int .i64 pn, .float .f64 pf, .string ⟨#[]⟩]] w fun e w' => e = .returned (.bool true) ∧ Below w.heap.size w w') (B1 : ∀ w, Calls Tryz.prog 25 #[.string ⟨#[42]⟩, .agg #[.int .i64 k, .int .i64 n, .float .f64 f, .string (cut60 s)], .agg #[.int .i64 k', .int .i64 n', .float .f64 f', .string (cut60 s')]] w fun e w' => e = .returned (.tuple #[.agg #[.int .i64 qk, .int .i64 qn, .float .f64 qf, .string ⟨#[]⟩], .int .i64 qe]) ∧ Below w.heap.size w w') (B2 : ∀ w, Calls Tryz.prog 25 #[.string ⟨#[42]⟩, .agg #[.int .i64 k', .int .i64 n', .float .f64 f', .string (cut60 s')], .agg #[.int .i64 k, .int .i64 n, .float .f64 f, .string (cut60 s)]] w fun e w' => e = .returned (.tuple #[.agg #[.int .i64 qk, .int .i64 qn, .float .f64 qf, .string ⟨#[]⟩], .int .i64 qe]) ∧ Below w.heap.size w w') (S2 : ∀ w, Calls Tryz.prog 18 #[.agg #[.int .i64 qk, .int .i64 qn, .float .f64 qf, .string ⟨#[]⟩], .agg #[.int .i64 qk, .int .i64 qn, .float .f64 qf, .string ⟨#[]⟩]] w fun e w' => e = .returned (.bool true) ∧ Below w.heap.size w w') (D1 : ∀ w, Calls Tryz.prog 25 #[.string ⟨#[45]⟩, .agg #[.int .i64 k, .int .i64 n, .float .f64 f, .string (cut60 s)], .agg #[.int .i64 k', .int .i64 n', .float .f64 f', .string (cut60 s')]] w fun e w' => e = .returned (.tuple #[.agg #[.int .i64 dk, .int .i64 dn, .float .f64 df, .string ⟨#[]⟩], .int .i64 de]) ∧ Below w.heap.size w w') (D2 : ∀ w, Calls Tryz.prog 25 #[.string ⟨#[45]⟩, .agg #[.int .i64 k', .int .i64 n', .float .f64 f', .string (cut60 s')], .agg #[.int .i64 k, .int .i64 n, .float .f64 f, .string (cut60 s)]] w fun e w' => e = .returned (.tuple #[.agg #[.int .i64 ek, .int .i64 en, .float .f64 ef, .string ⟨#[]⟩], .int .i64 ee]) ∧ Below w.heap.size w w') (h1 : (de != 0) = false) (h2 : (ee != 0) = false) (h3 : (dk != 2) = true) (h4 : (ek != 1) = true) (w : World) (hT : Tabs w) :
    Calls Tryz.prog 10 #[.agg #[.int .i64 k, .int .i64 n, .int .u64 (f : Int), .string s], .agg #[.int .i64 k', .int .i64 n', .int .u64 (f' : Int), .string s']] w fun e w' => e = .returned (.bool true) ∧ Below w.heap.size w w' := by
  have hsf := run_store_float
  have c0 : Below w.heap.size w ((w.alloc (.cells #[.int .i64 k, .int .i64 n, .int .u64 (f : Int), .string s] 24)).alloc (.cells #[.int .i64 k', .int .i64 n', .int .u64 (f' : Int), .string s'] 24)) := ((Below.refl w.heap.size w).alloc (by simp) _).alloc (by simp <;> omega) _
  have LB0_0 : Lies ((w.alloc (.cells #[.int .i64 k, .int .i64 n, .int .u64 (f : Int), .string s] 24)).alloc (.cells #[.int .i64 k', .int .i64 n', .int .u64 (f' : Int), .string s'] 24)) (w.heap.size) (.int .i64 k) (.int .i64 n) (.int .u64 (f : Int)) (.string s) := (lies_at w (w.heap.size) (by simp) (.int .i64 k) (.int .i64 n) (.int .u64 (f : Int)) (.string s) 24).alloc _
  have LB1_0 : Lies ((w.alloc (.cells #[.int .i64 k, .int .i64 n, .int .u64 (f : Int), .string s] 24)).alloc (.cells #[.int .i64 k', .int .i64 n', .int .u64 (f' : Int), .string s'] 24)) (w.heap.size + 1) (.int .i64 k') (.int .i64 n') (.int .u64 (f' : Int)) (.string s') := lies_at (w.alloc (.cells #[.int .i64 k, .int .i64 n, .int .u64 (f : Int), .string s] 24)) (w.heap.size + 1) (by simp) (.int .i64 k') (.int .i64 n') (.int .u64 (f' : Int)) (.string s') 24
  go_enter Tryz.func10, Tryz.ntmps10
  go_wp2_with fail
  refine (shown_any _ (hT.below c0)).mono ?_; rintro e w1 ⟨rfl, hb1⟩
  have c1 := Below.chain c0 hb1
  have LB0_1 := LB0_0.below hb1
  have LB1_1 := LB1_0.below hb1
  have ⟨_, _, _, _⟩ := LB0_1
  have ⟨_, _, _, _⟩ := LB1_1
  go_wp2_with fail
  refine (of_any k n f s _).mono ?_; rintro e w2 ⟨rfl, hb2⟩
  have c2 := Below.chain c1 hb2
  have LB0_2 := LB0_1.below hb2
  have LB1_2 := LB1_1.below hb2
  have c3 := Below.chain c2 (below_a1 w2 (.cells #[.int .i64 k, .int .i64 n, .float .f64 f, .string (cut60 s)] 28))
  have LB0_3 := LB0_2.alloc (.cells #[.int .i64 k, .int .i64 n, .float .f64 f, .string (cut60 s)] 28)
  have LB1_3 := LB1_2.alloc (.cells #[.int .i64 k, .int .i64 n, .float .f64 f, .string (cut60 s)] 28)
  have Lx_3 := lies_new w2 (.int .i64 k) (.int .i64 n) (.float .f64 f) (.string (cut60 s)) 28
  have ⟨_, _, _, _⟩ := LB0_3
  have ⟨_, _, _, _⟩ := LB1_3
  have ⟨_, _, _, _⟩ := Lx_3
  go_wp2_with fail
  refine (of_any k' n' f' s' _).mono ?_; rintro e w4 ⟨rfl, hb4⟩
  have c4 := Below.chain c3 hb4
  have LB0_4 := LB0_3.below hb4
  have LB1_4 := LB1_3.below hb4
  have Lx_4 := Lx_3.below hb4
  have c5 := Below.chain c4 (below_a1 w4 (.cells #[.int .i64 k', .int .i64 n', .float .f64 f', .string (cut60 s')] 28))
  have LB0_5 := LB0_4.alloc (.cells #[.int .i64 k', .int .i64 n', .float .f64 f', .string (cut60 s')] 28)
  have LB1_5 := LB1_4.alloc (.cells #[.int .i64 k', .int .i64 n', .float .f64 f', .string (cut60 s')] 28)
  have Lx_5 := Lx_4.alloc (.cells #[.int .i64 k', .int .i64 n', .float .f64 f', .string (cut60 s')] 28)
  have Ly_5 := lies_new w4 (.int .i64 k') (.int .i64 n') (.float .f64 f') (.string (cut60 s')) 28
  have ⟨_, _, _, _⟩ := LB0_5
  have ⟨_, _, _, _⟩ := LB1_5
  have ⟨_, _, _, _⟩ := Lx_5
  have ⟨_, _, _, _⟩ := Ly_5
  go_wp2_with fail
  have cL := Below.chain c5 (below_a1 (w4.alloc (.cells #[.int .i64 k', .int .i64 n', .float .f64 f', .string (cut60 s')] 28)) (.cells #[.string ⟨#[43]⟩, .string ⟨#[42]⟩] 9))
  have LxL := Lx_5.alloc (.cells #[.string ⟨#[43]⟩, .string ⟨#[42]⟩] 9)
  have LyL := Ly_5.alloc (.cells #[.string ⟨#[43]⟩, .string ⟨#[42]⟩] 9)
  have p0 : ((w4.alloc (.cells #[.int .i64 k', .int .i64 n', .float .f64 f', .string (cut60 s')] 28)).alloc (.cells #[.string ⟨#[43]⟩, .string ⟨#[42]⟩] 9)).cell? ⟨w4.heap.size + 1, 0, none⟩ = some (.string ⟨#[43]⟩) := by go_simp
  have p1 : ((w4.alloc (.cells #[.int .i64 k', .int .i64 n', .float .f64 f', .string (cut60 s')] 28)).alloc (.cells #[.string ⟨#[43]⟩, .string ⟨#[42]⟩] 9)).cell? ⟨w4.heap.size + 1, 1, none⟩ = some (.string ⟨#[42]⟩) := by go_simp
  go_loopg [9, 10, 11, 12, 13, 25] 2 (fun g s9 s10 s11 s12 s13 s25 wr => ∃ j : Nat, g + j = 2 ∧ s25 = .int .i64 j ∧ Below ((w4.alloc (.cells #[.int .i64 k', .int .i64 n', .float .f64 f', .string (cut60 s')] 28)).alloc (.cells #[.string ⟨#[43]⟩, .string ⟨#[42]⟩] 9)).heap.size ((w4.alloc (.cells #[.int .i64 k', .int .i64 n', .float .f64 f', .string (cut60 s')] 28)).alloc (.cells #[.string ⟨#[43]⟩, .string ⟨#[42]⟩] 9)) wr)
  case atStart => exact ⟨0, rfl, rfl, Below.refl _ _⟩
  case round =>
    obtain ⟨j, hg, rfl, hb⟩ := hrel
    have e : (gk = 2 ∧ j = 0) ∨ (gk = 1 ∧ j = 1) ∨ (gk = 0 ∧ j = 2) := by omega
    clear hg
    rcases e with ⟨rfl, rfl⟩ | ⟨rfl, rfl⟩ | ⟨rfl, rfl⟩
    · have q0 := later_cell p0 ⟨wr, hb⟩
      have c0 := hb
      have Lx_0 := LxL.below hb
      have Ly_0 := LyL.below hb
      have ⟨_, _, _, _⟩ := Lx_0
      have ⟨_, _, _, _⟩ := Ly_0
      go_wp2_with fail
      refine (A1 _).mono ?_; rintro e w1 ⟨rfl, hb1⟩
      have c1 := Below.chain c0 hb1
      have Lx_1 := Lx_0.below hb1
      have Ly_1 := Ly_0.below hb1
      have c2 := Below.chain c1 (below_a1 w1 (.cells #[.int .i64 pk, .int .i64 pn, .float .f64 pf, .string ⟨#[]⟩] 28))
      have Lx_2 := Lx_1.alloc (.cells #[.int .i64 pk, .int .i64 pn, .float .f64 pf, .string ⟨#[]⟩] 28)
      have Ly_2 := Ly_1.alloc (.cells #[.int .i64 pk, .int .i64 pn, .float .f64 pf, .string ⟨#[]⟩] 28)
      have La_2 := lies_new w1 (.int .i64 pk) (.int .i64 pn) (.float .f64 pf) (.string ⟨#[]⟩) 28
      have ⟨_, _, _, _⟩ := Lx_2
      have ⟨_, _, _, _⟩ := Ly_2
      have ⟨_, _, _, _⟩ := La_2
      go_wp2_with fail
      refine (A2 _).mono ?_; rintro e w3 ⟨rfl, hb3⟩
      have c3 := Below.chain c2 hb3
      have Lx_3 := Lx_2.below hb3
      have Ly_3 := Ly_2.below hb3
      have La_3 := La_2.below hb3
      have c4 := Below.chain c3 (below_a1 w3 (.cells #[.int .i64 pk, .int .i64 pn, .float .f64 pf, .string ⟨#[]⟩] 28))
      have Lx_4 := Lx_3.alloc (.cells #[.int .i64 pk, .int .i64 pn, .float .f64 pf, .string ⟨#[]⟩] 28)
      have Ly_4 := Ly_3.alloc (.cells #[.int .i64 pk, .int .i64 pn, .float .f64 pf, .string ⟨#[]⟩] 28)
      have La_4 := La_3.alloc (.cells #[.int .i64 pk, .int .i64 pn, .float .f64 pf, .string ⟨#[]⟩] 28)
      have Lb_4 := lies_new w3 (.int .i64 pk) (.int .i64 pn) (.float .f64 pf) (.string ⟨#[]⟩) 28
      have ⟨_, _, _, _⟩ := Lx_4
      have ⟨_, _, _, _⟩ := Ly_4
      have ⟨_, _, _, _⟩ := La_4
      have ⟨_, _, _, _⟩ := Lb_4
      go_wp2_with fail
      refine (S1 _).mono ?_; rintro e w5 ⟨rfl, hb5⟩
      have c5 := Below.chain c4 hb5
      have Lx_5 := Lx_4.below hb5
      have Ly_5 := Ly_4.below hb5
      have La_5 := La_4.below hb5
      have Lb_5 := Lb_4.below hb5
      have ⟨_, _, _, _⟩ := Lx_5
      have ⟨_, _, _, _⟩ := Ly_5
      have ⟨_, _, _, _⟩ := La_5
      have ⟨_, _, _, _⟩ := Lb_5
      go_wp2_with fail
      go_roundg 1
      case measure => omega
      case rel => exact ⟨1, rfl, by go_num, c5⟩
    · have q0 := later_cell p1 ⟨wr, hb⟩
      have c0 := hb
      have Lx_0 := LxL.below hb
      have Ly_0 := LyL.below hb
      have ⟨_, _, _, _⟩ := Lx_0
      have ⟨_, _, _, _⟩ := Ly_0
      go_wp2_with fail
      refine (B1 _).mono ?_; rintro e w1 ⟨rfl, hb1⟩
      have c1 := Below.chain c0 hb1
      have Lx_1 := Lx_0.below hb1
      have Ly_1 := Ly_0.below hb1
      have c2 := Below.chain c1 (below_a1 w1 (.cells #[.int .i64 qk, .int .i64 qn, .float .f64 qf, .string ⟨#[]⟩] 28))
      have Lx_2 := Lx_1.alloc (.cells #[.int .i64 qk, .int .i64 qn, .float .f64 qf, .string ⟨#[]⟩] 28)
      have Ly_2 := Ly_1.alloc (.cells #[.int .i64 qk, .int .i64 qn, .float .f64 qf, .string ⟨#[]⟩] 28)
      have La_2 := lies_new w1 (.int .i64 qk) (.int .i64 qn) (.float .f64 qf) (.string ⟨#[]⟩) 28
      have ⟨_, _, _, _⟩ := Lx_2
      have ⟨_, _, _, _⟩ := Ly_2
      have ⟨_, _, _, _⟩ := La_2
      go_wp2_with fail
      refine (B2 _).mono ?_; rintro e w3 ⟨rfl, hb3⟩
      have c3 := Below.chain c2 hb3
      have Lx_3 := Lx_2.below hb3
      have Ly_3 := Ly_2.below hb3
      have La_3 := La_2.below hb3
      have c4 := Below.chain c3 (below_a1 w3 (.cells #[.int .i64 qk, .int .i64 qn, .float .f64 qf, .string ⟨#[]⟩] 28))
      have Lx_4 := Lx_3.alloc (.cells #[.int .i64 qk, .int .i64 qn, .float .f64 qf, .string ⟨#[]⟩] 28)
      have Ly_4 := Ly_3.alloc (.cells #[.int .i64 qk, .int .i64 qn, .float .f64 qf, .string ⟨#[]⟩] 28)
      have La_4 := La_3.alloc (.cells #[.int .i64 qk, .int .i64 qn, .float .f64 qf, .string ⟨#[]⟩] 28)
      have Lb_4 := lies_new w3 (.int .i64 qk) (.int .i64 qn) (.float .f64 qf) (.string ⟨#[]⟩) 28
      have ⟨_, _, _, _⟩ := Lx_4
      have ⟨_, _, _, _⟩ := Ly_4
      have ⟨_, _, _, _⟩ := La_4
      have ⟨_, _, _, _⟩ := Lb_4
      go_wp2_with fail
      refine (S2 _).mono ?_; rintro e w5 ⟨rfl, hb5⟩
      have c5 := Below.chain c4 hb5
      have Lx_5 := Lx_4.below hb5
      have Ly_5 := Ly_4.below hb5
      have La_5 := La_4.below hb5
      have Lb_5 := Lb_4.below hb5
      have ⟨_, _, _, _⟩ := Lx_5
      have ⟨_, _, _, _⟩ := Ly_5
      have ⟨_, _, _, _⟩ := La_5
      have ⟨_, _, _, _⟩ := Lb_5
      go_wp2_with fail
      go_roundg 0
      case measure => omega
      case rel => exact ⟨2, rfl, by go_num, c5⟩
    · have c0 := Below.chain cL hb
      have Lx_0 := LxL.below hb
      have Ly_0 := LyL.below hb
      have ⟨_, _, _, _⟩ := Lx_0
      have ⟨_, _, _, _⟩ := Ly_0
      go_wp2_with fail
      refine (D1 _).mono ?_; rintro e w1 ⟨rfl, hb1⟩
      have c1 := Below.chain c0 hb1
      have Lx_1 := Lx_0.below hb1
      have Ly_1 := Ly_0.below hb1
      have c2 := Below.chain c1 (below_a1 w1 (.cells #[.int .i64 dk, .int .i64 dn, .float .f64 df, .string ⟨#[]⟩] 28))
      have Lx_2 := Lx_1.alloc (.cells #[.int .i64 dk, .int .i64 dn, .float .f64 df, .string ⟨#[]⟩] 28)
      have Ly_2 := Ly_1.alloc (.cells #[.int .i64 dk, .int .i64 dn, .float .f64 df, .string ⟨#[]⟩] 28)
      have La_2 := lies_new w1 (.int .i64 dk) (.int .i64 dn) (.float .f64 df) (.string ⟨#[]⟩) 28
      have ⟨_, _, _, _⟩ := Lx_2
      have ⟨_, _, _, _⟩ := Ly_2
      have ⟨_, _, _, _⟩ := La_2
      go_wp2_with fail
      refine (D2 _).mono ?_; rintro e w3 ⟨rfl, hb3⟩
      have c3 := Below.chain c2 hb3
      have Lx_3 := Lx_2.below hb3
      have Ly_3 := Ly_2.below hb3
      have La_3 := La_2.below hb3
      have c4 := Below.chain c3 (below_a1 w3 (.cells #[.int .i64 ek, .int .i64 en, .float .f64 ef, .string ⟨#[]⟩] 28))
      have Lx_4 := Lx_3.alloc (.cells #[.int .i64 ek, .int .i64 en, .float .f64 ef, .string ⟨#[]⟩] 28)
      have Ly_4 := Ly_3.alloc (.cells #[.int .i64 ek, .int .i64 en, .float .f64 ef, .string ⟨#[]⟩] 28)
      have La_4 := La_3.alloc (.cells #[.int .i64 ek, .int .i64 en, .float .f64 ef, .string ⟨#[]⟩] 28)
      have Lb_4 := lies_new w3 (.int .i64 ek) (.int .i64 en) (.float .f64 ef) (.string ⟨#[]⟩) 28
      have ⟨_, _, _, _⟩ := Lx_4
      have ⟨_, _, _, _⟩ := Ly_4
      have ⟨_, _, _, _⟩ := La_4
      have ⟨_, _, _, _⟩ := Lb_4
      go_wp2_with fail
      go_ret
      refine ⟨?_, c4⟩
      first | rfl | simp
set_option maxRecDepth 100000 in
set_option maxHeartbeats 1000000 in
theorem t4 (k n k' n' : Int) (f f' : Nat) (s s' : ByteArray) (pk pn pe qk qn qe dk dn de ek en ee : Int) (pf qf df ef : Nat) (A1 : ∀ w, Calls Tryz.prog 25 #[.string ⟨#[43]⟩, .agg #[.int .i64 k, .int .i64 n, .float .f64 f, .string (cut60 s)], .agg #[.int .i64 k', .int .i64 n', .float .f64 f', .string (cut60 s')]] w fun e w' => e = .returned (.tuple #[.agg #[.int .i64 pk, .int .i64 pn, .float .f64 pf, .string ⟨#[]⟩], .int .i64 pe]) ∧ Below w.heap.size w w') (A2 : ∀ w, Calls Tryz.prog 25 #[.string ⟨#[43]⟩, .agg #[.int .i64 k', .int .i64 n', .float .f64 f', .string (cut60 s')], .agg #[.int .i64 k, .int .i64 n, .float .f64 f, .string (cut60 s)]] w fun e w' => e = .returned (.tuple #[.agg #[.int .i64 pk, .int .i64 pn, .float .f64 pf, .string ⟨#[]⟩], .int .i64 pe]) ∧ Below w.heap.size w w') (S1 : ∀ w, Calls Tryz.prog 18 #[.agg #[.int .i64 pk, .int .i64 pn, .float .f64 pf, .string ⟨#[]⟩], .agg #[.int .i64 pk, .int .i64 pn, .float .f64 pf, .string ⟨#[]⟩]] w fun e w' => e = .returned (.bool true) ∧ Below w.heap.size w w') (B1 : ∀ w, Calls Tryz.prog 25 #[.string ⟨#[42]⟩, .agg #[.int .i64 k, .int .i64 n, .float .f64 f, .string (cut60 s)], .agg #[.int .i64 k', .int .i64 n', .float .f64 f', .string (cut60 s')]] w fun e w' => e = .returned (.tuple #[.agg #[.int .i64 qk, .int .i64 qn, .float .f64 qf, .string ⟨#[]⟩], .int .i64 qe]) ∧ Below w.heap.size w w') (B2 : ∀ w, Calls Tryz.prog 25 #[.string ⟨#[42]⟩, .agg #[.int .i64 k', .int .i64 n', .float .f64 f', .string (cut60 s')], .agg #[.int .i64 k, .int .i64 n, .float .f64 f, .string (cut60 s)]] w fun e w' => e = .returned (.tuple #[.agg #[.int .i64 qk, .int .i64 qn, .float .f64 qf, .string ⟨#[]⟩], .int .i64 qe]) ∧ Below w.heap.size w w') (S2 : ∀ w, Calls Tryz.prog 18 #[.agg #[.int .i64 qk, .int .i64 qn, .float .f64 qf, .string ⟨#[]⟩], .agg #[.int .i64 qk, .int .i64 qn, .float .f64 qf, .string ⟨#[]⟩]] w fun e w' => e = .returned (.bool true) ∧ Below w.heap.size w w') (D1 : ∀ w, Calls Tryz.prog 25 #[.string ⟨#[45]⟩, .agg #[.int .i64 k, .int .i64 n, .float .f64 f, .string (cut60 s)], .agg #[.int .i64 k', .int .i64 n', .float .f64 f', .string (cut60 s')]] w fun e w' => e = .returned (.tuple #[.agg #[.int .i64 dk, .int .i64 dn, .float .f64 df, .string ⟨#[]⟩], .int .i64 de]) ∧ Below w.heap.size w w') (D2 : ∀ w, Calls Tryz.prog 25 #[.string ⟨#[45]⟩, .agg #[.int .i64 k', .int .i64 n', .float .f64 f', .string (cut60 s')], .agg #[.int .i64 k, .int .i64 n, .float .f64 f, .string (cut60 s)]] w fun e w' => e = .returned (.tuple #[.agg #[.int .i64 ek, .int .i64 en, .float .f64 ef, .string ⟨#[]⟩], .int .i64 ee]) ∧ Below w.heap.size w w') (h1 : (de != 0) = false) (h2 : (ee != 0) = false) (h3 : (dk != 2) = false) (h5 : (wrap64 (dn + en) == 0) = true) (w : World) (hT : Tabs w) :
    Calls Tryz.prog 10 #[.agg #[.int .i64 k, .int .i64 n, .int .u64 (f : Int), .string s], .agg #[.int .i64 k', .int .i64 n', .int .u64 (f' : Int), .string s']] w fun e w' => e = .returned (.bool true) ∧ Below w.heap.size w w' := by
  have hsf := run_store_float
  have c0 : Below w.heap.size w ((w.alloc (.cells #[.int .i64 k, .int .i64 n, .int .u64 (f : Int), .string s] 24)).alloc (.cells #[.int .i64 k', .int .i64 n', .int .u64 (f' : Int), .string s'] 24)) := ((Below.refl w.heap.size w).alloc (by simp) _).alloc (by simp <;> omega) _
  have LB0_0 : Lies ((w.alloc (.cells #[.int .i64 k, .int .i64 n, .int .u64 (f : Int), .string s] 24)).alloc (.cells #[.int .i64 k', .int .i64 n', .int .u64 (f' : Int), .string s'] 24)) (w.heap.size) (.int .i64 k) (.int .i64 n) (.int .u64 (f : Int)) (.string s) := (lies_at w (w.heap.size) (by simp) (.int .i64 k) (.int .i64 n) (.int .u64 (f : Int)) (.string s) 24).alloc _
  have LB1_0 : Lies ((w.alloc (.cells #[.int .i64 k, .int .i64 n, .int .u64 (f : Int), .string s] 24)).alloc (.cells #[.int .i64 k', .int .i64 n', .int .u64 (f' : Int), .string s'] 24)) (w.heap.size + 1) (.int .i64 k') (.int .i64 n') (.int .u64 (f' : Int)) (.string s') := lies_at (w.alloc (.cells #[.int .i64 k, .int .i64 n, .int .u64 (f : Int), .string s] 24)) (w.heap.size + 1) (by simp) (.int .i64 k') (.int .i64 n') (.int .u64 (f' : Int)) (.string s') 24
  go_enter Tryz.func10, Tryz.ntmps10
  go_wp2_with fail
  refine (shown_any _ (hT.below c0)).mono ?_; rintro e w1 ⟨rfl, hb1⟩
  have c1 := Below.chain c0 hb1
  have LB0_1 := LB0_0.below hb1
  have LB1_1 := LB1_0.below hb1
  have ⟨_, _, _, _⟩ := LB0_1
  have ⟨_, _, _, _⟩ := LB1_1
  go_wp2_with fail
  refine (of_any k n f s _).mono ?_; rintro e w2 ⟨rfl, hb2⟩
  have c2 := Below.chain c1 hb2
  have LB0_2 := LB0_1.below hb2
  have LB1_2 := LB1_1.below hb2
  have c3 := Below.chain c2 (below_a1 w2 (.cells #[.int .i64 k, .int .i64 n, .float .f64 f, .string (cut60 s)] 28))
  have LB0_3 := LB0_2.alloc (.cells #[.int .i64 k, .int .i64 n, .float .f64 f, .string (cut60 s)] 28)
  have LB1_3 := LB1_2.alloc (.cells #[.int .i64 k, .int .i64 n, .float .f64 f, .string (cut60 s)] 28)
  have Lx_3 := lies_new w2 (.int .i64 k) (.int .i64 n) (.float .f64 f) (.string (cut60 s)) 28
  have ⟨_, _, _, _⟩ := LB0_3
  have ⟨_, _, _, _⟩ := LB1_3
  have ⟨_, _, _, _⟩ := Lx_3
  go_wp2_with fail
  refine (of_any k' n' f' s' _).mono ?_; rintro e w4 ⟨rfl, hb4⟩
  have c4 := Below.chain c3 hb4
  have LB0_4 := LB0_3.below hb4
  have LB1_4 := LB1_3.below hb4
  have Lx_4 := Lx_3.below hb4
  have c5 := Below.chain c4 (below_a1 w4 (.cells #[.int .i64 k', .int .i64 n', .float .f64 f', .string (cut60 s')] 28))
  have LB0_5 := LB0_4.alloc (.cells #[.int .i64 k', .int .i64 n', .float .f64 f', .string (cut60 s')] 28)
  have LB1_5 := LB1_4.alloc (.cells #[.int .i64 k', .int .i64 n', .float .f64 f', .string (cut60 s')] 28)
  have Lx_5 := Lx_4.alloc (.cells #[.int .i64 k', .int .i64 n', .float .f64 f', .string (cut60 s')] 28)
  have Ly_5 := lies_new w4 (.int .i64 k') (.int .i64 n') (.float .f64 f') (.string (cut60 s')) 28
  have ⟨_, _, _, _⟩ := LB0_5
  have ⟨_, _, _, _⟩ := LB1_5
  have ⟨_, _, _, _⟩ := Lx_5
  have ⟨_, _, _, _⟩ := Ly_5
  go_wp2_with fail
  have cL := Below.chain c5 (below_a1 (w4.alloc (.cells #[.int .i64 k', .int .i64 n', .float .f64 f', .string (cut60 s')] 28)) (.cells #[.string ⟨#[43]⟩, .string ⟨#[42]⟩] 9))
  have LxL := Lx_5.alloc (.cells #[.string ⟨#[43]⟩, .string ⟨#[42]⟩] 9)
  have LyL := Ly_5.alloc (.cells #[.string ⟨#[43]⟩, .string ⟨#[42]⟩] 9)
  have p0 : ((w4.alloc (.cells #[.int .i64 k', .int .i64 n', .float .f64 f', .string (cut60 s')] 28)).alloc (.cells #[.string ⟨#[43]⟩, .string ⟨#[42]⟩] 9)).cell? ⟨w4.heap.size + 1, 0, none⟩ = some (.string ⟨#[43]⟩) := by go_simp
  have p1 : ((w4.alloc (.cells #[.int .i64 k', .int .i64 n', .float .f64 f', .string (cut60 s')] 28)).alloc (.cells #[.string ⟨#[43]⟩, .string ⟨#[42]⟩] 9)).cell? ⟨w4.heap.size + 1, 1, none⟩ = some (.string ⟨#[42]⟩) := by go_simp
  go_loopg [9, 10, 11, 12, 13, 25] 2 (fun g s9 s10 s11 s12 s13 s25 wr => ∃ j : Nat, g + j = 2 ∧ s25 = .int .i64 j ∧ Below ((w4.alloc (.cells #[.int .i64 k', .int .i64 n', .float .f64 f', .string (cut60 s')] 28)).alloc (.cells #[.string ⟨#[43]⟩, .string ⟨#[42]⟩] 9)).heap.size ((w4.alloc (.cells #[.int .i64 k', .int .i64 n', .float .f64 f', .string (cut60 s')] 28)).alloc (.cells #[.string ⟨#[43]⟩, .string ⟨#[42]⟩] 9)) wr)
  case atStart => exact ⟨0, rfl, rfl, Below.refl _ _⟩
  case round =>
    obtain ⟨j, hg, rfl, hb⟩ := hrel
    have e : (gk = 2 ∧ j = 0) ∨ (gk = 1 ∧ j = 1) ∨ (gk = 0 ∧ j = 2) := by omega
    clear hg
    rcases e with ⟨rfl, rfl⟩ | ⟨rfl, rfl⟩ | ⟨rfl, rfl⟩
    · have q0 := later_cell p0 ⟨wr, hb⟩
      have c0 := hb
      have Lx_0 := LxL.below hb
      have Ly_0 := LyL.below hb
      have ⟨_, _, _, _⟩ := Lx_0
      have ⟨_, _, _, _⟩ := Ly_0
      go_wp2_with fail
      refine (A1 _).mono ?_; rintro e w1 ⟨rfl, hb1⟩
      have c1 := Below.chain c0 hb1
      have Lx_1 := Lx_0.below hb1
      have Ly_1 := Ly_0.below hb1
      have c2 := Below.chain c1 (below_a1 w1 (.cells #[.int .i64 pk, .int .i64 pn, .float .f64 pf, .string ⟨#[]⟩] 28))
      have Lx_2 := Lx_1.alloc (.cells #[.int .i64 pk, .int .i64 pn, .float .f64 pf, .string ⟨#[]⟩] 28)
      have Ly_2 := Ly_1.alloc (.cells #[.int .i64 pk, .int .i64 pn, .float .f64 pf, .string ⟨#[]⟩] 28)
      have La_2 := lies_new w1 (.int .i64 pk) (.int .i64 pn) (.float .f64 pf) (.string ⟨#[]⟩) 28
      have ⟨_, _, _, _⟩ := Lx_2
      have ⟨_, _, _, _⟩ := Ly_2
      have ⟨_, _, _, _⟩ := La_2
      go_wp2_with fail
      refine (A2 _).mono ?_; rintro e w3 ⟨rfl, hb3⟩
      have c3 := Below.chain c2 hb3
      have Lx_3 := Lx_2.below hb3
      have Ly_3 := Ly_2.below hb3
      have La_3 := La_2.below hb3
      have c4 := Below.chain c3 (below_a1 w3 (.cells #[.int .i64 pk, .int .i64 pn, .float .f64 pf, .string ⟨#[]⟩] 28))
      have Lx_4 := Lx_3.alloc (.cells #[.int .i64 pk, .int .i64 pn, .float .f64 pf, .string ⟨#[]⟩] 28)
      have Ly_4 := Ly_3.alloc (.cells #[.int .i64 pk, .int .i64 pn, .float .f64 pf, .string ⟨#[]⟩] 28)
      have La_4 := La_3.alloc (.cells #[.int .i64 pk, .int .i64 pn, .float .f64 pf, .string ⟨#[]⟩] 28)
      have Lb_4 := lies_new w3 (.int .i64 pk) (.int .i64 pn) (.float .f64 pf) (.string ⟨#[]⟩) 28
      have ⟨_, _, _, _⟩ := Lx_4
      have ⟨_, _, _, _⟩ := Ly_4
      have ⟨_, _, _, _⟩ := La_4
      have ⟨_, _, _, _⟩ := Lb_4
      go_wp2_with fail
      refine (S1 _).mono ?_; rintro e w5 ⟨rfl, hb5⟩
      have c5 := Below.chain c4 hb5
      have Lx_5 := Lx_4.below hb5
      have Ly_5 := Ly_4.below hb5
      have La_5 := La_4.below hb5
      have Lb_5 := Lb_4.below hb5
      have ⟨_, _, _, _⟩ := Lx_5
      have ⟨_, _, _, _⟩ := Ly_5
      have ⟨_, _, _, _⟩ := La_5
      have ⟨_, _, _, _⟩ := Lb_5
      go_wp2_with fail
      go_roundg 1
      case measure => omega
      case rel => exact ⟨1, rfl, by go_num, c5⟩
    · have q0 := later_cell p1 ⟨wr, hb⟩
      have c0 := hb
      have Lx_0 := LxL.below hb
      have Ly_0 := LyL.below hb
      have ⟨_, _, _, _⟩ := Lx_0
      have ⟨_, _, _, _⟩ := Ly_0
      go_wp2_with fail
      refine (B1 _).mono ?_; rintro e w1 ⟨rfl, hb1⟩
      have c1 := Below.chain c0 hb1
      have Lx_1 := Lx_0.below hb1
      have Ly_1 := Ly_0.below hb1
      have c2 := Below.chain c1 (below_a1 w1 (.cells #[.int .i64 qk, .int .i64 qn, .float .f64 qf, .string ⟨#[]⟩] 28))
      have Lx_2 := Lx_1.alloc (.cells #[.int .i64 qk, .int .i64 qn, .float .f64 qf, .string ⟨#[]⟩] 28)
      have Ly_2 := Ly_1.alloc (.cells #[.int .i64 qk, .int .i64 qn, .float .f64 qf, .string ⟨#[]⟩] 28)
      have La_2 := lies_new w1 (.int .i64 qk) (.int .i64 qn) (.float .f64 qf) (.string ⟨#[]⟩) 28
      have ⟨_, _, _, _⟩ := Lx_2
      have ⟨_, _, _, _⟩ := Ly_2
      have ⟨_, _, _, _⟩ := La_2
      go_wp2_with fail
      refine (B2 _).mono ?_; rintro e w3 ⟨rfl, hb3⟩
      have c3 := Below.chain c2 hb3
      have Lx_3 := Lx_2.below hb3
      have Ly_3 := Ly_2.below hb3
      have La_3 := La_2.below hb3
      have c4 := Below.chain c3 (below_a1 w3 (.cells #[.int .i64 qk, .int .i64 qn, .float .f64 qf, .string ⟨#[]⟩] 28))
      have Lx_4 := Lx_3.alloc (.cells #[.int .i64 qk, .int .i64 qn, .float .f64 qf, .string ⟨#[]⟩] 28)
      have Ly_4 := Ly_3.alloc (.cells #[.int .i64 qk, .int .i64 qn, .float .f64 qf, .string ⟨#[]⟩] 28)
      have La_4 := La_3.alloc (.cells #[.int .i64 qk, .int .i64 qn, .float .f64 qf, .string ⟨#[]⟩] 28)
      have Lb_4 := lies_new w3 (.int .i64 qk) (.int .i64 qn) (.float .f64 qf) (.string ⟨#[]⟩) 28
      have ⟨_, _, _, _⟩ := Lx_4
      have ⟨_, _, _, _⟩ := Ly_4
      have ⟨_, _, _, _⟩ := La_4
      have ⟨_, _, _, _⟩ := Lb_4
      go_wp2_with fail
      refine (S2 _).mono ?_; rintro e w5 ⟨rfl, hb5⟩
      have c5 := Below.chain c4 hb5
      have Lx_5 := Lx_4.below hb5
      have Ly_5 := Ly_4.below hb5
      have La_5 := La_4.below hb5
      have Lb_5 := Lb_4.below hb5
      have ⟨_, _, _, _⟩ := Lx_5
      have ⟨_, _, _, _⟩ := Ly_5
      have ⟨_, _, _, _⟩ := La_5
      have ⟨_, _, _, _⟩ := Lb_5
      go_wp2_with fail
      go_roundg 0
      case measure => omega
      case rel => exact ⟨2, rfl, by go_num, c5⟩
    · have c0 := Below.chain cL hb
      have Lx_0 := LxL.below hb
      have Ly_0 := LyL.below hb
      have ⟨_, _, _, _⟩ := Lx_0
      have ⟨_, _, _, _⟩ := Ly_0
      go_wp2_with fail
      refine (D1 _).mono ?_; rintro e w1 ⟨rfl, hb1⟩
      have c1 := Below.chain c0 hb1
      have Lx_1 := Lx_0.below hb1
      have Ly_1 := Ly_0.below hb1
      have c2 := Below.chain c1 (below_a1 w1 (.cells #[.int .i64 dk, .int .i64 dn, .float .f64 df, .string ⟨#[]⟩] 28))
      have Lx_2 := Lx_1.alloc (.cells #[.int .i64 dk, .int .i64 dn, .float .f64 df, .string ⟨#[]⟩] 28)
      have Ly_2 := Ly_1.alloc (.cells #[.int .i64 dk, .int .i64 dn, .float .f64 df, .string ⟨#[]⟩] 28)
      have La_2 := lies_new w1 (.int .i64 dk) (.int .i64 dn) (.float .f64 df) (.string ⟨#[]⟩) 28
      have ⟨_, _, _, _⟩ := Lx_2
      have ⟨_, _, _, _⟩ := Ly_2
      have ⟨_, _, _, _⟩ := La_2
      go_wp2_with fail
      refine (D2 _).mono ?_; rintro e w3 ⟨rfl, hb3⟩
      have c3 := Below.chain c2 hb3
      have Lx_3 := Lx_2.below hb3
      have Ly_3 := Ly_2.below hb3
      have La_3 := La_2.below hb3
      have c4 := Below.chain c3 (below_a1 w3 (.cells #[.int .i64 ek, .int .i64 en, .float .f64 ef, .string ⟨#[]⟩] 28))
      have Lx_4 := Lx_3.alloc (.cells #[.int .i64 ek, .int .i64 en, .float .f64 ef, .string ⟨#[]⟩] 28)
      have Ly_4 := Ly_3.alloc (.cells #[.int .i64 ek, .int .i64 en, .float .f64 ef, .string ⟨#[]⟩] 28)
      have La_4 := La_3.alloc (.cells #[.int .i64 ek, .int .i64 en, .float .f64 ef, .string ⟨#[]⟩] 28)
      have Lb_4 := lies_new w3 (.int .i64 ek) (.int .i64 en) (.float .f64 ef) (.string ⟨#[]⟩) 28
      have ⟨_, _, _, _⟩ := Lx_4
      have ⟨_, _, _, _⟩ := Ly_4
      have ⟨_, _, _, _⟩ := La_4
      have ⟨_, _, _, _⟩ := Lb_4
      go_wp2_with fail
      go_ret
      refine ⟨?_, c4⟩
      first | rfl | simp
theorem sum_comm (a b : Ieee.Datum) : a.sum b = b.sum a := by
  cases a <;> cases b <;> simp only [Ieee.Datum.sum]
  · rename_i s m i t n j
    rw [Int.min_comm i j, Int.add_comm, Bool.and_comm]
  · rename_i s t
    by_cases h : s = t
    · subst h; rfl
    · rw [if_neg h, if_neg (fun q => h q.symm)]
theorem product_comm (a b : Ieee.Datum) : a.product b = b.product a := by
  cases a <;> cases b <;> simp only [Ieee.Datum.product]
  · rename_i s m i t n j
    rw [Bool.xor_comm, Nat.mul_comm, Int.add_comm]
  · rw [Bool.xor_comm]
theorem arC_add (x y : Nat) : arC .add x y = arC .add y x := by
  unfold arC floatBits
  simp only [Ieee.Format.add, sum_comm]
theorem arC_mul (x y : Nat) : arC .mul x y = arC .mul y x := by
  unfold arC floatBits
  simp only [Ieee.Format.mul, product_comm]
theorem reck_comm (op : ByteArray) (h : opO op = 1 ∨ opO op = 3) (k n : Int) (f : Nat) (s : ByteArray) (k' n' : Int) (f' : Nat) (s' : ByteArray) : reckR op k' n' f' s' k n f s = reckR op k n f s k' n' f' s' := by
  have e1 : arC (fop (opO op)) (asF k' n' f') (asF k n f) = arC (fop (opO op)) (asF k n f) (asF k' n' f') := by
    rcases h with h | h <;> rw [h]
    · exact arC_add _ _
    · exact arC_mul _ _
  have e2 : iop (opO op) n' n = iop (opO op) n n' := by
    rcases h with h | h <;> rw [h]
    · exact Int.add_comm _ _
    · exact Int.mul_comm _ _
  unfold reckR
  rw [e1, e2, Bool.and_comm]
  have c1 : (opO op = 0 ∨ rightB k' n' f' s' = false ∨ rightB k n f s = false) ↔ (opO op = 0 ∨ rightB k n f s = false ∨ rightB k' n' f' s' = false) := by grind
  have c2 : (k' = 0 ∨ k = 0) ↔ (k = 0 ∨ k' = 0) := Or.comm
  have c3 : (k' = 3 ∨ k = 3) ↔ (k = 3 ∨ k' = 3) := Or.comm
  simp only [c1, c2, c3]
theorem reck_kind (op : ByteArray) (k n : Int) (f : Nat) (s : ByteArray) (k' n' : Int) (f' : Nat) (s' : ByteArray) : (reckR op k n f s k' n' f' s').1 ≠ 1 := by
  unfold reckR
  (repeat' split) <;> simp
theorem reck_sub (k n : Int) (f : Nat) (s : ByteArray) (k' n' : Int) (f' : Nat) (s' : ByteArray) (h1 : (reckR ⟨#[45]⟩ k n f s k' n' f' s').2.2.2 = 0) (h2 : (reckR ⟨#[45]⟩ k' n' f' s' k n f s).2.2.2 = 0) (h3 : (reckR ⟨#[45]⟩ k n f s k' n' f' s').1 = 2) :
    (reckR ⟨#[45]⟩ k n f s k' n' f' s').2.1 + (reckR ⟨#[45]⟩ k' n' f' s' k n f s).2.1 = 0 := by
  have e : opO ⟨#[45]⟩ = 2 := signO2.ix
  unfold reckR at h1 h2 h3 ⊢
  rw [e] at h1 h2 h3 ⊢
  have i1 : iop 2 n n' = n - n' := rfl
  have i2 : iop 2 n' n = n' - n := rfl
  rw [i1] at h1 h3 ⊢
  rw [i2] at h2 ⊢
  by_cases c1 : ((2 : Nat) = 0 ∨ rightB k n f s = false ∨ rightB k' n' f' s' = false)
  · rw [if_pos c1] at h1; simp at h1
  have c1' : ¬ ((2 : Nat) = 0 ∨ rightB k' n' f' s' = false ∨ rightB k n f s = false) := by grind
  rw [if_neg c1] at h1 h3 ⊢
  rw [if_neg c1'] at h2 ⊢
  by_cases c2 : k = 0 ∨ k' = 0
  · rw [if_pos c2] at h3; simp at h3
  have c2' : ¬ (k' = 0 ∨ k = 0) := fun q => c2 q.symm
  rw [if_neg c2] at h1 h3 ⊢
  rw [if_neg c2'] at h2 ⊢
  by_cases c3 : (numB k && numB k') = false
  · rw [if_pos c3] at h1; simp at h1
  have c3' : ¬ (numB k' && numB k) = false := by rw [Bool.and_comm]; exact c3
  rw [if_neg c3] at h1 h3 ⊢
  rw [if_neg c3'] at h2 ⊢
  by_cases c4 : k = 3 ∨ k' = 3
  · rw [if_pos c4] at h3; simp at h3
  have c4' : ¬ (k' = 3 ∨ k = 3) := fun q => c4 q.symm
  rw [if_neg c4] at h1 h3 ⊢
  rw [if_neg c4'] at h2 ⊢
  by_cases c5 : roomB (n - n') = true
  · by_cases c6 : roomB (n' - n) = true
    · rw [if_pos c5, if_pos c6]; simp; omega
    · rw [if_neg c6] at h2; simp at h2
  · rw [if_neg c5] at h1; simp at h1
theorem reck_lt (op : ByteArray) (k n : Int) (f : Nat) (s : ByteArray) (k' n' : Int) (f' : Nat) (s' : ByteArray) : (reckR op k n f s k' n' f' s').2.2.1 < 18446744073709551616 := by
  have ha : ∀ (o : BinOp) (x y : Nat), arC o x y < 18446744073709551616 := fun o x y => by
    unfold arC
    cases h : floatBits o .f64 x y with
    | none => decide
    | some r => have := floatBits_wf h; exact Flt.canon_lt (by simpa [Lit.wf] using this)
  unfold reckR
  (repeat' split) <;> first | exact ha _ _ _ | (show (0 : Nat) < 18446744073709551616; decide)
theorem walk (k n : Int) (f : Nat) (s : ByteArray) (k' n' : Int) (f' : Nat) (s' : ByteArray) (_ : -9223372036854775808 ≤ k) (_ : k ≤ 9223372036854775807) (n1 : -9223372036854775808 ≤ n) (n2 : n ≤ 9223372036854775807) (hf : f < 18446744073709551616) (hs : s.size ≤ maxLen) (_ : -9223372036854775808 ≤ k') (_ : k' ≤ 9223372036854775807) (n1' : -9223372036854775808 ≤ n') (n2' : n' ≤ 9223372036854775807) (hf' : f' < 18446744073709551616) (hs' : s'.size ≤ maxLen) (w : World) (hT : Tabs w) :
    Calls Tryz.prog 10 #[.agg #[.int .i64 k, .int .i64 n, .int .u64 (f : Int), .string s], .agg #[.int .i64 k', .int .i64 n', .int .u64 (f' : Int), .string s']] w fun e w' => e = .returned (.bool true) ∧ Below w.heap.size w w' := by
  have A1 := reck_any ⟨#[43]⟩ k n k' n' f f' (cut60 s) (cut60 s') n1 n2 n1' n2' hf hf'
  have A2 := reck_any ⟨#[43]⟩ k' n' k n f' f (cut60 s') (cut60 s) n1' n2' n1 n2 hf' hf
  rw [reck_comm ⟨#[43]⟩ (Or.inl signO1.ix)] at A2
  have B1 := reck_any ⟨#[42]⟩ k n k' n' f f' (cut60 s) (cut60 s') n1 n2 n1' n2' hf hf'
  have B2 := reck_any ⟨#[42]⟩ k' n' k n f' f (cut60 s') (cut60 s) n1' n2' n1 n2 hf' hf
  rw [reck_comm ⟨#[42]⟩ (Or.inr signO3.ix)] at B2
  have D1 := reck_any ⟨#[45]⟩ k n k' n' f f' (cut60 s) (cut60 s') n1 n2 n1' n2' hf hf'
  have D2 := reck_any ⟨#[45]⟩ k' n' k n f' f (cut60 s') (cut60 s) n1' n2' n1 n2 hf' hf
  have hk := reck_kind ⟨#[45]⟩ k' n' f' (cut60 s') k n f (cut60 s)
  have hs := reck_sub k n f (cut60 s) k' n' f' (cut60 s')
  have l1 := reck_lt ⟨#[43]⟩ k n f (cut60 s) k' n' f' (cut60 s')
  have l2 := reck_lt ⟨#[42]⟩ k n f (cut60 s) k' n' f' (cut60 s')
  generalize reckR ⟨#[43]⟩ k n f (cut60 s) k' n' f' (cut60 s') = rp at A1 A2 l1
  generalize reckR ⟨#[42]⟩ k n f (cut60 s) k' n' f' (cut60 s') = rq at B1 B2 l2
  generalize reckR ⟨#[45]⟩ k n f (cut60 s) k' n' f' (cut60 s') = rd at D1 hs
  generalize reckR ⟨#[45]⟩ k' n' f' (cut60 s') k n f (cut60 s) = re at D2 hk hs
  obtain ⟨pk, pn, pf, pe⟩ := rp
  obtain ⟨qk, qn, qf, qe⟩ := rq
  obtain ⟨dk, dn, df, de⟩ := rd
  obtain ⟨ek, en, ef, ee⟩ := re
  simp only at A1 A2 B1 B2 D1 D2 hk hs l1 l2
  have S1 := fun W => (same_any pk pn pk pn pf pf l1 l1 ⟨#[]⟩ ⟨#[]⟩ W).mono fun e w' h => ret_bool' (b := true) (by simp [idB]) h
  have S2 := fun W => (same_any qk qn qk qn qf qf l2 l2 ⟨#[]⟩ ⟨#[]⟩ W).mono fun e w' h => ret_bool' (b := true) (by simp [idB]) h
  have h4 : (ek != 1) = true := by simpa using hk
  by_cases h1 : de = 0
  · have g1 : (de != 0) = false := by simpa using h1
    by_cases h2 : ee = 0
    · have g2 : (ee != 0) = false := by simpa using h2
      by_cases h3 : dk = 2
      · exact t4 k n k' n' f f' s s' pk pn pe qk qn qe dk dn de ek en ee pf qf df ef A1 A2 S1 B1 B2 S2 D1 D2 g1 g2 (by simpa using h3) (by rw [hs h1 h2 h3]; unfold wrap64; decide) w hT
      · exact t3 k n k' n' f f' s s' pk pn pe qk qn qe dk dn de ek en ee pf qf df ef A1 A2 S1 B1 B2 S2 D1 D2 g1 g2 (by simpa using h3) h4 w hT
    · exact t2 k n k' n' f f' s s' pk pn pe qk qn qe dk dn de ek en ee pf qf df ef A1 A2 S1 B1 B2 S2 D1 D2 g1 (by simpa using h2) h4 w hT
  · exact t1 k n k' n' f f' s s' pk pn pe qk qn qe dk dn de ek en ee pf qf df ef A1 A2 S1 B1 B2 S2 D1 D2 (by simpa using h1) h4 w hT
end Go.Proofs.YtnjlcdemfdokoaaGreatDoor.ValueTurned
