/- The walk of the law ValueTrue. -/
import Derived.Test.YtnjlcdemfdokoaaGreatDoorBL
import Derived.Test.YtnjlcdemfdokoaaGreatDoorBK
namespace Go.Proofs.YtnjlcdemfdokoaaGreatDoor.ValueTrue
open Go Go.RowKit
set_option linter.unusedVariables false
set_option maxRecDepth 100000 in
set_option maxHeartbeats 4000000 in
theorem core (k n k' n' : Int) (f f' : Nat) (s s' : ByteArray) (A E A2 E2 N2 : Int) (G : Nat → Int) (p q kx ky ux uy : Bool) (hkx : (k == 3) = kx) (hky : (k' == 3) = ky) (hux : (FloatKind.f64.format.order f f != some Ordering.eq) = ux) (huy : (FloatKind.f64.format.order f' f' != some Ordering.eq) = uy) (Q1 : ∀ (j : Nat), j < 6 → ∀ (w : World), Calls Tryz.prog 23 #[.string (opAt j), .agg #[.int .i64 k, .int .i64 n, .float .f64 f, .string (cut60 s)], .agg #[.int .i64 k', .int .i64 n', .float .f64 f', .string (cut60 s')]] w fun e w' => e = .returned (.tuple #[.agg #[.int .i64 A, .int .i64 (G j), .float .f64 0, .string ⟨#[]⟩], .int .i64 E]) ∧ Below w.heap.size w w') (T2 : ∀ (w : World), Calls Tryz.prog 23 #[.string ⟨#[62]⟩, .agg #[.int .i64 k', .int .i64 n', .float .f64 f', .string (cut60 s')], .agg #[.int .i64 k, .int .i64 n, .float .f64 f, .string (cut60 s)]] w fun e w' => e = .returned (.tuple #[.agg #[.int .i64 A2, .int .i64 N2, .float .f64 0, .string ⟨#[]⟩], .int .i64 E2]) ∧ Below w.heap.size w w') (R1 : ∀ w, Calls Tryz.prog 16 #[.agg #[.int .i64 k, .int .i64 n, .float .f64 f, .string (cut60 s)]] w fun e w' => e = .returned (.bool p) ∧ Below w.heap.size w w') (R2 : ∀ w, Calls Tryz.prog 16 #[.agg #[.int .i64 k', .int .i64 n', .float .f64 f', .string (cut60 s')]] w fun e w' => e = .returned (.bool q) ∧ Below w.heap.size w w') (HD : Hid ((E = 1 ∧ A = 0 ∧ (p = false ∨ (p = true ∧ q = false))) ∨ (E = 4 ∧ A = 0) ∨ (E = 0 ∧ A = 0 ∧ ((k == 0) = true ∨ ((k == 0) = false ∧ (k' == 0) = true))) ∨ (E = 0 ∧ A = 1 ∧ E2 = 0 ∧ N2 = G 2 ∧ ((((kx = true ∧ ux = true) ∨ (kx = true ∧ ux = false ∧ ky = true ∧ uy = true) ∨ (kx = false ∧ ky = true ∧ uy = true)) ∧ G 0 = 0 ∧ G 1 = 1 ∧ G 2 = 0 ∧ G 3 = 0 ∧ G 4 = 0 ∧ G 5 = 0) ∨ (((kx = false ∨ (kx = true ∧ ux = false)) ∧ (ky = false ∨ (ky = true ∧ uy = false))) ∧ ((G 0 = 0 ∧ G 1 = 1 ∧ G 2 = 1 ∧ G 3 = 1 ∧ G 4 = 0 ∧ G 5 = 0) ∨ (G 0 = 1 ∧ G 1 = 0 ∧ G 2 = 0 ∧ G 3 = 1 ∧ G 4 = 0 ∧ G 5 = 1) ∨ (G 0 = 0 ∧ G 1 = 1 ∧ G 2 = 0 ∧ G 3 = 0 ∧ G 4 = 1 ∧ G 5 = 1)))))))  (w : World) (hT : Tabs w) :
    Calls Tryz.prog 9 #[.agg #[.int .i64 k, .int .i64 n, .int .u64 (f : Int), .string s], .agg #[.int .i64 k', .int .i64 n', .int .u64 (f' : Int), .string s']] w fun e w' => e = .returned (.bool true) ∧ Below w.heap.size w w' := by
  have hsf := run_store_float
  have c0 : Below w.heap.size w ((w.alloc (.cells #[.int .i64 k, .int .i64 n, .int .u64 (f : Int), .string s] 24)).alloc (.cells #[.int .i64 k', .int .i64 n', .int .u64 (f' : Int), .string s'] 24)) := ((Below.refl w.heap.size w).alloc (by simp) _).alloc (by simp <;> omega) _
  have LB0_0 : Lies ((w.alloc (.cells #[.int .i64 k, .int .i64 n, .int .u64 (f : Int), .string s] 24)).alloc (.cells #[.int .i64 k', .int .i64 n', .int .u64 (f' : Int), .string s'] 24)) (w.heap.size) (.int .i64 k) (.int .i64 n) (.int .u64 (f : Int)) (.string s) := (lies_at w (w.heap.size) (by simp) (.int .i64 k) (.int .i64 n) (.int .u64 (f : Int)) (.string s) 24).alloc _
  have LB1_0 : Lies ((w.alloc (.cells #[.int .i64 k, .int .i64 n, .int .u64 (f : Int), .string s] 24)).alloc (.cells #[.int .i64 k', .int .i64 n', .int .u64 (f' : Int), .string s'] 24)) (w.heap.size + 1) (.int .i64 k') (.int .i64 n') (.int .u64 (f' : Int)) (.string s') := lies_at (w.alloc (.cells #[.int .i64 k, .int .i64 n, .int .u64 (f : Int), .string s] 24)) (w.heap.size + 1) (by simp) (.int .i64 k') (.int .i64 n') (.int .u64 (f' : Int)) (.string s') 24
  go_enter Tryz.func9, Tryz.ntmps9
  go_wp2_with fail
  refine (shown_any _ (hT.below c0)).mono ?_; rintro e w1 ⟨rfl, hb1⟩
  have c1 := Below.chain c0 hb1
  have LB0_1 := LB0_0.below hb1
  have LB1_1 := LB1_0.below hb1
  have ⟨_, _, _, _⟩ := LB0_1
  have ⟨_, _, _, _⟩ := LB1_1
  go_wp2_with fail
  refine (of_any k n f s _).mono ?_; rintro e w2 ⟨rfl, hb2⟩
  have c2 := Below.chain c1 hb2
  have LB0_2 := LB0_1.below hb2
  have LB1_2 := LB1_1.below hb2
  have c3 := Below.chain c2 (below_a1 w2 (.cells #[.int .i64 k, .int .i64 n, .float .f64 f, .string (cut60 s)] 28))
  have LB0_3 := LB0_2.alloc (.cells #[.int .i64 k, .int .i64 n, .float .f64 f, .string (cut60 s)] 28)
  have LB1_3 := LB1_2.alloc (.cells #[.int .i64 k, .int .i64 n, .float .f64 f, .string (cut60 s)] 28)
  have Lx_3 := lies_new w2 (.int .i64 k) (.int .i64 n) (.float .f64 f) (.string (cut60 s)) 28
  have ⟨_, _, _, _⟩ := LB0_3
  have ⟨_, _, _, _⟩ := LB1_3
  have ⟨_, _, _, _⟩ := Lx_3
  go_wp2_with fail
  refine (of_any k' n' f' s' _).mono ?_; rintro e w4 ⟨rfl, hb4⟩
  have c4 := Below.chain c3 hb4
  have LB0_4 := LB0_3.below hb4
  have LB1_4 := LB1_3.below hb4
  have Lx_4 := Lx_3.below hb4
  have c5 := Below.chain c4 (below_a1 w4 (.cells #[.int .i64 k', .int .i64 n', .float .f64 f', .string (cut60 s')] 28))
  have Lx_5 := Lx_4.alloc (.cells #[.int .i64 k', .int .i64 n', .float .f64 f', .string (cut60 s')] 28)
  have Ly_5 := lies_new w4 (.int .i64 k') (.int .i64 n') (.float .f64 f') (.string (cut60 s')) 28
  have ⟨_, _, _, _⟩ := Lx_5
  have ⟨_, _, _, _⟩ := Ly_5
  go_wp2_with fail
  have hs1 : (w4.alloc (.cells #[.int .i64 k', .int .i64 n', .float .f64 f', .string (cut60 s')] 28)).heap.size = w4.heap.size + 1 := by simp
  have GN := Got.new (w4.alloc (.cells #[.int .i64 k', .int .i64 n', .float .f64 f', .string (cut60 s')] 28)) 45
  rw [hs1] at GN
  have cG := below_a1 (w4.alloc (.cells #[.int .i64 k', .int .i64 n', .float .f64 f', .string (cut60 s')] 28)) (.cells #[.int .i64 0, .int .i64 0, .int .i64 0, .int .i64 0, .int .i64 0, .int .i64 0] 45)
  rw [hs1] at cG
  have LxG := Lx_5.alloc (.cells #[.int .i64 0, .int .i64 0, .int .i64 0, .int .i64 0, .int .i64 0, .int .i64 0] 45)
  have LyG := Ly_5.alloc (.cells #[.int .i64 0, .int .i64 0, .int .i64 0, .int .i64 0, .int .i64 0, .int .i64 0] 45)
  have cB := c5
  clear hs1
  obtain ⟨wz, hwz⟩ : ∃ wz, wz = ((w4.alloc (.cells #[.int .i64 k', .int .i64 n', .float .f64 f', .string (cut60 s')] 28)).alloc (.cells #[.int .i64 0, .int .i64 0, .int .i64 0, .int .i64 0, .int .i64 0, .int .i64 0] 45)) := ⟨_, rfl⟩
  rw [← hwz] at cG LxG LyG GN ⊢
  have cz : Below w.heap.size w wz := by rw [hwz]; exact Below.chain cB (below_a1 _ _)
  have hzz : w4.heap.size + 1 < wz.heap.size := by rw [hwz]; simp
  clear hwz
  go_loopg [9, 10, 11] 6 (fun g s9 s10 s11 wr => ∃ (j : Nat) (h : Nat → Int), g + j = 6 ∧ s9 = .int .i64 j ∧ (j = 0 ∨ (E = 0 ∧ A = 1)) ∧ Got wr (w4.heap.size + 1) h ∧ (∀ i, i < j → h i = G i) ∧ Below (w4.heap.size + 1) (w4.alloc (.cells #[.int .i64 k', .int .i64 n', .float .f64 f', .string (cut60 s')] 28)) wr)
  case atStart => exact ⟨0, _, rfl, rfl, .inl rfl, GN, fun i hi => by omega, cG⟩
  case round =>
    obtain ⟨j, h, hg, rfl, hjE, gt, hh, hb⟩ := hrel
    have HH := Lib.hid hh
    have HGT := Lib.hid gt
    have HJE := Lib.hid hjE
    clear hh gt hjE
    have hb' := hb
    rw [show w4.heap.size + 1 = (w4.alloc (.cells #[.int .i64 k', .int .i64 n', .float .f64 f', .string (cut60 s')] 28)).heap.size by simp] at hb'
    have HX := Lib.hid (And.intro (Lx_5.below hb') (Ly_5.below hb'))
    have ⟨⟨_, _, _, _⟩, ⟨_, _, _, _⟩⟩ := HX.out
    have lx := Lib.lt_of_cell HX.out.1.1
    have ly := Lib.lt_of_cell HX.out.2.1
    simp only [] at lx ly
    have lg : w4.heap.size + 1 < wr.heap.size := Lib.lt_of_cell (HGT.out 0 (by decide)).1
    have cW := Below.chain cB hb'
    clear hb'
    by_cases hj : j < 6
    · have T1 := Q1 j hj
      clear Q1
      have ij0 : (0 : Int) ≤ (j : Int) := by omega
      have ij : (j : Int) < 6 := by omega
      have ij2 : (j : Int) < 11 := by omega
      have q1 : (wr.drew.alloc (.cells #[.string ⟨#[61]⟩, .string ⟨#[60, 62]⟩, .string ⟨#[60]⟩, .string ⟨#[60, 61]⟩, .string ⟨#[62]⟩, .string ⟨#[62, 61]⟩, .string ⟨#[43]⟩, .string ⟨#[45]⟩, .string ⟨#[42]⟩, .string ⟨#[47]⟩, .string ⟨#[]⟩] 9)).cell? ⟨wr.heap.size, j, none⟩ = some (.string (opAt j)) := opsCell wr.drew j (by omega)
      have q2 : ((wr.drew.alloc (.cells #[.int .i64 0, .int .i64 0, .float .f64 0, .string ⟨#[]⟩] 28)).alloc (.cells #[.string ⟨#[61]⟩, .string ⟨#[60, 62]⟩, .string ⟨#[60]⟩, .string ⟨#[60, 61]⟩, .string ⟨#[62]⟩, .string ⟨#[62, 61]⟩, .string ⟨#[43]⟩, .string ⟨#[45]⟩, .string ⟨#[42]⟩, .string ⟨#[47]⟩, .string ⟨#[]⟩] 9)).cell? ⟨wr.heap.size + 1, j, none⟩ = some (.string (opAt j)) := by
        have := opsCell (wr.drew.alloc (.cells #[.int .i64 0, .int .i64 0, .float .f64 0, .string ⟨#[]⟩] 28)) j (by omega)
        rw [show (wr.drew.alloc (.cells #[.int .i64 0, .int .i64 0, .float .f64 0, .string ⟨#[]⟩] 28)).heap.size = wr.heap.size + 1 by simp] at this
        exact this
      have q3 : ((wr.drew.alloc (.cells #[.string ⟨#[61]⟩, .string ⟨#[60, 62]⟩, .string ⟨#[60]⟩, .string ⟨#[60, 61]⟩, .string ⟨#[62]⟩, .string ⟨#[62, 61]⟩, .string ⟨#[43]⟩, .string ⟨#[45]⟩, .string ⟨#[42]⟩, .string ⟨#[47]⟩, .string ⟨#[]⟩] 9)).alloc (.cells #[.int .i64 0, .int .i64 0, .float .f64 0, .string ⟨#[]⟩] 28)).cell? ⟨wr.heap.size, j, none⟩ = some (.string (opAt j)) := later_cell q1 ⟨_, below_a1 _ _⟩
      have q4 : (#[.string ⟨#[61]⟩, .string ⟨#[60, 62]⟩, .string ⟨#[60]⟩, .string ⟨#[60, 61]⟩, .string ⟨#[62]⟩, .string ⟨#[62, 61]⟩, .string ⟨#[43]⟩, .string ⟨#[45]⟩, .string ⟨#[42]⟩, .string ⟨#[47]⟩, .string ⟨#[]⟩] : Array Value)[j]? = some (.string (opAt j)) := opsArr j (by omega)
      have q5 : ([.string ⟨#[61]⟩, .string ⟨#[60, 62]⟩, .string ⟨#[60]⟩, .string ⟨#[60, 61]⟩, .string ⟨#[62]⟩, .string ⟨#[62, 61]⟩, .string ⟨#[43]⟩, .string ⟨#[45]⟩, .string ⟨#[42]⟩, .string ⟨#[47]⟩, .string ⟨#[]⟩] : List Value)[j]? = some (.string (opAt j)) := opsLst j (by omega)
      obtain ⟨o, ho⟩ : ∃ o, o = opAt j := ⟨_, rfl⟩
      rw [← ho] at q1 q2 q3 q4 q5 T1
      clear ho
      have HKX := Lib.hid hkx
      have HKY := Lib.hid hky
      have HUX := Lib.hid hux
      have HUY := Lib.hid huy
      clear hkx hky hux huy
      go_upto_region 8 with fail
      go_cut [10, 11] (fun sp se wx => ∃ b, sp = .pointer (some ⟨b, 0, none⟩) ∧ se = .int .i64 E ∧ Lies wx b (.int .i64 A) (.int .i64 (G j)) (.float .f64 0) (.string ⟨#[]⟩) ∧ Below wr.heap.size wr wx)
      case first =>
        have LZ1 : Lies ((wr.alloc (.cells #[.string ⟨#[61]⟩, .string ⟨#[60, 62]⟩, .string ⟨#[60]⟩, .string ⟨#[60, 61]⟩, .string ⟨#[62]⟩, .string ⟨#[62, 61]⟩, .string ⟨#[43]⟩, .string ⟨#[45]⟩, .string ⟨#[42]⟩, .string ⟨#[47]⟩, .string ⟨#[]⟩] 9)).alloc (.cells #[.int .i64 0, .int .i64 0, .float .f64 0, .string ⟨#[]⟩] 28)).drew (wr.heap.size + 1) (.int .i64 0) (.int .i64 0) (.float .f64 0) (.string ⟨#[]⟩) := Lies.drew (lies_at (wr.alloc (.cells #[.string ⟨#[61]⟩, .string ⟨#[60, 62]⟩, .string ⟨#[60]⟩, .string ⟨#[60, 61]⟩, .string ⟨#[62]⟩, .string ⟨#[62, 61]⟩, .string ⟨#[43]⟩, .string ⟨#[45]⟩, .string ⟨#[42]⟩, .string ⟨#[47]⟩, .string ⟨#[]⟩] 9)) _ (by simp) _ _ _ _ _)
        have LZ2 : Lies ((wr.alloc (.cells #[.int .i64 0, .int .i64 0, .float .f64 0, .string ⟨#[]⟩] 28)).alloc (.cells #[.string ⟨#[61]⟩, .string ⟨#[60, 62]⟩, .string ⟨#[60]⟩, .string ⟨#[60, 61]⟩, .string ⟨#[62]⟩, .string ⟨#[62, 61]⟩, .string ⟨#[43]⟩, .string ⟨#[45]⟩, .string ⟨#[42]⟩, .string ⟨#[47]⟩, .string ⟨#[]⟩] 9)).drew wr.heap.size (.int .i64 0) (.int .i64 0) (.float .f64 0) (.string ⟨#[]⟩) := Lies.drew ((lies_new wr _ _ _ _ _).alloc _)
        have BZ0 : Below wr.heap.size wr (wr.alloc (.cells #[.string ⟨#[61]⟩, .string ⟨#[60, 62]⟩, .string ⟨#[60]⟩, .string ⟨#[60, 61]⟩, .string ⟨#[62]⟩, .string ⟨#[62, 61]⟩, .string ⟨#[43]⟩, .string ⟨#[45]⟩, .string ⟨#[42]⟩, .string ⟨#[47]⟩, .string ⟨#[]⟩] 9)).drew := (below_a1 _ _).drew
        have BZ1 : Below wr.heap.size wr ((wr.alloc (.cells #[.string ⟨#[61]⟩, .string ⟨#[60, 62]⟩, .string ⟨#[60]⟩, .string ⟨#[60, 61]⟩, .string ⟨#[62]⟩, .string ⟨#[62, 61]⟩, .string ⟨#[43]⟩, .string ⟨#[45]⟩, .string ⟨#[42]⟩, .string ⟨#[47]⟩, .string ⟨#[]⟩] 9)).alloc (.cells #[.int .i64 0, .int .i64 0, .float .f64 0, .string ⟨#[]⟩] 28)).drew := (below_a2 _ _ _).drew
        have BZ2 : Below wr.heap.size wr ((wr.alloc (.cells #[.int .i64 0, .int .i64 0, .float .f64 0, .string ⟨#[]⟩] 28)).alloc (.cells #[.string ⟨#[61]⟩, .string ⟨#[60, 62]⟩, .string ⟨#[60]⟩, .string ⟨#[60, 61]⟩, .string ⟨#[62]⟩, .string ⟨#[62, 61]⟩, .string ⟨#[43]⟩, .string ⟨#[45]⟩, .string ⟨#[42]⟩, .string ⟨#[47]⟩, .string ⟨#[]⟩] 9)).drew := (below_a2 _ _ _).drew
        refine wp_region_noPanic ?_
        refine wp_region_held_drew (S := fun W => (W.cell? ⟨w2.heap.size, 0, none⟩ = some (.int .i64 k) ∧ W.cell? ⟨w2.heap.size, 1, none⟩ = some (.int .i64 n) ∧ W.cell? ⟨w2.heap.size, 2, none⟩ = some (.float .f64 f) ∧ W.cell? ⟨w2.heap.size, 3, none⟩ = some (.string (cut60 s))) ∧ W.cell? ⟨w4.heap.size, 0, none⟩ = some (.int .i64 k') ∧ W.cell? ⟨w4.heap.size, 1, none⟩ = some (.int .i64 n') ∧ W.cell? ⟨w4.heap.size, 2, none⟩ = some (.float .f64 f') ∧ W.cell? ⟨w4.heap.size, 3, none⟩ = some (.string (cut60 s'))) (by kernel_rfl) ?_ (fun hHeld => ?_)
        · (try dsimp only)
          (refine k8 HX.out ?_; first | exact Below.drew (Below.refl _ _) | exact Below.alloc (Below.drew (Below.refl _ _)) (by simp) _ | exact Below.alloc (Below.alloc (Below.drew (Below.refl _ _)) (by simp) _) (by simp <;> omega) _ | (refine Below.chain ?_ hba; first | exact Below.alloc (Below.drew (Below.refl _ _)) (by simp) _ | exact Below.alloc (Below.alloc (Below.drew (Below.refl _ _)) (by simp) _) (by simp <;> omega) _) | (refine Below.chain (Below.chain ?_ hba) (below_a1 _ _); first | exact Below.alloc (Below.drew (Below.refl _ _)) (by simp) _ | exact Below.alloc (Below.alloc (Below.drew (Below.refl _ _)) (by simp) _) (by simp <;> omega) _) | (refine below_set4 ?_ (by first | exact Nat.le_refl _ | (simp; done) | (simp; omega) | (have := hba.size; simp at this; omega)) _ _ _ _; first | (refine Below.chain ?_ hba; first | exact Below.alloc (Below.drew (Below.refl _ _)) (by simp) _ | exact Below.alloc (Below.alloc (Below.drew (Below.refl _ _)) (by simp) _) (by simp <;> omega) _) | (refine Below.chain (Below.chain ?_ hba) (below_a1 _ _); first | exact Below.alloc (Below.drew (Below.refl _ _)) (by simp) _ | exact Below.alloc (Below.alloc (Below.drew (Below.refl _ _)) (by simp) _) (by simp <;> omega) _)))
        refine wpAnyH_take (i := 1) (oi := { dst := some 26, op := _, type := _, pos := _, after := _, guard := _ }) (v := ?_) rfl (by kernel_rfl) (by kernel_rfl) (by kernel_rfl) (fun _ _ _ h => h) (Or.inl ⟨by rfl, ?_⟩) (by assumption) ?_
        rotate_left
        focus (intro W hSw; (try dsimp only at hSw); go_simp; try with_reducible rfl)
        try simp only [Act.put, List.setIfInBounds_toArray, List.set_cons_zero, List.set_cons_succ]
        refine wpAnyH_take (i := 4) (oi := { dst := some 29, op := _, type := _, pos := _, after := _, guard := _ }) (v := ?_) rfl (by kernel_rfl) (by kernel_rfl) (by kernel_rfl) (fun _ _ _ h => h) (Or.inl ⟨by rfl, ?_⟩) (by assumption) ?_
        rotate_left
        focus (intro W hSw; (try dsimp only at hSw); go_simp; try with_reducible rfl)
        try simp only [Act.put, List.setIfInBounds_toArray, List.set_cons_zero, List.set_cons_succ]
        refine wpAnyH_take (i := 5) (oi := { dst := some 30, op := _, type := _, pos := _, after := _, guard := _ }) (v := ?_) rfl (by kernel_rfl) (by kernel_rfl) (by kernel_rfl) (fun _ _ _ h => h) (Or.inl ⟨by rfl, ?_⟩) (by assumption) ?_
        rotate_left
        focus (intro W hSw; (try dsimp only at hSw); go_simp; try with_reducible rfl)
        try simp only [Act.put, List.setIfInBounds_toArray, List.set_cons_zero, List.set_cons_succ]
        refine wpAnyH_ready (rs := [0, 10]) (by kernel_rfl) (by simp) ?_
        refine AllReadyH.cons (o := _) rfl (fun K hK => ?_) ?_
        · skip
          go_simp
          ((with_reducible refine (ops_any _).mono ?_); rintro e wo ⟨rfl, rfl⟩)
          try go_wp2_with fail
          refine hK.out _ _ ?_ (fun hHeld => ?_)
          · (try dsimp only)
            (refine k8 HX.out ?_; first | exact Below.drew (Below.refl _ _) | exact Below.alloc (Below.drew (Below.refl _ _)) (by simp) _ | exact Below.alloc (Below.alloc (Below.drew (Below.refl _ _)) (by simp) _) (by simp <;> omega) _ | (refine Below.chain ?_ hba; first | exact Below.alloc (Below.drew (Below.refl _ _)) (by simp) _ | exact Below.alloc (Below.alloc (Below.drew (Below.refl _ _)) (by simp) _) (by simp <;> omega) _) | (refine Below.chain (Below.chain ?_ hba) (below_a1 _ _); first | exact Below.alloc (Below.drew (Below.refl _ _)) (by simp) _ | exact Below.alloc (Below.alloc (Below.drew (Below.refl _ _)) (by simp) _) (by simp <;> omega) _) | (refine below_set4 ?_ (by first | exact Nat.le_refl _ | (simp; done) | (simp; omega) | (have := hba.size; simp at this; omega)) _ _ _ _; first | (refine Below.chain ?_ hba; first | exact Below.alloc (Below.drew (Below.refl _ _)) (by simp) _ | exact Below.alloc (Below.alloc (Below.drew (Below.refl _ _)) (by simp) _) (by simp <;> omega) _) | (refine Below.chain (Below.chain ?_ hba) (below_a1 _ _); first | exact Below.alloc (Below.drew (Below.refl _ _)) (by simp) _ | exact Below.alloc (Below.alloc (Below.drew (Below.refl _ _)) (by simp) _) (by simp <;> omega) _)))
          clear hK K
          try simp only [Act.put, List.setIfInBounds_toArray, List.set_cons_zero, List.set_cons_succ]
          refine wpAnyH_take (i := 2) (oi := { dst := some 27, op := _, type := _, pos := _, after := _, guard := _ }) (v := ?_) rfl (by kernel_rfl) (by kernel_rfl) (by kernel_rfl) (fun _ _ _ h => h) (Or.inl ⟨by rfl, ?_⟩) (by assumption) ?_
          rotate_left
          focus (intro W hSw; (try dsimp only at hSw); go_simp; try with_reducible rfl)
          try simp only [Act.put, List.setIfInBounds_toArray, List.set_cons_zero, List.set_cons_succ]
          refine wpAnyH_ready (rs := [3, 10]) (by kernel_rfl) (by simp) ?_
          refine AllReadyH.cons (o := _) rfl (fun K hK => ?_) ?_
          · skip
            go_simp
            refine hK.out _ _ ?_ (fun hHeld => ?_)
            · (try dsimp only)
              (refine k8 HX.out ?_; first | exact Below.drew (Below.refl _ _) | exact Below.alloc (Below.drew (Below.refl _ _)) (by simp) _ | exact Below.alloc (Below.alloc (Below.drew (Below.refl _ _)) (by simp) _) (by simp <;> omega) _ | (refine Below.chain ?_ hba; first | exact Below.alloc (Below.drew (Below.refl _ _)) (by simp) _ | exact Below.alloc (Below.alloc (Below.drew (Below.refl _ _)) (by simp) _) (by simp <;> omega) _) | (refine Below.chain (Below.chain ?_ hba) (below_a1 _ _); first | exact Below.alloc (Below.drew (Below.refl _ _)) (by simp) _ | exact Below.alloc (Below.alloc (Below.drew (Below.refl _ _)) (by simp) _) (by simp <;> omega) _) | (refine below_set4 ?_ (by first | exact Nat.le_refl _ | (simp; done) | (simp; omega) | (have := hba.size; simp at this; omega)) _ _ _ _; first | (refine Below.chain ?_ hba; first | exact Below.alloc (Below.drew (Below.refl _ _)) (by simp) _ | exact Below.alloc (Below.alloc (Below.drew (Below.refl _ _)) (by simp) _) (by simp <;> omega) _) | (refine Below.chain (Below.chain ?_ hba) (below_a1 _ _); first | exact Below.alloc (Below.drew (Below.refl _ _)) (by simp) _ | exact Below.alloc (Below.alloc (Below.drew (Below.refl _ _)) (by simp) _) (by simp <;> omega) _)))
            clear hK K
            try simp only [Act.put, List.setIfInBounds_toArray, List.set_cons_zero, List.set_cons_succ]
            refine wpAnyH_ready (rs := [6, 10]) (by kernel_rfl) (by simp) ?_
            refine AllReadyH.cons (o := _) rfl (fun K hK => ?_) ?_
            · skip
              go_simp
              ((with_reducible refine (T1 _).mono ?_); rintro e wa ⟨rfl, hba⟩; obtain ⟨hcA, hfA⟩ := bcell hba)
              try go_wp2_with fail
              refine hK.out _ _ ?_ (fun hHeld => ?_)
              · (try dsimp only)
                (refine k8 HX.out ?_; first | exact Below.drew (Below.refl _ _) | exact Below.alloc (Below.drew (Below.refl _ _)) (by simp) _ | exact Below.alloc (Below.alloc (Below.drew (Below.refl _ _)) (by simp) _) (by simp <;> omega) _ | (refine Below.chain ?_ hba; first | exact Below.alloc (Below.drew (Below.refl _ _)) (by simp) _ | exact Below.alloc (Below.alloc (Below.drew (Below.refl _ _)) (by simp) _) (by simp <;> omega) _) | (refine Below.chain (Below.chain ?_ hba) (below_a1 _ _); first | exact Below.alloc (Below.drew (Below.refl _ _)) (by simp) _ | exact Below.alloc (Below.alloc (Below.drew (Below.refl _ _)) (by simp) _) (by simp <;> omega) _) | (refine below_set4 ?_ (by first | exact Nat.le_refl _ | (simp; done) | (simp; omega) | (have := hba.size; simp at this; omega)) _ _ _ _; first | (refine Below.chain ?_ hba; first | exact Below.alloc (Below.drew (Below.refl _ _)) (by simp) _ | exact Below.alloc (Below.alloc (Below.drew (Below.refl _ _)) (by simp) _) (by simp <;> omega) _) | (refine Below.chain (Below.chain ?_ hba) (below_a1 _ _); first | exact Below.alloc (Below.drew (Below.refl _ _)) (by simp) _ | exact Below.alloc (Below.alloc (Below.drew (Below.refl _ _)) (by simp) _) (by simp <;> omega) _)))
              clear hK K
              try simp only [Act.put, List.setIfInBounds_toArray, List.set_cons_zero, List.set_cons_succ]
              refine wpAnyH_take (i := 7) (oi := { dst := some 24, op := _, type := _, pos := _, after := _, guard := _ }) (v := ?_) rfl (by kernel_rfl) (by kernel_rfl) (by kernel_rfl) (fun _ _ _ h => h) (Or.inl ⟨by rfl, ?_⟩) (by assumption) ?_
              rotate_left
              focus (intro W hSw; (try dsimp only at hSw); go_simp; try with_reducible rfl)
              try simp only [Act.put, List.setIfInBounds_toArray, List.set_cons_zero, List.set_cons_succ]
              refine wpAnyH_take (i := 8) (oi := { dst := some 32, op := _, type := _, pos := _, after := _, guard := _ }) (v := ?_) rfl (by kernel_rfl) (by kernel_rfl) (by kernel_rfl) (fun _ _ _ h => h) (Or.inl ⟨by rfl, ?_⟩) (by assumption) ?_
              rotate_left
              focus (intro W hSw; (try dsimp only at hSw); go_simp; try with_reducible rfl)
              try simp only [Act.put, List.setIfInBounds_toArray, List.set_cons_zero, List.set_cons_succ]
              refine wpAnyH_take (i := 9) (oi := { dst := some 33, op := _, type := _, pos := _, after := _, guard := _ }) (v := ?_) rfl (by kernel_rfl) (by kernel_rfl) (by kernel_rfl) (fun _ _ _ h => h) (Or.inl ⟨by rfl, ?_⟩) (by assumption) ?_
              rotate_left
              focus (intro W hSw; (try dsimp only at hSw); go_simp; try with_reducible rfl)
              try simp only [Act.put, List.setIfInBounds_toArray, List.set_cons_zero, List.set_cons_succ]
              refine wpAnyH_ready (rs := [10]) (by kernel_rfl) (by simp) ?_
              refine AllReadyH.cons (o := _) rfl (fun K hK => ?_) ?_
              · skip
                go_simp
                refine hK.out _ _ ?_ (fun hHeld => ?_)
                · (try dsimp only)
                  (refine k8 HX.out ?_; first | exact Below.drew (Below.refl _ _) | exact Below.alloc (Below.drew (Below.refl _ _)) (by simp) _ | exact Below.alloc (Below.alloc (Below.drew (Below.refl _ _)) (by simp) _) (by simp <;> omega) _ | (refine Below.chain ?_ hba; first | exact Below.alloc (Below.drew (Below.refl _ _)) (by simp) _ | exact Below.alloc (Below.alloc (Below.drew (Below.refl _ _)) (by simp) _) (by simp <;> omega) _) | (refine Below.chain (Below.chain ?_ hba) (below_a1 _ _); first | exact Below.alloc (Below.drew (Below.refl _ _)) (by simp) _ | exact Below.alloc (Below.alloc (Below.drew (Below.refl _ _)) (by simp) _) (by simp <;> omega) _) | (refine below_set4 ?_ (by first | exact Nat.le_refl _ | (simp; done) | (simp; omega) | (have := hba.size; simp at this; omega)) _ _ _ _; first | (refine Below.chain ?_ hba; first | exact Below.alloc (Below.drew (Below.refl _ _)) (by simp) _ | exact Below.alloc (Below.alloc (Below.drew (Below.refl _ _)) (by simp) _) (by simp <;> omega) _) | (refine Below.chain (Below.chain ?_ hba) (below_a1 _ _); first | exact Below.alloc (Below.drew (Below.refl _ _)) (by simp) _ | exact Below.alloc (Below.alloc (Below.drew (Below.refl _ _)) (by simp) _) (by simp <;> omega) _)))
                clear hK K
                try simp only [Act.put, List.setIfInBounds_toArray, List.set_cons_zero, List.set_cons_succ]
                refine wpAnyH_ready (rs := [11]) (by kernel_rfl) (by simp) ?_
                refine AllReadyH.cons (o := _) rfl (fun K hK => ?_) ?_
                · skip
                  go_simp
                  refine hK.out _ _ ?_ (fun hHeld => ?_)
                  · (try dsimp only)
                    (refine k8 HX.out ?_; first | exact Below.drew (Below.refl _ _) | exact Below.alloc (Below.drew (Below.refl _ _)) (by simp) _ | exact Below.alloc (Below.alloc (Below.drew (Below.refl _ _)) (by simp) _) (by simp <;> omega) _ | (refine Below.chain ?_ hba; first | exact Below.alloc (Below.drew (Below.refl _ _)) (by simp) _ | exact Below.alloc (Below.alloc (Below.drew (Below.refl _ _)) (by simp) _) (by simp <;> omega) _) | (refine Below.chain (Below.chain ?_ hba) (below_a1 _ _); first | exact Below.alloc (Below.drew (Below.refl _ _)) (by simp) _ | exact Below.alloc (Below.alloc (Below.drew (Below.refl _ _)) (by simp) _) (by simp <;> omega) _) | (refine below_set4 ?_ (by first | exact Nat.le_refl _ | (simp; done) | (simp; omega) | (have := hba.size; simp at this; omega)) _ _ _ _; first | (refine Below.chain ?_ hba; first | exact Below.alloc (Below.drew (Below.refl _ _)) (by simp) _ | exact Below.alloc (Below.alloc (Below.drew (Below.refl _ _)) (by simp) _) (by simp <;> omega) _) | (refine Below.chain (Below.chain ?_ hba) (below_a1 _ _); first | exact Below.alloc (Below.drew (Below.refl _ _)) (by simp) _ | exact Below.alloc (Below.alloc (Below.drew (Below.refl _ _)) (by simp) _) (by simp <;> omega) _)))
                  clear hK K
                  try simp only [Act.put, List.setIfInBounds_toArray, List.set_cons_zero, List.set_cons_succ]
                  refine wpAnyH_take (i := 12) (oi := { dst := some 11, op := _, type := _, pos := _, after := _, guard := _ }) (v := ?_) rfl (by kernel_rfl) (by kernel_rfl) (by kernel_rfl) (fun _ _ _ h => h) (Or.inl ⟨by rfl, ?_⟩) (by assumption) ?_
                  rotate_left
                  focus (intro W hSw; (try dsimp only at hSw); go_simp; try with_reducible rfl)
                  try simp only [Act.put, List.setIfInBounds_toArray, List.set_cons_zero, List.set_cons_succ]
                  refine wpAnyH_done (by kernel_rfl) ?_ _
                  refine NoPanic.normal ?_
                  go_wp2_with fail
                  go_meet
                  refine ⟨_, rfl, rfl, ?_, ?_⟩
                  · first | with_reducible exact lies_new _ _ _ _ _ _ | with_reducible exact (LZ1.below hba).set _ _ _ _ | with_reducible exact (LZ2.below hba).set _ _ _ _
                  · first | with_reducible exact Below.chain (Below.chain BZ0 hba) (below_a1 _ _) | with_reducible exact below_set4 (Below.chain BZ1 hba) (by omega) _ _ _ _ | with_reducible exact below_set4 (Below.chain BZ2 hba) (by omega) _ _ _ _
                exact AllReadyH.nil
              exact AllReadyH.nil
            refine AllReadyH.cons (o := _) rfl (fun K hK => ?_) ?_
            · skip
              go_simp
              refine hK.out _ _ ?_ (fun hHeld => ?_)
              · (try dsimp only)
                (refine k8 HX.out ?_; first | exact Below.drew (Below.refl _ _) | exact Below.alloc (Below.drew (Below.refl _ _)) (by simp) _ | exact Below.alloc (Below.alloc (Below.drew (Below.refl _ _)) (by simp) _) (by simp <;> omega) _ | (refine Below.chain ?_ hba; first | exact Below.alloc (Below.drew (Below.refl _ _)) (by simp) _ | exact Below.alloc (Below.alloc (Below.drew (Below.refl _ _)) (by simp) _) (by simp <;> omega) _) | (refine Below.chain (Below.chain ?_ hba) (below_a1 _ _); first | exact Below.alloc (Below.drew (Below.refl _ _)) (by simp) _ | exact Below.alloc (Below.alloc (Below.drew (Below.refl _ _)) (by simp) _) (by simp <;> omega) _) | (refine below_set4 ?_ (by first | exact Nat.le_refl _ | (simp; done) | (simp; omega) | (have := hba.size; simp at this; omega)) _ _ _ _; first | (refine Below.chain ?_ hba; first | exact Below.alloc (Below.drew (Below.refl _ _)) (by simp) _ | exact Below.alloc (Below.alloc (Below.drew (Below.refl _ _)) (by simp) _) (by simp <;> omega) _) | (refine Below.chain (Below.chain ?_ hba) (below_a1 _ _); first | exact Below.alloc (Below.drew (Below.refl _ _)) (by simp) _ | exact Below.alloc (Below.alloc (Below.drew (Below.refl _ _)) (by simp) _) (by simp <;> omega) _)))
              clear hK K
              try simp only [Act.put, List.setIfInBounds_toArray, List.set_cons_zero, List.set_cons_succ]
              refine wpAnyH_ready (rs := [6]) (by kernel_rfl) (by simp) ?_
              refine AllReadyH.cons (o := _) rfl (fun K hK => ?_) ?_
              · skip
                go_simp
                ((with_reducible refine (T1 _).mono ?_); rintro e wa ⟨rfl, hba⟩; obtain ⟨hcA, hfA⟩ := bcell hba)
                try go_wp2_with fail
                refine hK.out _ _ ?_ (fun hHeld => ?_)
                · (try dsimp only)
                  (refine k8 HX.out ?_; first | exact Below.drew (Below.refl _ _) | exact Below.alloc (Below.drew (Below.refl _ _)) (by simp) _ | exact Below.alloc (Below.alloc (Below.drew (Below.refl _ _)) (by simp) _) (by simp <;> omega) _ | (refine Below.chain ?_ hba; first | exact Below.alloc (Below.drew (Below.refl _ _)) (by simp) _ | exact Below.alloc (Below.alloc (Below.drew (Below.refl _ _)) (by simp) _) (by simp <;> omega) _) | (refine Below.chain (Below.chain ?_ hba) (below_a1 _ _); first | exact Below.alloc (Below.drew (Below.refl _ _)) (by simp) _ | exact Below.alloc (Below.alloc (Below.drew (Below.refl _ _)) (by simp) _) (by simp <;> omega) _) | (refine below_set4 ?_ (by first | exact Nat.le_refl _ | (simp; done) | (simp; omega) | (have := hba.size; simp at this; omega)) _ _ _ _; first | (refine Below.chain ?_ hba; first | exact Below.alloc (Below.drew (Below.refl _ _)) (by simp) _ | exact Below.alloc (Below.alloc (Below.drew (Below.refl _ _)) (by simp) _) (by simp <;> omega) _) | (refine Below.chain (Below.chain ?_ hba) (below_a1 _ _); first | exact Below.alloc (Below.drew (Below.refl _ _)) (by simp) _ | exact Below.alloc (Below.alloc (Below.drew (Below.refl _ _)) (by simp) _) (by simp <;> omega) _)))
                clear hK K
                try simp only [Act.put, List.setIfInBounds_toArray, List.set_cons_zero, List.set_cons_succ]
                refine wpAnyH_take (i := 7) (oi := { dst := some 24, op := _, type := _, pos := _, after := _, guard := _ }) (v := ?_) rfl (by kernel_rfl) (by kernel_rfl) (by kernel_rfl) (fun _ _ _ h => h) (Or.inl ⟨by rfl, ?_⟩) (by assumption) ?_
                rotate_left
                focus (intro W hSw; (try dsimp only at hSw); go_simp; try with_reducible rfl)
                try simp only [Act.put, List.setIfInBounds_toArray, List.set_cons_zero, List.set_cons_succ]
                refine wpAnyH_take (i := 8) (oi := { dst := some 32, op := _, type := _, pos := _, after := _, guard := _ }) (v := ?_) rfl (by kernel_rfl) (by kernel_rfl) (by kernel_rfl) (fun _ _ _ h => h) (Or.inl ⟨by rfl, ?_⟩) (by assumption) ?_
                rotate_left
                focus (intro W hSw; (try dsimp only at hSw); go_simp; try with_reducible rfl)
                try simp only [Act.put, List.setIfInBounds_toArray, List.set_cons_zero, List.set_cons_succ]
                refine wpAnyH_take (i := 9) (oi := { dst := some 33, op := _, type := _, pos := _, after := _, guard := _ }) (v := ?_) rfl (by kernel_rfl) (by kernel_rfl) (by kernel_rfl) (fun _ _ _ h => h) (Or.inl ⟨by rfl, ?_⟩) (by assumption) ?_
                rotate_left
                focus (intro W hSw; (try dsimp only at hSw); go_simp; try with_reducible rfl)
                try simp only [Act.put, List.setIfInBounds_toArray, List.set_cons_zero, List.set_cons_succ]
                refine wpAnyH_ready (rs := [11]) (by kernel_rfl) (by simp) ?_
                refine AllReadyH.cons (o := _) rfl (fun K hK => ?_) ?_
                · skip
                  go_simp
                  refine hK.out _ _ ?_ (fun hHeld => ?_)
                  · (try dsimp only)
                    (refine k8 HX.out ?_; first | exact Below.drew (Below.refl _ _) | exact Below.alloc (Below.drew (Below.refl _ _)) (by simp) _ | exact Below.alloc (Below.alloc (Below.drew (Below.refl _ _)) (by simp) _) (by simp <;> omega) _ | (refine Below.chain ?_ hba; first | exact Below.alloc (Below.drew (Below.refl _ _)) (by simp) _ | exact Below.alloc (Below.alloc (Below.drew (Below.refl _ _)) (by simp) _) (by simp <;> omega) _) | (refine Below.chain (Below.chain ?_ hba) (below_a1 _ _); first | exact Below.alloc (Below.drew (Below.refl _ _)) (by simp) _ | exact Below.alloc (Below.alloc (Below.drew (Below.refl _ _)) (by simp) _) (by simp <;> omega) _) | (refine below_set4 ?_ (by first | exact Nat.le_refl _ | (simp; done) | (simp; omega) | (have := hba.size; simp at this; omega)) _ _ _ _; first | (refine Below.chain ?_ hba; first | exact Below.alloc (Below.drew (Below.refl _ _)) (by simp) _ | exact Below.alloc (Below.alloc (Below.drew (Below.refl _ _)) (by simp) _) (by simp <;> omega) _) | (refine Below.chain (Below.chain ?_ hba) (below_a1 _ _); first | exact Below.alloc (Below.drew (Below.refl _ _)) (by simp) _ | exact Below.alloc (Below.alloc (Below.drew (Below.refl _ _)) (by simp) _) (by simp <;> omega) _)))
                  clear hK K
                  try simp only [Act.put, List.setIfInBounds_toArray, List.set_cons_zero, List.set_cons_succ]
                  refine wpAnyH_take (i := 12) (oi := { dst := some 11, op := _, type := _, pos := _, after := _, guard := _ }) (v := ?_) rfl (by kernel_rfl) (by kernel_rfl) (by kernel_rfl) (fun _ _ _ h => h) (Or.inl ⟨by rfl, ?_⟩) (by assumption) ?_
                  rotate_left
                  focus (intro W hSw; (try dsimp only at hSw); go_simp; try with_reducible rfl)
                  try simp only [Act.put, List.setIfInBounds_toArray, List.set_cons_zero, List.set_cons_succ]
                  refine wpAnyH_done (by kernel_rfl) ?_ _
                  refine NoPanic.normal ?_
                  go_wp2_with fail
                  go_meet
                  refine ⟨_, rfl, rfl, ?_, ?_⟩
                  · first | with_reducible exact lies_new _ _ _ _ _ _ | with_reducible exact (LZ1.below hba).set _ _ _ _ | with_reducible exact (LZ2.below hba).set _ _ _ _
                  · first | with_reducible exact Below.chain (Below.chain BZ0 hba) (below_a1 _ _) | with_reducible exact below_set4 (Below.chain BZ1 hba) (by omega) _ _ _ _ | with_reducible exact below_set4 (Below.chain BZ2 hba) (by omega) _ _ _ _
                exact AllReadyH.nil
              exact AllReadyH.nil
            exact AllReadyH.nil
          refine AllReadyH.cons (o := _) rfl (fun K hK => ?_) ?_
          · skip
            go_simp
            refine hK.out _ _ ?_ (fun hHeld => ?_)
            · (try dsimp only)
              (refine k8 HX.out ?_; first | exact Below.drew (Below.refl _ _) | exact Below.alloc (Below.drew (Below.refl _ _)) (by simp) _ | exact Below.alloc (Below.alloc (Below.drew (Below.refl _ _)) (by simp) _) (by simp <;> omega) _ | (refine Below.chain ?_ hba; first | exact Below.alloc (Below.drew (Below.refl _ _)) (by simp) _ | exact Below.alloc (Below.alloc (Below.drew (Below.refl _ _)) (by simp) _) (by simp <;> omega) _) | (refine Below.chain (Below.chain ?_ hba) (below_a1 _ _); first | exact Below.alloc (Below.drew (Below.refl _ _)) (by simp) _ | exact Below.alloc (Below.alloc (Below.drew (Below.refl _ _)) (by simp) _) (by simp <;> omega) _) | (refine below_set4 ?_ (by first | exact Nat.le_refl _ | (simp; done) | (simp; omega) | (have := hba.size; simp at this; omega)) _ _ _ _; first | (refine Below.chain ?_ hba; first | exact Below.alloc (Below.drew (Below.refl _ _)) (by simp) _ | exact Below.alloc (Below.alloc (Below.drew (Below.refl _ _)) (by simp) _) (by simp <;> omega) _) | (refine Below.chain (Below.chain ?_ hba) (below_a1 _ _); first | exact Below.alloc (Below.drew (Below.refl _ _)) (by simp) _ | exact Below.alloc (Below.alloc (Below.drew (Below.refl _ _)) (by simp) _) (by simp <;> omega) _)))
            clear hK K
            try simp only [Act.put, List.setIfInBounds_toArray, List.set_cons_zero, List.set_cons_succ]
            refine wpAnyH_ready (rs := [3]) (by kernel_rfl) (by simp) ?_
            refine AllReadyH.cons (o := _) rfl (fun K hK => ?_) ?_
            · skip
              go_simp
              refine hK.out _ _ ?_ (fun hHeld => ?_)
              · (try dsimp only)
                (refine k8 HX.out ?_; first | exact Below.drew (Below.refl _ _) | exact Below.alloc (Below.drew (Below.refl _ _)) (by simp) _ | exact Below.alloc (Below.alloc (Below.drew (Below.refl _ _)) (by simp) _) (by simp <;> omega) _ | (refine Below.chain ?_ hba; first | exact Below.alloc (Below.drew (Below.refl _ _)) (by simp) _ | exact Below.alloc (Below.alloc (Below.drew (Below.refl _ _)) (by simp) _) (by simp <;> omega) _) | (refine Below.chain (Below.chain ?_ hba) (below_a1 _ _); first | exact Below.alloc (Below.drew (Below.refl _ _)) (by simp) _ | exact Below.alloc (Below.alloc (Below.drew (Below.refl _ _)) (by simp) _) (by simp <;> omega) _) | (refine below_set4 ?_ (by first | exact Nat.le_refl _ | (simp; done) | (simp; omega) | (have := hba.size; simp at this; omega)) _ _ _ _; first | (refine Below.chain ?_ hba; first | exact Below.alloc (Below.drew (Below.refl _ _)) (by simp) _ | exact Below.alloc (Below.alloc (Below.drew (Below.refl _ _)) (by simp) _) (by simp <;> omega) _) | (refine Below.chain (Below.chain ?_ hba) (below_a1 _ _); first | exact Below.alloc (Below.drew (Below.refl _ _)) (by simp) _ | exact Below.alloc (Below.alloc (Below.drew (Below.refl _ _)) (by simp) _) (by simp <;> omega) _)))
              clear hK K
              try simp only [Act.put, List.setIfInBounds_toArray, List.set_cons_zero, List.set_cons_succ]
              refine wpAnyH_ready (rs := [6]) (by kernel_rfl) (by simp) ?_
              refine AllReadyH.cons (o := _) rfl (fun K hK => ?_) ?_
              · skip
                go_simp
                ((with_reducible refine (T1 _).mono ?_); rintro e wa ⟨rfl, hba⟩; obtain ⟨hcA, hfA⟩ := bcell hba)
                try go_wp2_with fail
                refine hK.out _ _ ?_ (fun hHeld => ?_)
                · (try dsimp only)
                  (refine k8 HX.out ?_; first | exact Below.drew (Below.refl _ _) | exact Below.alloc (Below.drew (Below.refl _ _)) (by simp) _ | exact Below.alloc (Below.alloc (Below.drew (Below.refl _ _)) (by simp) _) (by simp <;> omega) _ | (refine Below.chain ?_ hba; first | exact Below.alloc (Below.drew (Below.refl _ _)) (by simp) _ | exact Below.alloc (Below.alloc (Below.drew (Below.refl _ _)) (by simp) _) (by simp <;> omega) _) | (refine Below.chain (Below.chain ?_ hba) (below_a1 _ _); first | exact Below.alloc (Below.drew (Below.refl _ _)) (by simp) _ | exact Below.alloc (Below.alloc (Below.drew (Below.refl _ _)) (by simp) _) (by simp <;> omega) _) | (refine below_set4 ?_ (by first | exact Nat.le_refl _ | (simp; done) | (simp; omega) | (have := hba.size; simp at this; omega)) _ _ _ _; first | (refine Below.chain ?_ hba; first | exact Below.alloc (Below.drew (Below.refl _ _)) (by simp) _ | exact Below.alloc (Below.alloc (Below.drew (Below.refl _ _)) (by simp) _) (by simp <;> omega) _) | (refine Below.chain (Below.chain ?_ hba) (below_a1 _ _); first | exact Below.alloc (Below.drew (Below.refl _ _)) (by simp) _ | exact Below.alloc (Below.alloc (Below.drew (Below.refl _ _)) (by simp) _) (by simp <;> omega) _)))
                clear hK K
                try simp only [Act.put, List.setIfInBounds_toArray, List.set_cons_zero, List.set_cons_succ]
                refine wpAnyH_take (i := 7) (oi := { dst := some 24, op := _, type := _, pos := _, after := _, guard := _ }) (v := ?_) rfl (by kernel_rfl) (by kernel_rfl) (by kernel_rfl) (fun _ _ _ h => h) (Or.inl ⟨by rfl, ?_⟩) (by assumption) ?_
                rotate_left
                focus (intro W hSw; (try dsimp only at hSw); go_simp; try with_reducible rfl)
                try simp only [Act.put, List.setIfInBounds_toArray, List.set_cons_zero, List.set_cons_succ]
                refine wpAnyH_take (i := 8) (oi := { dst := some 32, op := _, type := _, pos := _, after := _, guard := _ }) (v := ?_) rfl (by kernel_rfl) (by kernel_rfl) (by kernel_rfl) (fun _ _ _ h => h) (Or.inl ⟨by rfl, ?_⟩) (by assumption) ?_
                rotate_left
                focus (intro W hSw; (try dsimp only at hSw); go_simp; try with_reducible rfl)
                try simp only [Act.put, List.setIfInBounds_toArray, List.set_cons_zero, List.set_cons_succ]
                refine wpAnyH_take (i := 9) (oi := { dst := some 33, op := _, type := _, pos := _, after := _, guard := _ }) (v := ?_) rfl (by kernel_rfl) (by kernel_rfl) (by kernel_rfl) (fun _ _ _ h => h) (Or.inl ⟨by rfl, ?_⟩) (by assumption) ?_
                rotate_left
                focus (intro W hSw; (try dsimp only at hSw); go_simp; try with_reducible rfl)
                try simp only [Act.put, List.setIfInBounds_toArray, List.set_cons_zero, List.set_cons_succ]
                refine wpAnyH_ready (rs := [11]) (by kernel_rfl) (by simp) ?_
                refine AllReadyH.cons (o := _) rfl (fun K hK => ?_) ?_
                · skip
                  go_simp
                  refine hK.out _ _ ?_ (fun hHeld => ?_)
                  · (try dsimp only)
                    (refine k8 HX.out ?_; first | exact Below.drew (Below.refl _ _) | exact Below.alloc (Below.drew (Below.refl _ _)) (by simp) _ | exact Below.alloc (Below.alloc (Below.drew (Below.refl _ _)) (by simp) _) (by simp <;> omega) _ | (refine Below.chain ?_ hba; first | exact Below.alloc (Below.drew (Below.refl _ _)) (by simp) _ | exact Below.alloc (Below.alloc (Below.drew (Below.refl _ _)) (by simp) _) (by simp <;> omega) _) | (refine Below.chain (Below.chain ?_ hba) (below_a1 _ _); first | exact Below.alloc (Below.drew (Below.refl _ _)) (by simp) _ | exact Below.alloc (Below.alloc (Below.drew (Below.refl _ _)) (by simp) _) (by simp <;> omega) _) | (refine below_set4 ?_ (by first | exact Nat.le_refl _ | (simp; done) | (simp; omega) | (have := hba.size; simp at this; omega)) _ _ _ _; first | (refine Below.chain ?_ hba; first | exact Below.alloc (Below.drew (Below.refl _ _)) (by simp) _ | exact Below.alloc (Below.alloc (Below.drew (Below.refl _ _)) (by simp) _) (by simp <;> omega) _) | (refine Below.chain (Below.chain ?_ hba) (below_a1 _ _); first | exact Below.alloc (Below.drew (Below.refl _ _)) (by simp) _ | exact Below.alloc (Below.alloc (Below.drew (Below.refl _ _)) (by simp) _) (by simp <;> omega) _)))
                  clear hK K
                  try simp only [Act.put, List.setIfInBounds_toArray, List.set_cons_zero, List.set_cons_succ]
                  refine wpAnyH_take (i := 12) (oi := { dst := some 11, op := _, type := _, pos := _, after := _, guard := _ }) (v := ?_) rfl (by kernel_rfl) (by kernel_rfl) (by kernel_rfl) (fun _ _ _ h => h) (Or.inl ⟨by rfl, ?_⟩) (by assumption) ?_
                  rotate_left
                  focus (intro W hSw; (try dsimp only at hSw); go_simp; try with_reducible rfl)
                  try simp only [Act.put, List.setIfInBounds_toArray, List.set_cons_zero, List.set_cons_succ]
                  refine wpAnyH_done (by kernel_rfl) ?_ _
                  refine NoPanic.normal ?_
                  go_wp2_with fail
                  go_meet
                  refine ⟨_, rfl, rfl, ?_, ?_⟩
                  · first | with_reducible exact lies_new _ _ _ _ _ _ | with_reducible exact (LZ1.below hba).set _ _ _ _ | with_reducible exact (LZ2.below hba).set _ _ _ _
                  · first | with_reducible exact Below.chain (Below.chain BZ0 hba) (below_a1 _ _) | with_reducible exact below_set4 (Below.chain BZ1 hba) (by omega) _ _ _ _ | with_reducible exact below_set4 (Below.chain BZ2 hba) (by omega) _ _ _ _
                exact AllReadyH.nil
              exact AllReadyH.nil
            exact AllReadyH.nil
          exact AllReadyH.nil
        refine AllReadyH.cons (o := _) rfl (fun K hK => ?_) ?_
        · skip
          go_simp
          refine hK.out _ _ ?_ (fun hHeld => ?_)
          · (try dsimp only)
            (refine k8 HX.out ?_; first | exact Below.drew (Below.refl _ _) | exact Below.alloc (Below.drew (Below.refl _ _)) (by simp) _ | exact Below.alloc (Below.alloc (Below.drew (Below.refl _ _)) (by simp) _) (by simp <;> omega) _ | (refine Below.chain ?_ hba; first | exact Below.alloc (Below.drew (Below.refl _ _)) (by simp) _ | exact Below.alloc (Below.alloc (Below.drew (Below.refl _ _)) (by simp) _) (by simp <;> omega) _) | (refine Below.chain (Below.chain ?_ hba) (below_a1 _ _); first | exact Below.alloc (Below.drew (Below.refl _ _)) (by simp) _ | exact Below.alloc (Below.alloc (Below.drew (Below.refl _ _)) (by simp) _) (by simp <;> omega) _) | (refine below_set4 ?_ (by first | exact Nat.le_refl _ | (simp; done) | (simp; omega) | (have := hba.size; simp at this; omega)) _ _ _ _; first | (refine Below.chain ?_ hba; first | exact Below.alloc (Below.drew (Below.refl _ _)) (by simp) _ | exact Below.alloc (Below.alloc (Below.drew (Below.refl _ _)) (by simp) _) (by simp <;> omega) _) | (refine Below.chain (Below.chain ?_ hba) (below_a1 _ _); first | exact Below.alloc (Below.drew (Below.refl _ _)) (by simp) _ | exact Below.alloc (Below.alloc (Below.drew (Below.refl _ _)) (by simp) _) (by simp <;> omega) _)))
          clear hK K
          try simp only [Act.put, List.setIfInBounds_toArray, List.set_cons_zero, List.set_cons_succ]
          refine wpAnyH_ready (rs := [0]) (by kernel_rfl) (by simp) ?_
          refine AllReadyH.cons (o := _) rfl (fun K hK => ?_) ?_
          · skip
            go_simp
            ((with_reducible refine (ops_any _).mono ?_); rintro e wo ⟨rfl, rfl⟩)
            try go_wp2_with fail
            refine hK.out _ _ ?_ (fun hHeld => ?_)
            · (try dsimp only)
              (refine k8 HX.out ?_; first | exact Below.drew (Below.refl _ _) | exact Below.alloc (Below.drew (Below.refl _ _)) (by simp) _ | exact Below.alloc (Below.alloc (Below.drew (Below.refl _ _)) (by simp) _) (by simp <;> omega) _ | (refine Below.chain ?_ hba; first | exact Below.alloc (Below.drew (Below.refl _ _)) (by simp) _ | exact Below.alloc (Below.alloc (Below.drew (Below.refl _ _)) (by simp) _) (by simp <;> omega) _) | (refine Below.chain (Below.chain ?_ hba) (below_a1 _ _); first | exact Below.alloc (Below.drew (Below.refl _ _)) (by simp) _ | exact Below.alloc (Below.alloc (Below.drew (Below.refl _ _)) (by simp) _) (by simp <;> omega) _) | (refine below_set4 ?_ (by first | exact Nat.le_refl _ | (simp; done) | (simp; omega) | (have := hba.size; simp at this; omega)) _ _ _ _; first | (refine Below.chain ?_ hba; first | exact Below.alloc (Below.drew (Below.refl _ _)) (by simp) _ | exact Below.alloc (Below.alloc (Below.drew (Below.refl _ _)) (by simp) _) (by simp <;> omega) _) | (refine Below.chain (Below.chain ?_ hba) (below_a1 _ _); first | exact Below.alloc (Below.drew (Below.refl _ _)) (by simp) _ | exact Below.alloc (Below.alloc (Below.drew (Below.refl _ _)) (by simp) _) (by simp <;> omega) _)))
            clear hK K
            try simp only [Act.put, List.setIfInBounds_toArray, List.set_cons_zero, List.set_cons_succ]
            refine wpAnyH_take (i := 2) (oi := { dst := some 27, op := _, type := _, pos := _, after := _, guard := _ }) (v := ?_) rfl (by kernel_rfl) (by kernel_rfl) (by kernel_rfl) (fun _ _ _ h => h) (Or.inl ⟨by rfl, ?_⟩) (by assumption) ?_
            rotate_left
            focus (intro W hSw; (try dsimp only at hSw); go_simp; try with_reducible rfl)
            try simp only [Act.put, List.setIfInBounds_toArray, List.set_cons_zero, List.set_cons_succ]
            refine wpAnyH_ready (rs := [3]) (by kernel_rfl) (by simp) ?_
            refine AllReadyH.cons (o := _) rfl (fun K hK => ?_) ?_
            · skip
              go_simp
              refine hK.out _ _ ?_ (fun hHeld => ?_)
              · (try dsimp only)
                (refine k8 HX.out ?_; first | exact Below.drew (Below.refl _ _) | exact Below.alloc (Below.drew (Below.refl _ _)) (by simp) _ | exact Below.alloc (Below.alloc (Below.drew (Below.refl _ _)) (by simp) _) (by simp <;> omega) _ | (refine Below.chain ?_ hba; first | exact Below.alloc (Below.drew (Below.refl _ _)) (by simp) _ | exact Below.alloc (Below.alloc (Below.drew (Below.refl _ _)) (by simp) _) (by simp <;> omega) _) | (refine Below.chain (Below.chain ?_ hba) (below_a1 _ _); first | exact Below.alloc (Below.drew (Below.refl _ _)) (by simp) _ | exact Below.alloc (Below.alloc (Below.drew (Below.refl _ _)) (by simp) _) (by simp <;> omega) _) | (refine below_set4 ?_ (by first | exact Nat.le_refl _ | (simp; done) | (simp; omega) | (have := hba.size; simp at this; omega)) _ _ _ _; first | (refine Below.chain ?_ hba; first | exact Below.alloc (Below.drew (Below.refl _ _)) (by simp) _ | exact Below.alloc (Below.alloc (Below.drew (Below.refl _ _)) (by simp) _) (by simp <;> omega) _) | (refine Below.chain (Below.chain ?_ hba) (below_a1 _ _); first | exact Below.alloc (Below.drew (Below.refl _ _)) (by simp) _ | exact Below.alloc (Below.alloc (Below.drew (Below.refl _ _)) (by simp) _) (by simp <;> omega) _)))
              clear hK K
              try simp only [Act.put, List.setIfInBounds_toArray, List.set_cons_zero, List.set_cons_succ]
              refine wpAnyH_ready (rs := [6]) (by kernel_rfl) (by simp) ?_
              refine AllReadyH.cons (o := _) rfl (fun K hK => ?_) ?_
              · skip
                go_simp
                ((with_reducible refine (T1 _).mono ?_); rintro e wa ⟨rfl, hba⟩; obtain ⟨hcA, hfA⟩ := bcell hba)
                try go_wp2_with fail
                refine hK.out _ _ ?_ (fun hHeld => ?_)
                · (try dsimp only)
                  (refine k8 HX.out ?_; first | exact Below.drew (Below.refl _ _) | exact Below.alloc (Below.drew (Below.refl _ _)) (by simp) _ | exact Below.alloc (Below.alloc (Below.drew (Below.refl _ _)) (by simp) _) (by simp <;> omega) _ | (refine Below.chain ?_ hba; first | exact Below.alloc (Below.drew (Below.refl _ _)) (by simp) _ | exact Below.alloc (Below.alloc (Below.drew (Below.refl _ _)) (by simp) _) (by simp <;> omega) _) | (refine Below.chain (Below.chain ?_ hba) (below_a1 _ _); first | exact Below.alloc (Below.drew (Below.refl _ _)) (by simp) _ | exact Below.alloc (Below.alloc (Below.drew (Below.refl _ _)) (by simp) _) (by simp <;> omega) _) | (refine below_set4 ?_ (by first | exact Nat.le_refl _ | (simp; done) | (simp; omega) | (have := hba.size; simp at this; omega)) _ _ _ _; first | (refine Below.chain ?_ hba; first | exact Below.alloc (Below.drew (Below.refl _ _)) (by simp) _ | exact Below.alloc (Below.alloc (Below.drew (Below.refl _ _)) (by simp) _) (by simp <;> omega) _) | (refine Below.chain (Below.chain ?_ hba) (below_a1 _ _); first | exact Below.alloc (Below.drew (Below.refl _ _)) (by simp) _ | exact Below.alloc (Below.alloc (Below.drew (Below.refl _ _)) (by simp) _) (by simp <;> omega) _)))
                clear hK K
                try simp only [Act.put, List.setIfInBounds_toArray, List.set_cons_zero, List.set_cons_succ]
                refine wpAnyH_take (i := 7) (oi := { dst := some 24, op := _, type := _, pos := _, after := _, guard := _ }) (v := ?_) rfl (by kernel_rfl) (by kernel_rfl) (by kernel_rfl) (fun _ _ _ h => h) (Or.inl ⟨by rfl, ?_⟩) (by assumption) ?_
                rotate_left
                focus (intro W hSw; (try dsimp only at hSw); go_simp; try with_reducible rfl)
                try simp only [Act.put, List.setIfInBounds_toArray, List.set_cons_zero, List.set_cons_succ]
                refine wpAnyH_take (i := 8) (oi := { dst := some 32, op := _, type := _, pos := _, after := _, guard := _ }) (v := ?_) rfl (by kernel_rfl) (by kernel_rfl) (by kernel_rfl) (fun _ _ _ h => h) (Or.inl ⟨by rfl, ?_⟩) (by assumption) ?_
                rotate_left
                focus (intro W hSw; (try dsimp only at hSw); go_simp; try with_reducible rfl)
                try simp only [Act.put, List.setIfInBounds_toArray, List.set_cons_zero, List.set_cons_succ]
                refine wpAnyH_take (i := 9) (oi := { dst := some 33, op := _, type := _, pos := _, after := _, guard := _ }) (v := ?_) rfl (by kernel_rfl) (by kernel_rfl) (by kernel_rfl) (fun _ _ _ h => h) (Or.inl ⟨by rfl, ?_⟩) (by assumption) ?_
                rotate_left
                focus (intro W hSw; (try dsimp only at hSw); go_simp; try with_reducible rfl)
                try simp only [Act.put, List.setIfInBounds_toArray, List.set_cons_zero, List.set_cons_succ]
                refine wpAnyH_ready (rs := [11]) (by kernel_rfl) (by simp) ?_
                refine AllReadyH.cons (o := _) rfl (fun K hK => ?_) ?_
                · skip
                  go_simp
                  refine hK.out _ _ ?_ (fun hHeld => ?_)
                  · (try dsimp only)
                    (refine k8 HX.out ?_; first | exact Below.drew (Below.refl _ _) | exact Below.alloc (Below.drew (Below.refl _ _)) (by simp) _ | exact Below.alloc (Below.alloc (Below.drew (Below.refl _ _)) (by simp) _) (by simp <;> omega) _ | (refine Below.chain ?_ hba; first | exact Below.alloc (Below.drew (Below.refl _ _)) (by simp) _ | exact Below.alloc (Below.alloc (Below.drew (Below.refl _ _)) (by simp) _) (by simp <;> omega) _) | (refine Below.chain (Below.chain ?_ hba) (below_a1 _ _); first | exact Below.alloc (Below.drew (Below.refl _ _)) (by simp) _ | exact Below.alloc (Below.alloc (Below.drew (Below.refl _ _)) (by simp) _) (by simp <;> omega) _) | (refine below_set4 ?_ (by first | exact Nat.le_refl _ | (simp; done) | (simp; omega) | (have := hba.size; simp at this; omega)) _ _ _ _; first | (refine Below.chain ?_ hba; first | exact Below.alloc (Below.drew (Below.refl _ _)) (by simp) _ | exact Below.alloc (Below.alloc (Below.drew (Below.refl _ _)) (by simp) _) (by simp <;> omega) _) | (refine Below.chain (Below.chain ?_ hba) (below_a1 _ _); first | exact Below.alloc (Below.drew (Below.refl _ _)) (by simp) _ | exact Below.alloc (Below.alloc (Below.drew (Below.refl _ _)) (by simp) _) (by simp <;> omega) _)))
                  clear hK K
                  try simp only [Act.put, List.setIfInBounds_toArray, List.set_cons_zero, List.set_cons_succ]
                  refine wpAnyH_take (i := 12) (oi := { dst := some 11, op := _, type := _, pos := _, after := _, guard := _ }) (v := ?_) rfl (by kernel_rfl) (by kernel_rfl) (by kernel_rfl) (fun _ _ _ h => h) (Or.inl ⟨by rfl, ?_⟩) (by assumption) ?_
                  rotate_left
                  focus (intro W hSw; (try dsimp only at hSw); go_simp; try with_reducible rfl)
                  try simp only [Act.put, List.setIfInBounds_toArray, List.set_cons_zero, List.set_cons_succ]
                  refine wpAnyH_done (by kernel_rfl) ?_ _
                  refine NoPanic.normal ?_
                  go_wp2_with fail
                  go_meet
                  refine ⟨_, rfl, rfl, ?_, ?_⟩
                  · first | with_reducible exact lies_new _ _ _ _ _ _ | with_reducible exact (LZ1.below hba).set _ _ _ _ | with_reducible exact (LZ2.below hba).set _ _ _ _
                  · first | with_reducible exact Below.chain (Below.chain BZ0 hba) (below_a1 _ _) | with_reducible exact below_set4 (Below.chain BZ1 hba) (by omega) _ _ _ _ | with_reducible exact below_set4 (Below.chain BZ2 hba) (by omega) _ _ _ _
                exact AllReadyH.nil
              exact AllReadyH.nil
            exact AllReadyH.nil
          exact AllReadyH.nil
        exact AllReadyH.nil
      case rest =>
      obtain ⟨b1, rfl, rfl, hl1, hb1⟩ := hcut
      rename World => wp1
      have HP := Lib.hid (k8 HX.out hb1)
      have ⟨⟨_, _, _, _⟩, ⟨_, _, _, _⟩⟩ := HP.out
      have ⟨_, _, _, _⟩ := hl1
      have cP := Below.chain cW hb1
      clear T1
      rcases HD.out with ⟨rfl, rfl, hpq⟩ | ⟨rfl, rfl⟩ | ⟨rfl, rfl, hk⟩ | ⟨rfl, rfl, hM⟩
      · rcases hpq with rfl | ⟨rfl, rfl⟩
        · go_wp2_with fail
          refine (R1 _).mono ?_; rintro e w5 ⟨rfl, hb5⟩
          go_wp2_with fail
          go_ret
          exact ⟨rfl, Below.chain cP hb5⟩
        · go_wp2_with fail
          refine (R1 _).mono ?_; rintro e w5 ⟨rfl, hb5⟩
          have HP5 := Lib.hid (k8 HP.out hb5)
          have ⟨⟨_, _, _, _⟩, ⟨_, _, _, _⟩⟩ := HP5.out
          go_wp2_with fail
          refine (R2 _).mono ?_; rintro e w6 ⟨rfl, hb6⟩
          go_wp2_with fail
          go_ret
          exact ⟨rfl, Below.chain (Below.chain cP hb5) hb6⟩
      · go_wp2_with fail
        go_ret
        exact ⟨rfl, cP⟩
      · rcases hk with hk | ⟨hk, hk'⟩
        · go_wp2_with fail
          go_ret
          exact ⟨rfl, cP⟩
        · go_wp2_with fail
          go_ret
          exact ⟨rfl, cP⟩
      · have HM := Lib.hid hM
        clear hM
        have HG1 := Lib.hid (HGT.out.below hb1)
        have ⟨_, _⟩ := HG1.out j hj
        have lp : w4.heap.size + 1 < wp1.heap.size := Lib.lt_of_cell (HG1.out 0 (by decide)).1
        go_wp2_with fail
        go_roundg (gk - 1)
        case measure => omega
        case rel =>
          refine ⟨j + 1, _, by omega, by go_num, by simp, HG1.out.set j hj _, fun i hi => ?_, (hb.trans (hb1.mono (by omega))).setCell (Nat.le_refl _) _⟩
          by_cases e : i = j
          · rw [if_pos e, e]
          · rw [if_neg e]; exact HH.out i (by omega)
    · obtain rfl : j = 6 := by omega
      have hEA : E = 0 ∧ A = 1 := by
        rcases HJE.out with h | h
        · omega
        · exact h
      obtain ⟨rfl, rfl⟩ := hEA
      have hM : E2 = 0 ∧ N2 = G 2 ∧ ((((kx = true ∧ ux = true) ∨ (kx = true ∧ ux = false ∧ ky = true ∧ uy = true) ∨ (kx = false ∧ ky = true ∧ uy = true)) ∧ G 0 = 0 ∧ G 1 = 1 ∧ G 2 = 0 ∧ G 3 = 0 ∧ G 4 = 0 ∧ G 5 = 0) ∨ (((kx = false ∨ (kx = true ∧ ux = false)) ∧ (ky = false ∨ (ky = true ∧ uy = false))) ∧ ((G 0 = 0 ∧ G 1 = 1 ∧ G 2 = 1 ∧ G 3 = 1 ∧ G 4 = 0 ∧ G 5 = 0) ∨ (G 0 = 1 ∧ G 1 = 0 ∧ G 2 = 0 ∧ G 3 = 1 ∧ G 4 = 0 ∧ G 5 = 1) ∨ (G 0 = 0 ∧ G 1 = 1 ∧ G 2 = 0 ∧ G 3 = 0 ∧ G 4 = 1 ∧ G 5 = 1)))) := by
        rcases HD.out with ⟨h, _⟩ | ⟨h, _⟩ | ⟨_, h, _⟩ | ⟨_, _, h⟩
        · omega
        · omega
        · omega
        · exact h
      have ij : decide ((6 : Int) < 6) = false := by decide
      obtain ⟨rfl, rfl, hM⟩ := hM
      have HM := Lib.hid hM
      clear hM Q1 HD
      have HKX := Lib.hid hkx
      have HKY := Lib.hid hky
      have HUX := Lib.hid hux
      have HUY := Lib.hid huy
      clear hkx hky hux huy
      go_wp2_with fail
      refine (T2 _).mono ?_; rintro e w5 ⟨rfl, hb5⟩
      have HP := Lib.hid (k8 HX.out hb5)
      have ⟨⟨_, _, _, _⟩, ⟨_, _, _, _⟩⟩ := HP.out
      have lx5 := Lib.lt_of_cell HP.out.1.1
      have ly5 := Lib.lt_of_cell HP.out.2.1
      simp only [] at lx5 ly5
      have HG5 := HGT.out.below hb5
      have lg5 : w4.heap.size + 1 < w5.heap.size := Lib.lt_of_cell (HG5 0 (by decide)).1
      have d0 := (HG5 0 (by decide)).1
      have d1 := (HG5 1 (by decide)).1
      have d2 := (HG5 2 (by decide)).1
      have d3 := (HG5 3 (by decide)).1
      have d4 := (HG5 4 (by decide)).1
      have d5 := (HG5 5 (by decide)).1
      rw [HH.out 0 (by decide)] at d0
      rw [HH.out 1 (by decide)] at d1
      rw [HH.out 2 (by decide)] at d2
      rw [HH.out 3 (by decide)] at d3
      rw [HH.out 4 (by decide)] at d4
      rw [HH.out 5 (by decide)] at d5
      have cF := Below.chain (Below.chain cW hb5) (below_a1 w5 (.cells #[.int .i64 A2, .int .i64 (G 2), .float .f64 0, .string ⟨#[]⟩] 28))
      clear HG5
      have hkx := HKX.out
      have hky := HKY.out
      have hux := HUX.out
      have huy := HUY.out
      rcases HM.out with ⟨hN, g0, g1, g2, g3, g4, g5⟩ | ⟨⟨ha, hb⟩, hV⟩
      · rw [g0] at d0
        rw [g1] at d1
        rw [g2] at d2 ⊢ cF
        rw [g3] at d3
        rw [g4] at d4
        rw [g5] at d5
        clear g0 g1 g2 g3 g4 g5
        rcases hN with ⟨rfl, rfl⟩ | ⟨rfl, rfl, rfl, rfl⟩ | ⟨rfl, rfl, rfl⟩
        all_goals
          have hEQ := eq_arr6
          go_wp2_with fail
          go_ret
          exact ⟨rfl, cF⟩
      · rcases hV with ⟨g0, g1, g2, g3, g4, g5⟩ | ⟨g0, g1, g2, g3, g4, g5⟩ | ⟨g0, g1, g2, g3, g4, g5⟩
        all_goals
          rw [g0] at d0
          rw [g1] at d1
          rw [g2] at d2 ⊢ cF
          rw [g3] at d3
          rw [g4] at d4
          rw [g5] at d5
          clear g0 g1 g2 g3 g4 g5
          rcases ha with rfl | ⟨rfl, rfl⟩ <;> rcases hb with rfl | ⟨rfl, rfl⟩
          all_goals
            go_wp2_with fail
            go_ret
            exact ⟨rfl, cF⟩
theorem walk (k n : Int) (f : Nat) (s : ByteArray) (k' n' : Int) (f' : Nat) (s' : ByteArray) (_ : -9223372036854775808 ≤ k) (_ : k ≤ 9223372036854775807) (n1 : -9223372036854775808 ≤ n) (n2 : n ≤ 9223372036854775807) (hf : f < 18446744073709551616) (hs : s.size ≤ maxLen) (_ : -9223372036854775808 ≤ k') (_ : k' ≤ 9223372036854775807) (n1' : -9223372036854775808 ≤ n') (n2' : n' ≤ 9223372036854775807) (hf' : f' < 18446744073709551616) (hs' : s'.size ≤ maxLen) (w : World) (hT : Tabs w) :
    Calls Tryz.prog 9 #[.agg #[.int .i64 k, .int .i64 n, .int .u64 (f : Int), .string s], .agg #[.int .i64 k', .int .i64 n', .int .u64 (f' : Int), .string s']] w fun e w' => e = .returned (.bool true) ∧ Below w.heap.size w w' := by
  have R1 := right_any k n f hf (cut60 s)
  have R2 := right_any k' n' f' hf' (cut60 s')
  have T2 := test_any ⟨#[62]⟩ k' n' k n f' f (cut60 s') (cut60 s) n1' n2' n1 n2 hf' hf
  by_cases hr : rightB k n f (cut60 s) = false ∨ rightB k' n' f' (cut60 s') = false
  · have ht : ∀ j, testR (opAt j) k n f (cut60 s) k' n' f' (cut60 s') = (0, 0, 1) := fun j => by
      unfold testR; rw [if_pos (.inr hr)]
    refine core k n k' n' f f' s s' 0 1 _ _ _ (fun _ => 0) _ _ _ _ _ _ rfl rfl (Flt.ord_self hf) (Flt.ord_self hf') (fun j hj w => (test_any (opAt j) k n k' n' f f' (cut60 s) (cut60 s') n1 n2 n1' n2' hf hf' w).mono fun e w' h => ret_ve' ?_ h) T2 R1 R2 (Lib.hid ?_) w hT
    · exact ht j
    · refine .inl ⟨rfl, rfl, ?_⟩
      cases h1 : rightB k n f (cut60 s)
      · exact .inl rfl
      · rw [h1] at hr; simp at hr; exact .inr ⟨rfl, hr⟩
  have ha : rightB k n f (cut60 s) = true := by
    cases h : rightB k n f (cut60 s)
    · exact absurd (.inl h) hr
    · rfl
  have hb : rightB k' n' f' (cut60 s') = true := by
    cases h : rightB k' n' f' (cut60 s')
    · exact absurd (.inr h) hr
    · rfl
  have h6 : ∀ j, j < 6 → ¬ (opI (opAt j) = 0 ∨ rightB k n f (cut60 s) = false ∨ rightB k' n' f' (cut60 s') = false) := fun j hj => by
    rw [opI_six j hj, ha, hb]; simp
  by_cases hk0 : k = 0 ∨ k' = 0
  · have ht : ∀ j, j < 6 → testR (opAt j) k n f (cut60 s) k' n' f' (cut60 s') = (0, 0, 0) := fun j hj => by
      unfold testR; rw [if_neg (h6 j hj), if_pos hk0]
    refine core k n k' n' f f' s s' 0 0 _ _ _ (fun _ => 0) _ _ _ _ _ _ rfl rfl (Flt.ord_self hf) (Flt.ord_self hf') (fun j hj w => (test_any (opAt j) k n k' n' f f' (cut60 s) (cut60 s') n1 n2 n1' n2' hf hf' w).mono fun e w' h => ret_ve' ?_ h) T2 R1 R2 (Lib.hid ?_) w hT
    · exact ht j hj
    · refine .inr (.inr (.inl ⟨rfl, rfl, ?_⟩))
      by_cases h0 : k = 0
      · exact .inl (by simpa using h0)
      · exact .inr ⟨by simpa using h0, by rcases hk0 with h | h; exact absurd h h0; simpa using h⟩
  by_cases hty : k ≠ k' ∧ (numB k && numB k') = false
  · have ht : ∀ j, j < 6 → testR (opAt j) k n f (cut60 s) k' n' f' (cut60 s') = (0, 0, 4) := fun j hj => by
      unfold testR; rw [if_neg (h6 j hj), if_neg hk0, if_pos hty]
    refine core k n k' n' f f' s s' 0 4 _ _ _ (fun _ => 0) _ _ _ _ _ _ rfl rfl (Flt.ord_self hf) (Flt.ord_self hf') (fun j hj w => (test_any (opAt j) k n k' n' f f' (cut60 s) (cut60 s') n1 n2 n1' n2' hf hf' w).mono fun e w' h => ret_ve' ?_ h) T2 R1 R2 (Lib.hid ?_) w hT
    · exact ht j hj
    · exact .inr (.inl ⟨rfl, rfl⟩)
  have ht : ∀ j, j < 6 → testR (opAt j) k n f (cut60 s) k' n' f' (cut60 s') = (1, b01 (holdB (j + 1) (ordI k n f (cut60 s) k' n' f' (cut60 s'))), 0) := fun j hj => by
    unfold testR; rw [if_neg (h6 j hj), if_neg hk0, if_neg hty, opI_six j hj]
  have h5 : testR ⟨#[62]⟩ k' n' f' (cut60 s') k n f (cut60 s) = (1, b01 (holdB 5 (ordI k' n' f' (cut60 s') k n f (cut60 s))), 0) := by
    unfold testR
    rw [if_neg (by rw [opI_gt, ha, hb]; simp), if_neg (fun h => hk0 h.symm), if_neg (fun h => hty ⟨fun e => h.1 e.symm, by rw [Bool.and_comm]; exact h.2⟩), opI_gt]
  have hkk : k = k' ∨ (numB k && numB k') = true := by
    by_cases e : k = k'
    · exact .inl e
    · right
      cases h : (numB k && numB k')
      · exact absurd ⟨e, h⟩ hty
      · rfl
  · rw [h5] at T2
    refine core k n k' n' f f' s s' 1 0 _ _ _ (fun j => b01 (holdB (j + 1) (ordI k n f (cut60 s) k' n' f' (cut60 s')))) _ _ _ _ _ _ rfl rfl (Flt.ord_self hf) (Flt.ord_self hf') (fun j hj w => (test_any (opAt j) k n k' n' f f' (cut60 s) (cut60 s') n1 n2 n1' n2' hf hf' w).mono fun e w' h => ret_ve' ?_ h) T2 R1 R2 (Lib.hid ?_) w hT
    · exact ht j hj
    · refine .inr (.inr (.inr ⟨rfl, rfl, rfl, ?_⟩))
      rcases ord_all k n k' n' f f' (cut60 s) (cut60 s') hkk with ⟨hN, h1, h2⟩ | ⟨hN, h1, h2⟩
      · have e5 : holdB 5 (ordI k' n' f' (cut60 s') k n f (cut60 s)) = false := by rcases h2 with h | h <;> rw [h] <;> rfl
        refine ⟨?_, .inl ⟨?_, ?_⟩⟩
        · rcases h1 with h | h <;> rw [h, e5] <;> rfl
        · rcases hN with ⟨q1, q2⟩ | ⟨q1, q2⟩
          · exact .inl ⟨by simpa using q1, q2⟩
          · by_cases q3 : k = 3
            · cases q4 : Flt.isNan f
              · exact .inr (.inl ⟨by simpa using q3, rfl, by simpa using q1, q2⟩)
              · exact .inl ⟨by simpa using q3, rfl⟩
            · exact .inr (.inr ⟨by simpa using q3, by simpa using q1, q2⟩)
        · rcases h1 with h | h <;> rw [h] <;> decide
      · have hNN : ((k == 3) = false ∨ ((k == 3) = true ∧ Flt.isNan f = false)) ∧ ((k' == 3) = false ∨ ((k' == 3) = true ∧ Flt.isNan f' = false)) := by
          constructor
          · by_cases q3 : k = 3
            · refine .inr ⟨by simpa using q3, ?_⟩
              cases q4 : Flt.isNan f
              · rfl
              · exact absurd ⟨q3, q4⟩ hN.1
            · exact .inl (by simpa using q3)
          · by_cases q3 : k' = 3
            · refine .inr ⟨by simpa using q3, ?_⟩
              cases q4 : Flt.isNan f'
              · rfl
              · exact absurd ⟨q3, q4⟩ hN.2
            · exact .inl (by simpa using q3)
        rw [h2]
        refine ⟨?_, .inr ⟨hNN, ?_⟩⟩
        · rcases h1 with h | h | h <;> rw [h] <;> decide
        · rcases h1 with h | h | h <;> rw [h]
          · exact .inl (by decide)
          · exact .inr (.inl (by decide))
          · exact .inr (.inr (by decide))
end Go.Proofs.YtnjlcdemfdokoaaGreatDoor.ValueTrue
