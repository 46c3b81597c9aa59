/- The walk of the law NumWhole. -/
import Derived.Test.YtpnbjofddlbagaaDoorWo
import Derived.Test.YtpnbjofddlbagaaDoorWu
namespace Go.Proofs.YtpnbjofddlbagaaDoor.NumWhole
open Go Go.RowKit
set_option linter.unusedVariables false
set_option maxHeartbeats 2000000 in
theorem core (n n0 : Int) (f g : Nat) (tx : List UInt8) (hl : tx.length ≤ 50) (h0 : floatOfInt FloatKind.f64 n = f) (h1 : n0.tmod 9007199254740992 = n) (w : World) (hT : Tabs w) (AG : ∀ w, Calls Tryd.prog 27 #[.int .i64 n, .float .f64 f] w fun e w' => e = .returned (.tuple #[.int .i64 0, .bool true]) ∧ w = w')
   (AG2 : ∀ w, Calls Tryd.prog 27 #[.int .i64 n, .float .f64 g] w fun e w' => e = .returned (.tuple #[.int .i64 (-1), .bool true]) ∧ w = w') 
   (ze : (FloatKind.f64.format.order f f == some Ordering.eq) = true) (HP : Hid (∀ i : Nat, i + 1 < tx.length → (((ByteArray.mk tx.toArray).extract i (i + 2)).toList == [112, 45]) = false))
   (hg : floatBits .add .f64 f 4607182418800017408 = some g)
   (TX : ∀ w, Tabs w → Calls Tryd.prog 25 #[.float .f64 f] w fun e w' => e = .returned (.string ⟨tx.toArray⟩) ∧ Below w.heap.size w w')
   (PX : ∀ w, Tabs w → Calls Tryd.prog 23 #[.string ⟨tx.toArray⟩] w fun e w' => e = .returned (.tuple #[.float .f64 f, .int .i64 0]) ∧ Below w.heap.size w w')
   (RX : ∀ w, Calls Tryd.prog 26 #[.float .f64 f] w fun e w' => e = .returned (.string ⟨tx.toArray⟩) ∧ Below w.heap.size w w')
 :
    Calls Tryd.prog 10 #[.int .i64 n0] w fun e w' => e = .returned (.bool true) ∧ Below w.heap.size w w' := by
  have hrun := fun W => run_float_arith (P := Tryd.prog) W .add 24 .f64 f 4607182418800017408 _ hg
  go_enter Tryd.func10, Tryd.ntmps10
  go_wp2_with fail
  refine (shown_any _ hT).mono ?_; rintro e w1 ⟨rfl, hb1⟩
  go_wp2_with fail
  refine (AG _).mono ?_; rintro e w' ⟨rfl, rfl⟩
  go_wp2_with fail
  refine (AG2 _).mono ?_; rintro e w' ⟨rfl, rfl⟩
  go_wp2_with fail
  refine (TX _ (hT.below hb1)).mono ?_; rintro e w2 ⟨rfl, hb2⟩
  have c2 := Below.chain hb1 hb2
  go_wp2_with fail
  refine (PX _ (hT.below c2)).mono ?_; rintro e w3 ⟨rfl, hb3⟩
  have c3 := Below.chain c2 hb3
  go_wp2_with fail
  have hsz : (ByteArray.mk tx.toArray).size = tx.length := by show tx.toArray.size = _; simp
  go_loop [12, 13] (fun t12 t13 => ∃ i : Nat, t12 = .bool true ∧ t13 = .int .i64 (i : Int) ∧ i ≤ 50) (fun _ t13 => 60 - (intOf t13).toNat)
  case atStart => exact ⟨0, rfl, rfl, by omega⟩
  case round =>
    obtain ⟨i, rfl, rfl, q1⟩ := hrel
    by_cases hlt : i + 1 < tx.length
    · have hp := HP.out i hlt
      go_wp2
      go_round
      case rel => exact ⟨i + 1, rfl, by go_num, by omega⟩
      case measure => simp [intOf]; omega
    · go_wp2_with fail
      refine (RX _).mono ?_; rintro e w4 ⟨rfl, hb4⟩
      have c4 := Below.chain c3 hb4
      go_wp2
      go_ret
      exact ⟨rfl, c4⟩
theorem walk (n0 : Int) (q1 : -9223372036854775808 ≤ n0) (q2 : n0 ≤ 9223372036854775807) (w : World) (hT : Tabs w) :
    Calls Tryd.prog 10 #[.int .i64 n0] w fun e w' => e = .returned (.bool true) ∧ Below w.heap.size w w' := by
  obtain ⟨n, hn⟩ : ∃ n, n0.tmod 9007199254740992 = n := ⟨_, rfl⟩
  have hb : -9007199254740992 < n ∧ n < 9007199254740992 := by
    by_cases h : 0 ≤ n0
    · rw [Int.tmod_eq_emod_of_nonneg h] at hn; omega
    · obtain ⟨k, rfl⟩ : ∃ k : Int, n0 = -k := ⟨-n0, by omega⟩
      rw [Int.neg_tmod, Int.tmod_eq_emod_of_nonneg (by omega)] at hn; omega
  obtain ⟨r, r1, r2, r3, r4⟩ := Flt.float_int n hb.1 hb.2
  obtain ⟨t1, t2, t3, t4, t5⟩ := text_shape (decide (n < 0)) r1
  have hs := Flt.sv_int n r1 r2
  have hE : 0 ≤ Flt.oddE r := by
    by_cases h : r = 0
    · subst h; decide
    · exact Flt.oddE_whole (by omega) r1 r2
  have hp := noPM_shape (decide (n < 0)) (Flt.oddM r) (Flt.oddE r) hE
  rw [← t1] at hp
  have hrg : Flt.rung (withSign (decide (n < 0)) r) < 9218868437227405312 := by rw [t5]; exact r1
  have pK : 0 < 2 ^ Flt.K := Nat.pow_pos (by decide)
  have hg : ∃ g, floatBits .add .f64 (withSign (decide (n < 0)) r) 4607182418800017408 = some g ∧ g < 18446744073709551616 ∧ Flt.isNan g = false ∧ Flt.sv g = (n + 1) * ((2 ^ Flt.K : Nat) : Int) := by
    by_cases h1 : n + 1 = 0
    · have e1 : n = -1 := by omega
      rw [← r3, e1]
      refine ⟨0, ?_, by decide, by decide, by rw [show Flt.sv 0 = 0 from by decide]; simp⟩
      rw [show floatOfInt .f64 (-1) = 13830554455654793216 from by decide]
      decide +kernel
    · obtain ⟨r', a0, a1, a2, a3⟩ := Flt.add_one t4 hrg n hs h1 (by omega) (by omega)
      obtain ⟨_, _, _, u4, u5⟩ := text_shape (decide (n + 1 < 0)) a1
      exact ⟨_, a3, u4, by unfold Flt.isNan; rw [u5]; simp; omega, Flt.sv_int (n + 1) a1 a2⟩
  obtain ⟨g, g1, g2, g3, g4⟩ := hg
  have hnn : Flt.isNan (withSign (decide (n < 0)) r) = false := by unfold Flt.isNan; rw [t5]; simp; omega
  generalize withSign (decide (n < 0)) r = f at *
  have AG := against_all n f (by omega) (by omega) t4 hnn
  rw [hs, show Flt.cmp3 (n * ((2 ^ Flt.K : Nat) : Int)) (n * ((2 ^ Flt.K : Nat) : Int)) = 0 from by unfold Flt.cmp3; rw [if_neg (Int.lt_irrefl _), if_neg (Int.lt_irrefl _)]] at AG
  have AG2 := against_all n g (by omega) (by omega) g2 g3
  rw [g4, Flt.cmp3_lt (show n * ((2 ^ Flt.K : Nat) : Int) < (n + 1) * ((2 ^ Flt.K : Nat) : Int) from by rw [Int.add_mul]; omega)] at AG2
  have hl := text_len f t4
  have PX := fun w hT => parse_any ⟨(Flt.text f).toArray⟩ (by show (Flt.text f).toArray.size ≤ _; simp; omega) w hT
  rw [show parseSem (ByteArray.mk (Flt.text f).toArray).data.toList = some (Flt.canon f) from parseSem_text t4, t3] at PX
  have ze : (FloatKind.f64.format.order f f == some Ordering.eq) = true := by
    show (Ieee.double.order f f == some Ordering.eq) = true
    rw [Flt.order_eq t4 t4 hnn hnn]
    simp
  exact core n n0 f g (Flt.text f) hl r3 hn w hT AG AG2 ze (Lib.hid (fun i _ => pair_of hp i)) g1 (fun w hT => text_any f t4 w hT) PX (fun w => rtext_any f t4 w)
end Go.Proofs.YtpnbjofddlbagaaDoor.NumWhole
