import Derived.Test.YtfkjnpoocfmfcaaSUf
namespace Go.Proofs.Ytfkjnpoocfmfcaa.SumApart
open Go Go.RowKit Go.Proofs.Ytfkjnpoocfmfcaa
set_option linter.unusedVariables false
theorem natcast_beq (a b : Nat) : ((a : Int) == (b : Int)) = (a == b) := by
  rw [Bool.eq_iff_iff]; simp only [beq_iff_eq]; omega
theorem apart1 {a b : Nat} (ha : a < 18446744073709551616) (hb : b < 18446744073709551616) (m : List UInt8) : (((sumS a m : Nat) : Int) == ((sumS b m : Nat) : Int)) = ((a : Int) == (b : Int)) := by
  rw [natcast_beq, natcast_beq, Bool.eq_iff_iff, beq_iff_eq, beq_iff_eq]
  exact ⟨fun h => sum_inj ha hb m h, fun h => by rw [h]⟩
theorem sumS_one (a : Nat) (x : UInt8) : sumS a [x] = stepS a x := sumS_snoc a [] x
theorem apart2 {a : Nat} (ha : a < 18446744073709551616) (x y : UInt8) : (((sumS a [x] : Nat) : Int) == ((sumS a [y] : Nat) : Int)) = ((x.toNat : Int) == (y.toNat : Int)) := by
  rw [natcast_beq, natcast_beq, sumS_one, sumS_one, Bool.eq_iff_iff, beq_iff_eq, beq_iff_eq]
  exact ⟨fun h => by rw [step_inj2 ha x y h], fun h => by rw [UInt8.toNat_inj.1 h]⟩
theorem walk (a b : Nat) (v : Value) (l : List UInt8) (x y : UInt8) (w : World) (ha : a < 18446744073709551616) (hb : b < 18446744073709551616) (hv : RwU w v l) :
    Calls Try.prog 5 #[.int .u64 a, .int .u64 b, v, .int .u8 (x.toNat : Int), .int .u8 (y.toNat : Int)] w fun e w' => e = .returned (.bool true) ∧ Below w.heap.size w w' := by
  obtain ⟨ao, cap, rfl, hlc⟩ := shape_rwu hv
  obtain ⟨L, hL⟩ : ∃ L, L = l.length := ⟨_, rfl⟩
  by_cases hlt : (500 : Int) < (L : Int)
  · skip
    have H := hv.head 500 (by omega)
    have hl : (l.take 500).length = 500 := by rw [List.length_take]; omega
    generalize l.take 500 = m at *
    rw [← hL] at hlc
    rw [← hL]
    have i1 : (500 : Int) ≤ (cap : Int) := by omega
    have i0 : (0 : Int) ≤ (500 : Int) := by omega
    have hm2 : m.length ≤ 1000000 := by omega
    clear hv hL
    have HA := Lib.hid (apart1 ha hb m)
    have HB := Lib.hid (apart2 ha x y)
    have HH := Lib.hid H
    have K1 := fun u h => more_any a ha (.slice ao 500 cap) m u hm2 h
    have K2 := fun u h => more_any b hb (.slice ao 500 cap) m u hm2 h
    have K3 := fun u : World => more_any a ha _ [x] _ (by simp) (rwu_const u [x] (by simp) #[.int .u8 (x.toNat : Int)] rfl 1 rfl (0, 0))
    have K4 := fun u : World => more_any a ha _ [y] _ (by simp) (rwu_const u [y] (by simp) #[.int .u8 (y.toNat : Int)] rfl 1 rfl (0, 0))
    generalize sumS a m = p1 at *
    generalize sumS b m = p2 at *
    generalize sumS a [x] = p3 at *
    generalize sumS a [y] = p4 at *
    clear H hl
    go_enter Try.func5, Try.ntmps5
    go_wp2_with fail
    (with_reducible refine (shown_any _).mono ?_); rintro e w1 ⟨rfl, h1⟩
    have H1 := HH.out.keep h1
    go_wp2_with fail
    (with_reducible refine (K1 _ H1).mono ?_); rintro e w2 ⟨rfl, h2⟩
    have H2 := H1.keep h2
    have hB2 := Below.chain h1 h2
    clear H1 h1 h2
    go_wp2_with fail
    (with_reducible refine (K2 _ H2).mono ?_); rintro e w3 ⟨rfl, h3⟩
    have hB3 := Below.chain hB2 h3
    clear H2 h3 hB2
    go_wp2_with fail
    (with_reducible refine (K3 _).mono ?_); rintro e w4 ⟨rfl, h4⟩
    have hB4 := Below.chain (hB3.alloc hB3.size (.cells #[.int .u8 (x.toNat : Int)] 5)) h4
    clear h4 hB3
    go_wp2_with fail
    (with_reducible refine (K4 _).mono ?_); rintro e w5 ⟨rfl, h5⟩
    have hB5 := Lib.hid (Below.chain (hB4.alloc hB4.size (.cells #[.int .u8 (y.toNat : Int)] 5)) h5)
    clear h5 hB4
    go_wp2_with fail
    go_ret
    exact ⟨by rw [HB.out]; simp, hB5.out⟩

  · skip
    have hLm : L ≤ 500 := by omega
    have H := hv.head L (by omega)
    have hl : (l.take L).length = L := by rw [List.length_take]; omega
    generalize l.take L = m at *
    rw [← hL] at hlc
    rw [← hL]
    have i1 : (L : Int) ≤ (cap : Int) := by omega
    have i0 : (0 : Int) ≤ (L : Int) := by omega
    have hm2 : m.length ≤ 1000000 := by omega
    clear hv hL
    have HA := Lib.hid (apart1 ha hb m)
    have HB := Lib.hid (apart2 ha x y)
    have HH := Lib.hid H
    have K1 := fun u h => more_any a ha (.slice ao L cap) m u hm2 h
    have K2 := fun u h => more_any b hb (.slice ao L cap) m u hm2 h
    have K3 := fun u : World => more_any a ha _ [x] _ (by simp) (rwu_const u [x] (by simp) #[.int .u8 (x.toNat : Int)] rfl 1 rfl (0, 0))
    have K4 := fun u : World => more_any a ha _ [y] _ (by simp) (rwu_const u [y] (by simp) #[.int .u8 (y.toNat : Int)] rfl 1 rfl (0, 0))
    generalize sumS a m = p1 at *
    generalize sumS b m = p2 at *
    generalize sumS a [x] = p3 at *
    generalize sumS a [y] = p4 at *
    clear H hl
    go_enter Try.func5, Try.ntmps5
    go_wp2_with fail
    (with_reducible refine (shown_any _).mono ?_); rintro e w1 ⟨rfl, h1⟩
    have H1 := HH.out.keep h1
    go_wp2_with fail
    (with_reducible refine (K1 _ H1).mono ?_); rintro e w2 ⟨rfl, h2⟩
    have H2 := H1.keep h2
    have hB2 := Below.chain h1 h2
    clear H1 h1 h2
    go_wp2_with fail
    (with_reducible refine (K2 _ H2).mono ?_); rintro e w3 ⟨rfl, h3⟩
    have hB3 := Below.chain hB2 h3
    clear H2 h3 hB2
    go_wp2_with fail
    (with_reducible refine (K3 _).mono ?_); rintro e w4 ⟨rfl, h4⟩
    have hB4 := Below.chain (hB3.alloc hB3.size (.cells #[.int .u8 (x.toNat : Int)] 5)) h4
    clear h4 hB3
    go_wp2_with fail
    (with_reducible refine (K4 _).mono ?_); rintro e w5 ⟨rfl, h5⟩
    have hB5 := Lib.hid (Below.chain (hB4.alloc hB4.size (.cells #[.int .u8 (y.toNat : Int)] 5)) h5)
    clear h5 hB4
    go_wp2_with fail
    go_ret
    exact ⟨by rw [HB.out]; simp, hB5.out⟩

end Go.Proofs.Ytfkjnpoocfmfcaa.SumApart
