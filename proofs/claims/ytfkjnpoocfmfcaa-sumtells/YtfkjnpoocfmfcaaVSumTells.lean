import Derived.Test.YtfkjnpoocfmfcaaSUf
namespace Go.Proofs.Ytfkjnpoocfmfcaa.SumTells
open Go Go.RowKit Go.Proofs.Ytfkjnpoocfmfcaa
set_option linter.unusedVariables false
theorem walk (v : Value) (l : List UInt8) (n : Nat) (w : World) (hv : RwU w v l) (hn : n < 18446744073709551616) :
    Calls Try.prog 3 #[v, .int .u64 n] w fun e w' => e = .returned (.bool true) ∧ Below w.heap.size w w' := by
  obtain ⟨ao, cap, rfl, hlc⟩ := shape_rwu hv
  obtain ⟨L, hL⟩ : ∃ L, L = l.length := ⟨_, rfl⟩
  by_cases hlt : (2000 : Int) < (L : Int)
  · skip
    have H := hv.head 2000 (by omega)
    have hl : (l.take 2000).length = 2000 := by rw [List.length_take]; omega
    generalize l.take 2000 = m at *
    rw [← hL] at hlc
    rw [← hL]
    have i1 : (2000 : Int) ≤ (cap : Int) := by omega
    have i0 : (0 : Int) ≤ (2000 : Int) := by omega
    have hm2 : m.length ≤ 2000 := by omega
    clear hv hL
    have HH := Lib.hid H
    have HM := Lib.hid hl
    clear H hl
    go_enter Try.func3, Try.ntmps3
    go_wp2_with fail
    (with_reducible refine (shown_any _).mono ?_); rintro e w1 ⟨rfl, h1⟩
    have H1 := HH.out.keep h1
    have HA := Ow.lit (E := encU) (e := 5) w1 w1.heap.size [] (Nat.le_refl _) (by simp) #[] rfl
    have hz := (below_a1 w1 (.cells #[] 5)).size
    have hB2 : Below w.heap.size w (w1.alloc (.cells #[] 5)) := h1.alloc h1.size _
    go_upto_region 4 with (at_builtin; refine wpList_append_rw (E := encU) rfl _ _ _ rfl Try.underlying22 info5 rfl (by decide) (by decide) rfl rfl HA (H1.keep (below_a1 _ _)) (by simp; omega) hz ?_; intro v2 w2 hO2 hg2 _; rw [List.nil_append] at hO2; have hB3 := hB2.grown hg2 hB2.size (fun k hk => Nat.le_trans h1.size (HA.row k hk)))
    have H2 := HH.out.keep hB3
    have HS := run_string_rwu H2
    have HO := hO2.rw
    obtain ⟨ao2, cap2, rfl⟩ := hO2.shape
    clear hO2 hg2 hz HA H1 h1 hB2
    have CS := sum_any _ _ _ (by omega) HO
    go_wp2_with fail
    (with_reducible refine CS.mono ?_); rintro e w3 ⟨rfl, h3⟩
    have HO3 := HO.keep h3
    have hB4 := Below.chain hB3 h3
    clear CS h3 hB3
    go_wp2_with fail
    (with_reducible refine (rsum_any _ _ (by rw [ba_size]; omega)).mono ?_); rintro e w3' ⟨rfl, rfl⟩
    go_wp2_with fail
    (with_reducible refine (more_any n hn _ _ _ (by omega) HO3).mono ?_); rintro e w4 ⟨rfl, h4⟩
    have HO4 := run_string_rwu (HO3.keep h4)
    have hB5 := Lib.hid (Below.chain hB4 h4)
    clear HO3 h4 hB4
    go_wp2_with fail
    (with_reducible refine (rmore_any n hn _ _ (by rw [ba_size]; omega)).mono ?_); rintro e w4' ⟨rfl, rfl⟩
    go_wp2_with fail
    go_ret
    exact ⟨by simp, hB5.out⟩

  · skip
    have H := hv.head L (by omega)
    have hl : (l.take L).length = L := by rw [List.length_take]; omega
    generalize l.take L = m at *
    rw [← hL] at hlc
    rw [← hL]
    have i1 : (L : Int) ≤ (cap : Int) := by omega
    have i0 : (0 : Int) ≤ (L : Int) := by omega
    have hm2 : m.length ≤ 2000 := by omega
    clear hv hL
    have HH := Lib.hid H
    have HM := Lib.hid hl
    clear H hl
    go_enter Try.func3, Try.ntmps3
    go_wp2_with fail
    (with_reducible refine (shown_any _).mono ?_); rintro e w1 ⟨rfl, h1⟩
    have H1 := HH.out.keep h1
    have HA := Ow.lit (E := encU) (e := 5) w1 w1.heap.size [] (Nat.le_refl _) (by simp) #[] rfl
    have hz := (below_a1 w1 (.cells #[] 5)).size
    have hB2 : Below w.heap.size w (w1.alloc (.cells #[] 5)) := h1.alloc h1.size _
    go_upto_region 4 with (at_builtin; refine wpList_append_rw (E := encU) rfl _ _ _ rfl Try.underlying22 info5 rfl (by decide) (by decide) rfl rfl HA (H1.keep (below_a1 _ _)) (by simp; omega) hz ?_; intro v2 w2 hO2 hg2 _; rw [List.nil_append] at hO2; have hB3 := hB2.grown hg2 hB2.size (fun k hk => Nat.le_trans h1.size (HA.row k hk)))
    have H2 := HH.out.keep hB3
    have HS := run_string_rwu H2
    have HO := hO2.rw
    obtain ⟨ao2, cap2, rfl⟩ := hO2.shape
    clear hO2 hg2 hz HA H1 h1 hB2
    have CS := sum_any _ _ _ (by omega) HO
    go_wp2_with fail
    (with_reducible refine CS.mono ?_); rintro e w3 ⟨rfl, h3⟩
    have HO3 := HO.keep h3
    have hB4 := Below.chain hB3 h3
    clear CS h3 hB3
    go_wp2_with fail
    (with_reducible refine (rsum_any _ _ (by rw [ba_size]; omega)).mono ?_); rintro e w3' ⟨rfl, rfl⟩
    go_wp2_with fail
    (with_reducible refine (more_any n hn _ _ _ (by omega) HO3).mono ?_); rintro e w4 ⟨rfl, h4⟩
    have HO4 := run_string_rwu (HO3.keep h4)
    have hB5 := Lib.hid (Below.chain hB4 h4)
    clear HO3 h4 hB4
    go_wp2_with fail
    (with_reducible refine (rmore_any n hn _ _ (by rw [ba_size]; omega)).mono ?_); rintro e w4' ⟨rfl, rfl⟩
    go_wp2_with fail
    go_ret
    exact ⟨by simp, hB5.out⟩

end Go.Proofs.Ytfkjnpoocfmfcaa.SumTells
