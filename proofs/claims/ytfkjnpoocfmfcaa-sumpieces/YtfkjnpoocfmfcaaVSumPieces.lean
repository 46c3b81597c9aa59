import Derived.Test.YtfkjnpoocfmfcaaSUf
import Derived.Deep.LoopGhost
namespace Go.Proofs.Ytfkjnpoocfmfcaa.SumPieces
open Go Go.RowKit Go.Proofs.Ytfkjnpoocfmfcaa
set_option linter.unusedVariables false
/-- the first k pieces, behind one another -/
def catP (ms : List (List UInt8)) (k : Nat) : List UInt8 := ((ms.take k).map (·.take 200)).flatten
theorem catP_zero (ms : List (List UInt8)) : catP ms 0 = [] := rfl
theorem catP_succ (ms : List (List UInt8)) (k : Nat) (h : k < ms.length) : catP ms (k + 1) = catP ms k ++ ms[k].take 200 := by
  unfold catP
  rw [List.take_succ_eq_append_getElem h, List.map_append, List.flatten_append]
  simp
theorem catP_len (ms : List (List UInt8)) : ∀ k, (catP ms k).length ≤ 200 * k
  | 0 => by simp [catP]
  | k + 1 => by
    have ih := catP_len ms k
    by_cases h : k < ms.length
    · rw [catP_succ ms k h, List.length_append, List.length_take]; omega
    · have e : catP ms (k + 1) = catP ms k := by
        unfold catP
        rw [List.take_of_length_le (by omega), List.take_of_length_le (by omega)]
      rw [e]; omega
theorem pieces {w : World} {l : List Sl} (h : ∀ s ∈ l, ∃ m, RwU w s.v m) : ∃ ms : List (List UInt8), ms.length = l.length ∧ ∀ i (h1 : i < l.length) (h2 : i < ms.length), RwU w l[i].v ms[i] := by
  have hk : ∀ i, i < l.length → ∃ m : List UInt8, ∀ h : i < l.length, RwU w l[i].v m := fun i hi => by
    obtain ⟨m, hm⟩ := h l[i] (List.getElem_mem hi)
    exact ⟨m, fun _ => hm⟩
  obtain ⟨F, hF⟩ := Go.Deep.choose_lt hk
  refine ⟨(List.range l.length).map F, by simp, fun i h1 h2 => ?_⟩
  have := hF i h1 h1
  simpa using this
theorem rwb_at {w : World} {ao : Option Addr} {n cap : Nat} {l : List Sl} (h : RwB w (.slice ao n cap) l) (i : Nat) (hi : i < l.length) :
    ∃ b o, ao = some ⟨b, o, none⟩ ∧ w.cell? ⟨b, o + i, none⟩ = some l[i].v := by
  obtain ⟨ao', cap', he, -, -, -, h5⟩ := h
  cases he
  obtain ⟨b, o, ha, hc⟩ := h5 i hi
  refine ⟨b, o, ha, ?_⟩
  have := hc 0 (by omega)
  simpa [encB] using this
theorem walk (v : Value) (l : List Sl) (w : World) (hv : RwB w v l) (hl : ∀ s ∈ l, ∃ m, RwU w s.v m) :
    Calls Try.prog 4 #[v] w fun e w' => e = .returned (.bool true) ∧ Below w.heap.size w w' := by
  obtain ⟨ms, hml, hms⟩ := pieces hl
  obtain ⟨ao, cap, rfl⟩ := hv.shape
  have HV := Lib.hid hv
  have HMS := Lib.hid hms
  obtain ⟨L, hL⟩ : ∃ L, l.length = L := ⟨_, rfl⟩
  rw [hL] at hml
  have HL := Lib.hid hL
  have HML := Lib.hid hml
  have C0 := fun u : World => sum_any (.slice none 0 0) [] u (by simp) (Rw.nil _)
  rw [hL]
  clear hv hl hms hL hml
  go_enter Try.func4, Try.ntmps4
  go_wp2_with fail
  (with_reducible refine (shown_any _).mono ?_); rintro e w1 ⟨rfl, h1⟩
  go_wp2_with fail
  (with_reducible refine (C0 _).mono ?_); rintro e w2 ⟨rfl, h2⟩
  have h12 := Below.chain h1 h2
  have HA := Lib.hid (Ow.lit (E := encU) (e := 5) w2 w.heap.size [] h12.size (by simp) #[] rfl)
  have HB2 := Lib.hid (h12.alloc h12.size (.cells #[] 5))
  clear C0 h1 h2 h12
  go_wp2_with fail
  go_loopg [4, 5, 6, 7] L (fun g s4 s5 s6 s7 wr => ∃ i : Nat, g + i = L ∧ i ≤ 30 ∧ s6 = .int .i64 i ∧ s4 = .int .u64 ((sumS 14695981039346656037 (catP ms i) : Nat) : Int) ∧ OwU wr w.heap.size s5 (catP ms i) ∧ Below w.heap.size w wr)
  case atStart => exact ⟨0, by omega, by omega, rfl, rfl, HA.out, HB2.out⟩
  case round =>
    obtain ⟨i, hg, h30, rfl, rfl, hO, hb⟩ := hrel
    have hlL : l.length = L := HL.out
    have hmL : ms.length = L := HML.out
    by_cases hlt : i < L
    · by_cases h3 : i < 30
      · have i1 : (i : Int) < (L : Int) := by omega
        have i2 : (i : Int) < 30 := by omega
        have i3 : (0 : Int) ≤ (i : Int) := by omega
        have hil : i < l.length := by omega
        have him : i < ms.length := by omega
        obtain ⟨b, o, rfl, hc0⟩ := rwb_at HV.out i hil
        have hR0 := HMS.out i hil him
        have hc : wr.cell? ⟨b, o + i, none⟩ = some l[i].v := (hb.cell (p := ⟨b, o + i, none⟩) (block_lt_of_cell hc0)).trans hc0
        have hR := hR0.keep hb
        obtain ⟨aop, cp, hsl, hlcp⟩ := shape_rwu hR
        rw [hsl] at hR hc
        obtain ⟨N, hlen⟩ : ∃ N, N = ms[i].length := ⟨_, rfl⟩
        rw [← hlen] at hR hc hlcp
        clear hR0 hc0 hsl hlL hmL
        by_cases h200 : (200 : Int) < (N : Int)
        · skip
          have hpl : (ms[i].take 200).length = 200 := by rw [List.length_take]; omega
          have hP0 := hR.head 200 (by omega)
          have et : ms[i].take 200 = ms[i].take 200 := by rfl
          rw [et] at hP0
          have hcat := catP_succ ms i him
          have hcl := catP_len ms i
          have j1 : (200 : Int) ≤ (cp : Int) := by omega
          have j0 : (0 : Int) ≤ (200 : Int) := by omega
          have CM := more_any (sumS 14695981039346656037 (catP ms i)) (sumS_lt _ (by decide) _) _ _ wr.drew (by omega) (hP0.keep ((Below.refl _ wr).drew))
          rw [← sumS_app, ← hcat] at CM
          have HAP : (catP ms i).length + (ms[i].take 200).length ≤ 1000000 := by omega
          have HCAT := Lib.hid hcat
          have hz0 := hb.size
          have HO := Lib.hid hO
          have HP := Lib.hid hP0
          have HB := Lib.hid hb
          have HAP' := Lib.hid HAP
          obtain ⟨va, ca, rfl⟩ := hO.shape
          clear hcat hP0 hcl hpl hO hb hR et HAP
          generalize sumS 14695981039346656037 (catP ms i) = si at *
          generalize hsn : sumS 14695981039346656037 (catP ms (i + 1)) = sn at *
          have HSN := Lib.hid hsn
          generalize ms[i].take 200 = pc at *
          generalize hcp : catP ms i = ca0 at *
          clear hsn hcp him hlen
          go_wp2_with fail
          go_region
          go_wp2_with fail
          (with_reducible refine CM.mono ?_); rintro e w3 ⟨rfl, h3⟩
          have HO3 := (HO.out.below ((Below.refl _ wr).drew)).below h3
          have HP3 := (HP.out.keep ((Below.refl _ wr).drew)).keep h3
          have HB3 := Below.chain (HB.out.drew) h3
          have hz3 := HB3.size
          clear CM
          go_upto_region 6 with (at_builtin; refine wpList_append_rw (E := encU) rfl _ _ _ rfl Try.underlying22 info5 rfl (by decide) (by decide) rfl rfl HO3 HP3 HAP'.out hz3 ?_; intro v4 w4 hO4 hg4 _; have hB4 := Lib.hid (HB3.grown hg4 hz3 (fun k hk => HO3.row k hk)))
          have HO4 := Lib.hid hO4
          obtain ⟨a4, c4, rfl⟩ := hO4.shape
          clear hO4 hg4 HO3 HP3 HB3
          go_wp2_with fail
          go_roundg (L - (i + 1))
          case rel => exact ⟨i + 1, by omega, by omega, by go_num, by rw [HSN.out], by rw [HCAT.out]; exact HO4.out, hB4.out⟩
          case measure => omega

        · skip
          have hpl : (ms[i].take 200).length = N := by rw [List.length_take]; omega
          have hP0 := hR.head N (by omega)
          have et : ms[i].take N = ms[i].take 200 := by rw [List.take_of_length_le (by omega), List.take_of_length_le (by omega)]
          rw [et] at hP0
          have hcat := catP_succ ms i him
          have hcl := catP_len ms i
          have j1 : (N : Int) ≤ (cp : Int) := by omega
          have j0 : (0 : Int) ≤ (N : Int) := by omega
          have CM := more_any (sumS 14695981039346656037 (catP ms i)) (sumS_lt _ (by decide) _) _ _ wr.drew (by omega) (hP0.keep ((Below.refl _ wr).drew))
          rw [← sumS_app, ← hcat] at CM
          have HAP : (catP ms i).length + (ms[i].take 200).length ≤ 1000000 := by omega
          have HCAT := Lib.hid hcat
          have hz0 := hb.size
          have HO := Lib.hid hO
          have HP := Lib.hid hP0
          have HB := Lib.hid hb
          have HAP' := Lib.hid HAP
          obtain ⟨va, ca, rfl⟩ := hO.shape
          clear hcat hP0 hcl hpl hO hb hR et HAP
          generalize sumS 14695981039346656037 (catP ms i) = si at *
          generalize hsn : sumS 14695981039346656037 (catP ms (i + 1)) = sn at *
          have HSN := Lib.hid hsn
          generalize ms[i].take 200 = pc at *
          generalize hcp : catP ms i = ca0 at *
          clear hsn hcp him hlen
          go_wp2_with fail
          go_region
          go_wp2_with fail
          (with_reducible refine CM.mono ?_); rintro e w3 ⟨rfl, h3⟩
          have HO3 := (HO.out.below ((Below.refl _ wr).drew)).below h3
          have HP3 := (HP.out.keep ((Below.refl _ wr).drew)).keep h3
          have HB3 := Below.chain (HB.out.drew) h3
          have hz3 := HB3.size
          clear CM
          go_upto_region 6 with (at_builtin; refine wpList_append_rw (E := encU) rfl _ _ _ rfl Try.underlying22 info5 rfl (by decide) (by decide) rfl rfl HO3 HP3 HAP'.out hz3 ?_; intro v4 w4 hO4 hg4 _; have hB4 := Lib.hid (HB3.grown hg4 hz3 (fun k hk => HO3.row k hk)))
          have HO4 := Lib.hid hO4
          obtain ⟨a4, c4, rfl⟩ := hO4.shape
          clear hO4 hg4 HO3 HP3 HB3
          go_wp2_with fail
          go_roundg (L - (i + 1))
          case rel => exact ⟨i + 1, by omega, by omega, by go_num, by rw [HSN.out], by rw [HCAT.out]; exact HO4.out, hB4.out⟩
          case measure => omega

      · have i1 : (i : Int) < (L : Int) := by omega
        have i2 : decide ((i : Int) < 30) = false := by simp; omega
        have i2' : decide (i < 30) = false := by simp; omega
        have C := sum_any _ _ wr (by have := catP_len ms i; omega) hO.rw
        have HB := Lib.hid hb
        obtain ⟨va, ca, rfl⟩ := hO.shape
        generalize sumS 14695981039346656037 (catP ms i) = si at *
        clear hO hb
        go_wp2_with fail
        (with_reducible refine C.mono ?_); rintro e w3 ⟨rfl, h3⟩
        have HB3 := Lib.hid (Below.chain HB.out h3)
        clear h3
        go_wp2_with fail
        go_ret
        exact ⟨by simp, HB3.out⟩

    · have i1 : decide ((i : Int) < (L : Int)) = false := by simp; omega
      have i1' : decide (i < L) = false := by simp; omega
      have C := sum_any _ _ wr (by have := catP_len ms i; omega) hO.rw
      have HB := Lib.hid hb
      obtain ⟨va, ca, rfl⟩ := hO.shape
      generalize sumS 14695981039346656037 (catP ms i) = si at *
      clear hO hb
      go_wp2_with fail
      (with_reducible refine C.mono ?_); rintro e w3 ⟨rfl, h3⟩
      have HB3 := Lib.hid (Below.chain HB.out h3)
      clear h3
      go_wp2_with fail
      go_ret
      exact ⟨by simp, HB3.out⟩

end Go.Proofs.Ytfkjnpoocfmfcaa.SumPieces
