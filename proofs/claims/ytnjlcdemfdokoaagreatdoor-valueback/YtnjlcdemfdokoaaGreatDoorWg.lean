import Derived.Test.YtnjlcdemfdokoaaGreatDoorWf
import Derived.Lib.AppendIntMem
import Derived.Lib.LaidTab
namespace Go.Proofs.YtnjlcdemfdokoaaGreatDoor
open Go Go.RowKit
/-- what the listed variables hold -/
structure Tabs (w : World) : Prop where
  p10 : Lib.TabIs Tryz.prog w "internal/strconv.uint64pow10" .u64 Lib.pow10Tab
  tz : TabAt 2 Lib.deBruijn64tab w
  es : ∃ te pe, w.cell? ⟨3, 0, none⟩ = some (.iface te pe)
  er : ∃ te pe, w.cell? ⟨4, 0, none⟩ = some (.iface te pe)
theorem Tabs.below {w w' : World} (h : Tabs w) (hb : Below w.heap.size w w') : Tabs w' := by
  refine ⟨(Lib.tabBelow_of_tabIs h.p10) w' hb, fun j hj => ?_, ?_, ?_⟩
  · have h1 := h.tz j hj
    exact (hb.cell (p := ⟨2, j, none⟩) (Lib.lt_of_cell h1)).trans h1
  · obtain ⟨te, pe, h1⟩ := h.es
    exact ⟨te, pe, (hb.cell (p := ⟨3, 0, none⟩) (Lib.lt_of_cell h1)).trans h1⟩
  · obtain ⟨te, pe, h1⟩ := h.er
    exact ⟨te, pe, (hb.cell (p := ⟨4, 0, none⟩) (Lib.lt_of_cell h1)).trans h1⟩
theorem Below.chain {w w' w'' : World} (h : Below w.heap.size w w') (k : Below w'.heap.size w' w'') : Below w.heap.size w w'' := h.trans (k.mono h.size)

theorem parts0 (w : World) : Calls Tryz.prog 99 #[.float .f64 0] w fun e w' => e = .returned (.tuple #[.int .u64 0, .int .i64 0]) ∧ w = w' := by
  have h0 : (FloatKind.f64.format.order 0 0 == some Ordering.eq) = true := by decide +kernel
  go_enter Tryz.func99, Tryz.ntmps99
  go_wp2_with fail
  go_ret2
  exact ⟨rfl, rfl⟩
theorem parts_fin (a : Nat) (h1 : 0 < a) (h2 : a < 9218868437227405312) (w : World) (hT : TabAt 2 Lib.deBruijn64tab w) :
    Calls Tryz.prog 99 #[.float .f64 a] w fun e w' => e = .returned (.tuple #[.int .u64 ((Flt.nm a / 2 ^ Lib.ctz 64 (Flt.nm a) : Nat) : Int), .int .i64 (Flt.fe a - 53 + (Lib.ctz 64 (Flt.nm a) : Nat))]) ∧ w = w' := by
  have h0 := eq0_false h1 h2
  obtain ⟨b1, b2⟩ := Flt.nm_bounds h1
  have HF := Frexp_any a h1 h2
  have HL := Ldexp_53 (Flt.nm a - 4503599627370496) (by omega)
  have hv := Flt.toInt_1075 (f := Flt.nm a - 4503599627370496) (by omega)
  rw [show 4503599627370496 + (Flt.nm a - 4503599627370496) = Flt.nm a from by omega] at hv
  have hrun := fun W => run_convert_float_int (P := Tryz.prog) W 26 22 .f64 .u64 _ _ (by rw [Tryz.underlying26]; rfl) Tryz.underlying22 hv
  have HT := Tryz.bits_TrailingZeros64 (Flt.nm a) (by omega) w (fun _ => hT)
  have hc : Lib.ctz 64 (Flt.nm a) < 64 := by
    unfold Lib.ctz
    rw [if_neg (by omega)]
    obtain ⟨m, _, hk⟩ := Lib.ctzFrom_spec 64 (Flt.nm a) (by omega) (Nat.lt_of_lt_of_le b2 (by decide))
    exact hk
  have f1 : -1073 ≤ Flt.fe a := by unfold Flt.fe; omega
  have f2 : Flt.fe a ≤ 1100 := by
    unfold Flt.fe
    have := Flt.log2_le52 (Flt.mant_pos h1) (Flt.mant_lt a)
    have : Flt.xp a ≤ 2046 := by unfold Flt.xp; omega
    omega
  generalize 4602678819172646912 + (Flt.nm a - 4503599627370496) = z at *
  generalize 4841369599423283200 + (Flt.nm a - 4503599627370496) = y at *
  generalize Flt.nm a = m at *
  generalize Flt.fe a = fe at *
  generalize Lib.ctz 64 m = k at *
  clear hT hv h1 h2
  go_enter Tryz.func99, Tryz.ntmps99
  go_wp2_with (first | (go_at_call 125; refine (HF _).mono ?_; rintro e w' ⟨rfl, rfl⟩) | (go_at_call 126; refine (HL _).mono ?_; rintro e w' ⟨rfl, rfl⟩) | (go_at_call 127; refine HT.mono ?_; rintro e w' ⟨rfl, rfl⟩))
  go_ret2
  exact ⟨ret_tup2 (val_int (show (m : Int) / 2 ^ k = ((m / 2 ^ k : Nat) : Int) by simp)) rfl, rfl⟩

open Go.Sort in
set_option maxHeartbeats 6400000 in
set_option maxRecDepth 100000 in
theorem iformat_any (u : Nat) (hu64 : u < 18446744073709551616) (w : World) (hT : Tabs w) :
    Calls Tryz.prog 128 #[.int .u64 u, .int .i64 10] w fun e w' => e = .returned (.string ⟨(Lib.decDigits u).toArray⟩) ∧ Below w.heap.size w w' := by
  by_cases hs : u < 100
  · go_enter Tryz.func128, Tryz.ntmps128
    go_wp2_with (go_at_call 121; refine (Tryz.internal_strconv_small u hs _).mono ?_; rintro e w' ⟨rfl, rfl⟩)
    go_ret
    exact ⟨rfl, Below.refl _ _⟩
  · have hu1 : 1 ≤ u := by omega
    have hnd20 : Lib.nDigits u ≤ 20 := by have := Lib.numDigits_eq u hu1 hu64; split at this <;> omega
    have hal : Tryz.prog.arrayLen 128 = 24 := by simp [Program.arrayLen, Tryz.underlying128]
    have hsl : ∀ W, (Instr.sliceAt 128 (.pointer (some ⟨w.heap.size, 0, none⟩)) none (some (.int .i64 (Lib.nDigits u : Int))) none).run Tryz.prog W = .ok (.slice (some ⟨w.heap.size, 0, none⟩) (Lib.nDigits u) 24) W := fun W => by
      rw [run_sliceAt_array_h W 128 ⟨w.heap.size, 0, none⟩ (by simp [Program.arrayLen, Program.elem, Tryz.underlying128]) .i64 (Lib.nDigits u : Int) (by omega) (by rw [hal]; omega)]
      go_simp
    have hH0 := Lib.holds_zero0 w 128 (Lib.nDigits u) (by omega)
    have hfmt := Tryz.internal_strconv_formatBase10 w.heap.size 0 24 u (Array.replicate (Lib.nDigits u) 0) (w.alloc (.cells Lib.zeros24 128)) hH0 (by rw [Array.size_replicate]; exact Lib.lt_pow_nDigits u) hu64 (by rw [Array.size_replicate]; omega)
    rw [Array.size_replicate] at hfmt
    have HH0 := Lib.hid hH0
    have iu : (100 : Int) ≤ (u : Int) := by omega
    have htab := hT.p10
    clear hH0 hal hT hs
    go_enter Tryz.func128, Tryz.ntmps128
    go_wp2_with (first
      | (go_at_call 122; refine (Tryz.internal_strconv_numDigits u hu1 hu64 _ (Lib.tabIs_alloc htab _)).mono ?_; rintro e w' ⟨rfl, rfl⟩))
    go_at_call 123
    refine hfmt.mono ?_
    rintro e w' ⟨rfl, k, v', dk, rfl, hF⟩
    have hcv : (convert 105 9 (.slice (some ⟨w.heap.size, 0, none⟩) (Lib.nDigits u) 24)).run Tryz.prog ((putRow (fun (b : UInt8) => Value.int .u8 (b.toNat : Int)) (w.alloc (.cells Lib.zeros24 128)) w.heap.size 0 dk).drewN k) = .ok (.string ⟨(Lib.decDigits u).toArray⟩) ((putRow (fun (b : UInt8) => Value.int .u8 (b.toNat : Int)) (w.alloc (.cells Lib.zeros24 128)) w.heap.size 0 dk).drewN k) := by
      have h := run_convert_bytes_back (P := Tryz.prog) ((putRow (fun (b : UInt8) => Value.int .u8 (b.toNat : Int)) (w.alloc (.cells Lib.zeros24 128)) w.heap.size 0 dk).drewN k) 105 9 5 ⟨w.heap.size, 0, none⟩ 24 (Lib.decDigits u) Tryz.underlying105 Tryz.underlying5 Tryz.underlying9 (fun j hj => by
        rw [Lib.row_is_numeral hF j hj, Lib.add_plain, World.cell?_drewN]
        exact cell?_putRow (fun (b : UInt8) => Value.int .u8 (b.toNat : Int)) _ w.heap.size 0 _ dk HH0.out (by rw [hF.size, Array.size_replicate]) j (by rw [hF.size]; rw [Lib.decDigits_length] at hj; exact hj))
      rw [Lib.decDigits_length] at h
      exact h
    obtain ⟨os, eo⟩ := Lib.fin_at w (.cells Lib.zeros24 128) dk k 0
    have hb : Below w.heap.size w ((putRow (fun (b : UInt8) => Value.int .u8 (b.toNat : Int)) (w.alloc (.cells Lib.zeros24 128)) w.heap.size 0 dk).drewN k) := by rw [eo]; exact Lib.below_grow _ w (Nat.le_refl _) k os
    generalize (putRow (fun (b : UInt8) => Value.int .u8 (b.toNat : Int)) (w.alloc (.cells Lib.zeros24 128)) w.heap.size 0 dk).drewN k = W2 at hcv hb ⊢
    clear eo HH0 hfmt hF
    go_wp2
    go_ret
    exact ⟨rfl, hb⟩
theorem format_any (u : Nat) (hu64 : u < 18446744073709551616) (w : World) (hT : Tabs w) :
    Calls Tryz.prog 101 #[.int .u64 u, .int .i64 10] w fun e w' => e = .returned (.string ⟨(Lib.decDigits u).toArray⟩) ∧ Below w.heap.size w w' := by
  go_enter Tryz.func101, Tryz.ntmps101
  go_wp2_with (go_at_call 128; refine (iformat_any u hu64 _ hT).mono ?_)
  rintro e w' ⟨rfl, hb⟩
  go_wp2
  go_ret
  exact ⟨rfl, hb⟩
theorem itoa_any (n : Int) (h0 : -9223372036854775808 ≤ n) (h1 : n ≤ 9223372036854775807) (w : World) (hT : Tabs w) :
    Calls Tryz.prog 102 #[.int .i64 n] w fun e w' => e = .returned (.string ⟨(Lib.itoa n).toArray⟩) ∧ Below w.heap.size w w' :=
  (Tryz.strconv_Itoa n h0 h1 w hT.p10).mono fun e w' ⟨he, k, os, hw⟩ => ⟨he, by rw [hw]; exact Lib.below_grow _ w (Nat.le_refl _) k os⟩
end Go.Proofs.YtnjlcdemfdokoaaGreatDoor
