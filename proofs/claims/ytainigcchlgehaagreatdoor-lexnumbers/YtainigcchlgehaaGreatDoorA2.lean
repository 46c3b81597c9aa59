import Derived.Test.YtainigcchlgehaaGreatDoorA1
import Derived.Test.YtainigcchlgehaaGreatDoorShelf
import Derived.Lib.AppendIntMem
import Derived.Lib.LaidTab
import Derived.Lib.Strings
import Derived.Lib.Walk
import Derived.Lib.ConvBytes
import Derived.Lib.ParseIntBMem
import Derived.Laws.Strings3
import Derived.Laws.Closers25
import Derived.Laws.Closers25b
import Derived.BigCall
import Derived.BigGuard
import Derived.Lib.AtoiErrMem
import Derived.Lib.CutLaws
import Derived.Lib.ParseIntBCases
namespace Go.Proofs.YtainigcchlgehaaGreatDoor
open Go
namespace Flt
/-- the significand of a positive finite float, moved up to fifty-three bits -/
def nm (a : Nat) : Nat := mant a * 2 ^ (52 - (mant a).log2)
def fe (a : Nat) : Int := (xp a : Int) + (mant a).log2 - 1073
theorem nm_bounds {a : Nat} (h1 : 0 < a) : 4503599627370496 ≤ nm a ∧ nm a < 9007199254740992 := norm_mant (mant_pos h1) (mant_lt a)
theorem mant_norm {a : Nat} (h : 4503599627370496 ≤ a) : mant a = 4503599627370496 + a % 4503599627370496 := by unfold mant; rw [if_neg (by omega)]
theorem log2_norm {m : Nat} (h1 : 4503599627370496 ≤ m) (h2 : m < 9007199254740992) : m.log2 = 52 := by
  have := log2_le52 (by omega) h2
  have h3 : 52 ≤ m.log2 := (Nat.le_log2 (by omega)).2 (by simpa using h1)
  omega
theorem nm_norm {a : Nat} (h : 4503599627370496 ≤ a) : nm a = 4503599627370496 + a % 4503599627370496 := by
  unfold nm
  rw [log2_norm (m := mant a) (by rw [mant_norm h]; omega) (mant_lt a), mant_norm h]
  simp
theorem sub_facts {a : Nat} (h1 : 0 < a) (h2 : a < 4503599627370496) :
    mant a = a ∧ xp a = 0 ∧ rungOf a 52 / 4503599627370496 = a.log2 + 1 ∧ rungOf a 52 % 4503599627370496 = nm a - 4503599627370496 ∧ 4503599627370496 ≤ rungOf a 52 ∧ rungOf a 52 < 9218868437227405312 := by
  have e1 : mant a = a := by unfold mant; rw [if_pos h2]
  have e2 : xp a = 0 := by unfold xp; omega
  have ⟨b1, b2⟩ := nm_bounds h1
  have hl := log2_le52 (m := a) h1 (by omega)
  have e3 : rungOf a 52 = (a.log2 + 1) * 4503599627370496 + (nm a - 4503599627370496) := by
    unfold rungOf nm
    rw [if_neg (by omega), e1, show 52 + a.log2 - 51 = a.log2 + 1 from by omega]
  refine ⟨e1, e2, ?_, ?_, ?_, ?_⟩ <;> rw [e3] <;> omega
end Flt
theorem frexp_any (a : Nat) (h1 : 0 < a) (h2 : a < 9218868437227405312) (w : World) :
    Calls Tryz.prog 136 #[.float .f64 a] w fun e w' => e = .returned (.tuple #[.float .f64 (4602678819172646912 + (Flt.nm a - 4503599627370496)), .int .i64 (Flt.fe a)]) ∧ w = w' := by
  by_cases hs : a < 4503599627370496
  · obtain ⟨e1, e2, e3, e4, e5, e6⟩ := Flt.sub_facts h1 hs
    have h := frexp_core a (Flt.rungOf a 52) (-52) h1 h2 e5 e6 (by omega) (by omega) (fun w => normalize_s a h1 hs w) w
    rw [e3, e4] at h
    have e7 : (-52 : Int) + ((a.log2 + 1 : Nat) : Int) - 1022 = Flt.fe a := by unfold Flt.fe; rw [e1, e2]; omega
    rw [e7] at h
    exact h
  · have h := frexp_core a a 0 h1 h2 (by omega) h2 (by omega) (by omega) (fun w => normalize_n a (by omega) h2 w) w
    have e7 : (0 : Int) + ((a / 4503599627370496 : Nat) : Int) - 1022 = Flt.fe a := by
      unfold Flt.fe
      rw [Flt.log2_norm (m := Flt.mant a) (by rw [Flt.mant_norm (by omega)]; omega) (Flt.mant_lt a)]
      unfold Flt.xp; omega
    have e8 : a % 4503599627370496 = Flt.nm a - 4503599627370496 := by rw [Flt.nm_norm (by omega)]; omega
    rw [e7, e8] at h
    exact h
theorem Frexp_any (a : Nat) (h1 : 0 < a) (h2 : a < 9218868437227405312) (w : World) :
    Calls Tryz.prog 127 #[.float .f64 a] w fun e w' => e = .returned (.tuple #[.float .f64 (4602678819172646912 + (Flt.nm a - 4503599627370496)), .int .i64 (Flt.fe a)]) ∧ w = w' := by
  have H := frexp_any a h1 h2
  generalize 4602678819172646912 + (Flt.nm a - 4503599627370496) = z at *
  go_enter Tryz.func127, Tryz.ntmps127
  go_wp2_with (go_at_call 136; refine (H _).mono ?_; rintro e w' ⟨rfl, rfl⟩)
  go_ret2
  exact ⟨rfl, rfl⟩
/-- a half to one, times 2 to the power of 53 -/
theorem Ldexp_53 (f : Nat) (hf : f < 4503599627370496) (w : World) :
    Calls Tryz.prog 104 #[.float .f64 (4602678819172646912 + f), .int .i64 53] w fun e w' => e = .returned (.float .f64 (4841369599423283200 + f)) ∧ w = w' := by
  have H : ∀ w, Calls Tryz.prog 126 #[.float .f64 (4602678819172646912 + f), .int .i64 53] w fun e w' => e = .returned (.float .f64 (4841369599423283200 + f)) ∧ w = w' := by
    intro w
    have e1 : (4602678819172646912 + f) / 4503599627370496 = 1022 := by omega
    have e2 : (4602678819172646912 + f) % 4503599627370496 = f := by omega
    have h := ldexp_mid (4602678819172646912 + f) (4602678819172646912 + f) 0 53 (by omega) (by omega) (by omega) (by omega) (by omega) (by omega) (by omega) (by omega) (fun w => normalize_n _ (by omega) (by omega) w) (by rw [e1]; decide) (by rw [e1]; decide) w
    rw [e1, e2] at h
    exact h
  generalize 4602678819172646912 + f = z at *
  generalize 4841369599423283200 + f = y at *
  clear hf
  go_enter Tryz.func104, Tryz.ntmps104
  go_wp2_with (go_at_call 126; refine (H _).mono ?_; rintro e w' ⟨rfl, rfl⟩)
  go_ret
  exact ⟨rfl, rfl⟩
theorem Flt.toInt_1075 {f : Nat} (hf : f < 4503599627370496) : floatToIntVal .f64 (4841369599423283200 + f) .u64 = some ((4503599627370496 + f : Nat) : Int) := by
  have hr : Flt.rung (4841369599423283200 + f) = 4841369599423283200 + f := Flt.rung_small (by omega)
  have h := Flt.read_fin (a := 4841369599423283200 + f) (by omega) (by rw [hr]; omega)
  rw [hr, Flt.neg_small (by omega), Flt.mant_norm (by omega)] at h
  have e1 : Flt.xp (4841369599423283200 + f) = 1074 := by unfold Flt.xp; omega
  rw [e1] at h
  unfold floatToIntVal
  have h' : FloatKind.f64.decode (4841369599423283200 + f) = .number false (4503599627370496 + (4841369599423283200 + f) % 4503599627370496) 0 := h
  rw [h', show 4503599627370496 + (4841369599423283200 + f) % 4503599627370496 = 4503599627370496 + f from by omega]
  have h2 : (Ieee.Datum.number false (4503599627370496 + f) 0).toInt .zero = some ((4503599627370496 + f : Nat) : Int) := by
    simp only [Ieee.Datum.toInt, Ieee.Datum.integral, Ieee.Toward.cut, Ieee.signed]
    simp
  rw [h2]
  simp only []
  rw [if_pos]
  have u1 : IntKind.u64.min = 0 := by decide
  rw [u1, Flt.u64max]
  omega
end Go.Proofs.YtainigcchlgehaaGreatDoor
namespace Go.Proofs.YtainigcchlgehaaGreatDoor
open Go Go.RowKit
/-- what the listed variables hold -/
structure Tabs (w : World) : Prop where
  p10 : Lib.TabIs Tryz.prog w "internal/strconv.uint64pow10" .u64 Lib.pow10Tab
  tz : TabAt 8 Lib.deBruijn64tab w
  es : ∃ te pe, w.cell? ⟨5, 0, none⟩ = some (.iface te pe)
  er : ∃ te pe, w.cell? ⟨6, 0, none⟩ = some (.iface te pe)
theorem Tabs.below {w w' : World} (h : Tabs w) (hb : Below w.heap.size w w') : Tabs w' := by
  refine ⟨(Lib.tabBelow_of_tabIs h.p10) w' hb, fun j hj => ?_, ?_, ?_⟩
  · have h1 := h.tz j hj
    exact (hb.cell (p := ⟨8, j, none⟩) (Lib.lt_of_cell h1)).trans h1
  · obtain ⟨te, pe, h1⟩ := h.es
    exact ⟨te, pe, (hb.cell (p := ⟨5, 0, none⟩) (Lib.lt_of_cell h1)).trans h1⟩
  · obtain ⟨te, pe, h1⟩ := h.er
    exact ⟨te, pe, (hb.cell (p := ⟨6, 0, none⟩) (Lib.lt_of_cell h1)).trans h1⟩
theorem Below.chain {w w' w'' : World} (h : Below w.heap.size w w') (k : Below w'.heap.size w' w'') : Below w.heap.size w w'' := h.trans (k.mono h.size)

theorem parts0 (w : World) : Calls Tryz.prog 109 #[.float .f64 0] w fun e w' => e = .returned (.tuple #[.int .u64 0, .int .i64 0]) ∧ w = w' := by
  have h0 : (FloatKind.f64.format.order 0 0 == some Ordering.eq) = true := by decide +kernel
  go_enter Tryz.func109, Tryz.ntmps109
  go_wp2_with fail
  go_ret2
  exact ⟨rfl, rfl⟩
theorem parts_fin (a : Nat) (h1 : 0 < a) (h2 : a < 9218868437227405312) (w : World) (hT : TabAt 8 Lib.deBruijn64tab w) :
    Calls Tryz.prog 109 #[.float .f64 a] w fun e w' => e = .returned (.tuple #[.int .u64 ((Flt.nm a / 2 ^ Lib.ctz 64 (Flt.nm a) : Nat) : Int), .int .i64 (Flt.fe a - 53 + (Lib.ctz 64 (Flt.nm a) : Nat))]) ∧ w = w' := by
  have h0 := eq0_false h1 h2
  obtain ⟨b1, b2⟩ := Flt.nm_bounds h1
  have HF := Frexp_any a h1 h2
  have HL := Ldexp_53 (Flt.nm a - 4503599627370496) (by omega)
  have hv := Flt.toInt_1075 (f := Flt.nm a - 4503599627370496) (by omega)
  rw [show 4503599627370496 + (Flt.nm a - 4503599627370496) = Flt.nm a from by omega] at hv
  have hrun := fun W => run_convert_float_int (P := Tryz.prog) W 39 71 .f64 .u64 _ _ (by rw [Tryz.underlying39]; rfl) Tryz.underlying71 hv
  have HT := Tryz.bits_TrailingZeros64 (Flt.nm a) (by omega) w (fun _ => hT)
  have hc : Lib.ctz 64 (Flt.nm a) < 64 := by
    unfold Lib.ctz
    rw [if_neg (by omega)]
    obtain ⟨m, _, hk⟩ := Lib.ctzFrom_spec 64 (Flt.nm a) (by omega) (Nat.lt_of_lt_of_le b2 (by decide))
    exact hk
  have f1 : -1073 ≤ Flt.fe a := by unfold Flt.fe; omega
  have f2 : Flt.fe a ≤ 1100 := by
    unfold Flt.fe
    have := Flt.log2_le52 (Flt.mant_pos h1) (Flt.mant_lt a)
    have : Flt.xp a ≤ 2046 := by unfold Flt.xp; omega
    omega
  generalize 4602678819172646912 + (Flt.nm a - 4503599627370496) = z at *
  generalize 4841369599423283200 + (Flt.nm a - 4503599627370496) = y at *
  generalize Flt.nm a = m at *
  generalize Flt.fe a = fe at *
  generalize Lib.ctz 64 m = k at *
  clear hT hv h1 h2
  go_enter Tryz.func109, Tryz.ntmps109
  go_wp2_with (first | (go_at_call 127; refine (HF _).mono ?_; rintro e w' ⟨rfl, rfl⟩) | (go_at_call 104; refine (HL _).mono ?_; rintro e w' ⟨rfl, rfl⟩) | (go_at_call 128; refine HT.mono ?_; rintro e w' ⟨rfl, rfl⟩))
  go_ret2
  exact ⟨ret_tup2 (val_int (show (m : Int) / 2 ^ k = ((m / 2 ^ k : Nat) : Int) by simp)) rfl, rfl⟩

open Go.Sort in
set_option maxHeartbeats 6400000 in
set_option maxRecDepth 100000 in
theorem iformat_any (u : Nat) (hu64 : u < 18446744073709551616) (w : World) (hT : Tabs w) :
    Calls Tryz.prog 129 #[.int .u64 u, .int .i64 10] w fun e w' => e = .returned (.string ⟨(Lib.decDigits u).toArray⟩) ∧ Below w.heap.size w w' := by
  by_cases hs : u < 100
  · go_enter Tryz.func129, Tryz.ntmps129
    go_wp2_with (go_at_call 95; refine (Tryz.internal_strconv_small u hs _).mono ?_; rintro e w' ⟨rfl, rfl⟩)
    go_ret
    exact ⟨rfl, Below.refl _ _⟩
  · have hu1 : 1 ≤ u := by omega
    have hnd20 : Lib.nDigits u ≤ 20 := by have := Lib.numDigits_eq u hu1 hu64; split at this <;> omega
    have hal : Tryz.prog.arrayLen 127 = 24 := by simp [Program.arrayLen, Tryz.underlying127]
    have hsl : ∀ W, (Instr.sliceAt 127 (.pointer (some ⟨w.heap.size, 0, none⟩)) none (some (.int .i64 (Lib.nDigits u : Int))) none).run Tryz.prog W = .ok (.slice (some ⟨w.heap.size, 0, none⟩) (Lib.nDigits u) 24) W := fun W => by
      rw [run_sliceAt_array_h W 127 ⟨w.heap.size, 0, none⟩ (by simp [Program.arrayLen, Program.elem, Tryz.underlying127]) .i64 (Lib.nDigits u : Int) (by omega) (by rw [hal]; omega)]
      go_simp
    have hH0 := Lib.holds_zero0 w 127 (Lib.nDigits u) (by omega)
    have hfmt := Tryz.internal_strconv_formatBase10 w.heap.size 0 24 u (Array.replicate (Lib.nDigits u) 0) (w.alloc (.cells Lib.zeros24 127)) hH0 (by rw [Array.size_replicate]; exact Lib.lt_pow_nDigits u) hu64 (by rw [Array.size_replicate]; omega)
    rw [Array.size_replicate] at hfmt
    have HH0 := Lib.hid hH0
    have iu : (100 : Int) ≤ (u : Int) := by omega
    have htab := hT.p10
    clear hH0 hal hT hs
    go_enter Tryz.func129, Tryz.ntmps129
    go_wp2_with (first
      | (go_at_call 96; refine (Tryz.internal_strconv_numDigits u hu1 hu64 _ (Lib.tabIs_alloc htab _)).mono ?_; rintro e w' ⟨rfl, rfl⟩))
    go_at_call 97
    refine hfmt.mono ?_
    rintro e w' ⟨rfl, k, v', dk, rfl, hF⟩
    have hcv : (convert 52 9 (.slice (some ⟨w.heap.size, 0, none⟩) (Lib.nDigits u) 24)).run Tryz.prog ((putRow (fun (b : UInt8) => Value.int .u8 (b.toNat : Int)) (w.alloc (.cells Lib.zeros24 127)) w.heap.size 0 dk).drewN k) = .ok (.string ⟨(Lib.decDigits u).toArray⟩) ((putRow (fun (b : UInt8) => Value.int .u8 (b.toNat : Int)) (w.alloc (.cells Lib.zeros24 127)) w.heap.size 0 dk).drewN k) := by
      have h := run_convert_bytes_back (P := Tryz.prog) ((putRow (fun (b : UInt8) => Value.int .u8 (b.toNat : Int)) (w.alloc (.cells Lib.zeros24 127)) w.heap.size 0 dk).drewN k) 52 9 5 ⟨w.heap.size, 0, none⟩ 24 (Lib.decDigits u) Tryz.underlying52 Tryz.underlying5 Tryz.underlying9 (fun j hj => by
        rw [Lib.row_is_numeral hF j hj, Lib.add_plain, World.cell?_drewN]
        exact cell?_putRow (fun (b : UInt8) => Value.int .u8 (b.toNat : Int)) _ w.heap.size 0 _ dk HH0.out (by rw [hF.size, Array.size_replicate]) j (by rw [hF.size]; rw [Lib.decDigits_length] at hj; exact hj))
      rw [Lib.decDigits_length] at h
      exact h
    obtain ⟨os, eo⟩ := Lib.fin_at w (.cells Lib.zeros24 127) dk k 0
    have hb : Below w.heap.size w ((putRow (fun (b : UInt8) => Value.int .u8 (b.toNat : Int)) (w.alloc (.cells Lib.zeros24 127)) w.heap.size 0 dk).drewN k) := by rw [eo]; exact Lib.below_grow _ w (Nat.le_refl _) k os
    generalize (putRow (fun (b : UInt8) => Value.int .u8 (b.toNat : Int)) (w.alloc (.cells Lib.zeros24 127)) w.heap.size 0 dk).drewN k = W2 at hcv hb ⊢
    clear eo HH0 hfmt hF
    go_wp2
    go_ret
    exact ⟨rfl, hb⟩
theorem format_any (u : Nat) (hu64 : u < 18446744073709551616) (w : World) (hT : Tabs w) :
    Calls Tryz.prog 111 #[.int .u64 u, .int .i64 10] w fun e w' => e = .returned (.string ⟨(Lib.decDigits u).toArray⟩) ∧ Below w.heap.size w w' := by
  go_enter Tryz.func111, Tryz.ntmps111
  go_wp2_with (go_at_call 129; refine (iformat_any u hu64 _ hT).mono ?_)
  rintro e w' ⟨rfl, hb⟩
  go_wp2
  go_ret
  exact ⟨rfl, hb⟩
theorem itoa_any (n : Int) (h0 : -9223372036854775808 ≤ n) (h1 : n ≤ 9223372036854775807) (w : World) (hT : Tabs w) :
    Calls Tryz.prog 112 #[.int .i64 n] w fun e w' => e = .returned (.string ⟨(Lib.itoa n).toArray⟩) ∧ Below w.heap.size w w' :=
  (Tryz.strconv_Itoa n h0 h1 w hT.p10).mono fun e w' ⟨he, k, os, hw⟩ => ⟨he, by rw [hw]; exact Lib.below_grow _ w (Nat.le_refl _) k os⟩
end Go.Proofs.YtainigcchlgehaaGreatDoor
namespace Go.Proofs.YtainigcchlgehaaGreatDoor
open Go Go.RowKit
namespace Flt
/-- the odd significand of a positive finite float, and its exponent -/
def oddM (a : Nat) : Nat := if a = 0 then 0 else nm a / 2 ^ Lib.ctz 64 (nm a)
def oddE (a : Nat) : Int := if a = 0 then 0 else fe a - 53 + (Lib.ctz 64 (nm a) : Nat)
/-- the text of a float -/
def text (a : Nat) : List UInt8 :=
  if isNan a = true then [110, 97, 110] else if a = 9218868437227405312 then [105, 110, 102] else if a = 18442240474082181120 then [45, 105, 110, 102]
  else (if neg a = true then [45] else []) ++ (Lib.decDigits (oddM (rung a)) ++ (112 :: Lib.itoa (oddE (rung a))))
theorem ctz_lt {m : Nat} (h0 : 0 < m) (h : m < 9007199254740992) : Lib.ctz 64 m < 64 := by
  unfold Lib.ctz
  rw [if_neg (by omega)]
  obtain ⟨_, _, hk⟩ := Lib.ctzFrom_spec 64 m h0 (Nat.lt_of_lt_of_le h (by decide))
  exact hk
theorem oddM_lt (a : Nat) : oddM a < 9007199254740992 := by
  unfold oddM
  split
  · decide
  · have := (nm_bounds (a := a) (by omega)).2
    exact Nat.lt_of_le_of_lt (Nat.div_le_self _ _) this
theorem oddE_bounds {a : Nat} (h : a < 9218868437227405312) : -1200 ≤ oddE a ∧ oddE a ≤ 1200 := by
  unfold oddE
  split
  · omega
  · have h1 : 0 < a := by omega
    have ⟨b1, b2⟩ := nm_bounds h1
    have := ctz_lt (m := nm a) (by omega) b2
    have := log2_le52 (mant_pos h1) (mant_lt a)
    unfold fe
    have : xp a ≤ 2046 := by unfold xp; omega
    omega
theorem dec_len {m : Nat} (h : m < 18446744073709551616) : (Lib.decDigits m).length ≤ 20 := by
  by_cases h0 : m = 0
  · subst h0; rw [Lib.decDigits_one (by omega)]; simp
  · rw [Lib.decDigits_length]
    have := Lib.numDigits_eq m (by omega) h; split at this <;> omega
theorem itoa_len {x : Int} (h1 : -9223372036854775808 ≤ x) (h2 : x ≤ 9223372036854775807) : (Lib.itoa x).length ≤ 21 := by
  unfold Lib.itoa
  split
  · have := dec_len (m := x.natAbs) (by omega)
    simp; omega
  · have := dec_len (m := x.toNat) (by omega)
    omega
end Flt
theorem parts_all (a : Nat) (h2 : a < 9218868437227405312) (w : World) (hT : TabAt 8 Lib.deBruijn64tab w) :
    Calls Tryz.prog 109 #[.float .f64 a] w fun e w' => e = .returned (.tuple #[.int .u64 (Flt.oddM a : Nat), .int .i64 (Flt.oddE a)]) ∧ w = w' := by
  by_cases h0 : a = 0
  · subst h0; exact parts0 w
  · unfold Flt.oddM Flt.oddE
    rw [if_neg h0, if_neg h0]
    exact parts_fin a (by omega) h2 w hT
theorem ret_str {a b : ByteArray} (h : a = b) : Ending.returned (.string a) = .returned (.string b) := by rw [h]
theorem text_nan (a : Nat) (ha : a < 18446744073709551616) (hn : Flt.isNan a = true) (w : World) :
    Calls Tryz.prog 82 #[.float .f64 a] w fun e w' => e = .returned (.string ⟨#[110, 97, 110]⟩) ∧ w = w' := by
  go_enter Tryz.func82, Tryz.ntmps82
  go_wp2_with (go_at_call 106; refine (isnan_any _ ha _).mono ?_; rintro e w' ⟨rfl, rfl⟩)
  go_ret
  exact ⟨rfl, rfl⟩
theorem text_inf (w : World) :
    Calls Tryz.prog 82 #[.float .f64 9218868437227405312] w fun e w' => e = .returned (.string ⟨#[105, 110, 102]⟩) ∧ w = w' := by
  have HM := isnan_any 9218868437227405312 (by decide)
  rw [show Flt.isNan 9218868437227405312 = false from by decide] at HM
  have i1 := isinf1_any 9218868437227405312 (by decide)
  rw [show decide (9218868437227405312 = 9218868437227405312) = true from by simp] at i1
  go_enter Tryz.func82, Tryz.ntmps82
  go_wp2_with fail
  refine (HM _).mono ?_; rintro e w' ⟨rfl, rfl⟩
  go_wp2_with fail
  refine (i1 _).mono ?_; rintro e w' ⟨rfl, rfl⟩
  go_wp2_with fail
  go_ret
  exact ⟨rfl, rfl⟩
theorem text_ninf (w : World) :
    Calls Tryz.prog 82 #[.float .f64 18442240474082181120] w fun e w' => e = .returned (.string ⟨#[45, 105, 110, 102]⟩) ∧ w = w' := by
  have HM := isnan_any 18442240474082181120 (by decide)
  rw [show Flt.isNan 18442240474082181120 = false from by decide] at HM
  have i1 := isinf1_any 18442240474082181120 (by decide)
  rw [show decide (18442240474082181120 = 9218868437227405312) = false from by decide] at i1
  have i2 := isinfm_any 18442240474082181120 (by decide)
  rw [show decide (18442240474082181120 = 18442240474082181120) = true from by simp] at i2
  go_enter Tryz.func82, Tryz.ntmps82
  go_wp2_with fail
  refine (HM _).mono ?_; rintro e w' ⟨rfl, rfl⟩
  go_wp2_with fail
  refine (i1 _).mono ?_; rintro e w' ⟨rfl, rfl⟩
  go_wp2_with fail
  refine (i2 _).mono ?_; rintro e w' ⟨rfl, rfl⟩
  go_wp2_with fail
  go_ret
  exact ⟨rfl, rfl⟩
theorem text_core (a r m : Nat) (x : Int) (D I : List UInt8) (s : Bool) (HM : ∀ w, Calls Tryz.prog 106 #[.float .f64 a] w fun e w' => e = .returned (.bool false) ∧ w = w')
    (i1 : ∀ w, Calls Tryz.prog 107 #[.float .f64 a, .int .i64 1] w fun e w' => e = .returned (.bool false) ∧ w = w') (i2 : ∀ w, Calls Tryz.prog 107 #[.float .f64 a, .int .i64 (-1)] w fun e w' => e = .returned (.bool false) ∧ w = w')
    (HS : ∀ w, Calls Tryz.prog 108 #[.float .f64 a] w fun e w' => e = .returned (.bool s) ∧ w = w') (HA : ∀ w, Calls Tryz.prog 110 #[.float .f64 a] w fun e w' => e = .returned (.float .f64 r) ∧ w = w')
    (HP : ∀ w, Tabs w → Calls Tryz.prog 109 #[.float .f64 r] w fun e w' => e = .returned (.tuple #[.int .u64 m, .int .i64 x]) ∧ w = w')
    (HF : ∀ w, Tabs w → Calls Tryz.prog 111 #[.int .u64 m, .int .i64 10] w fun e w' => e = .returned (.string ⟨D.toArray⟩) ∧ Below w.heap.size w w')
    (HI : ∀ w, Tabs w → Calls Tryz.prog 112 #[.int .i64 x] w fun e w' => e = .returned (.string ⟨I.toArray⟩) ∧ Below w.heap.size w w')
    (hD : D.length ≤ 20) (hI : I.length ≤ 21) (w : World) (hT : Tabs w) :
    Calls Tryz.prog 82 #[.float .f64 a] w fun e w' => e = .returned (.string ⟨((if s = true then [45] else []) ++ (D ++ (112 :: I))).toArray⟩) ∧ Below w.heap.size w w' := by
  have hsum : ∀ A B C E : List UInt8, (ByteArray.mk A.toArray ++ ByteArray.mk B.toArray ++ ByteArray.mk C.toArray ++ ByteArray.mk E.toArray) = ByteArray.mk (A ++ (B ++ (C ++ E))).toArray := by
    intro A B C E
    rw [ByteArray.mk_append_mk, ByteArray.mk_append_mk, ByteArray.mk_append_mk]; simp
  have hsum0 := hsum [] D [112] I
  have hsum1 := hsum [45] D [112] I
  have H0 := Lib.hid hsum0
  have H1 := Lib.hid hsum1
  clear hsum hsum0 hsum1
  have HP' := HP w hT
  have HF' := HF w hT
  clear HP HF
  cases s
  · go_enter Tryz.func82, Tryz.ntmps82
    go_wp2_with fail
    refine (HM _).mono ?_; rintro e w' ⟨rfl, rfl⟩
    go_wp2_with fail
    refine (i1 _).mono ?_; rintro e w' ⟨rfl, rfl⟩
    go_wp2_with fail
    refine (i2 _).mono ?_; rintro e w' ⟨rfl, rfl⟩
    go_wp2_with fail
    refine (HS _).mono ?_; rintro e w' ⟨rfl, rfl⟩
    go_wp2_with fail
    refine (HA _).mono ?_; rintro e w' ⟨rfl, rfl⟩
    go_wp2_with fail
    refine HP'.mono ?_; rintro e w' ⟨rfl, rfl⟩
    go_wp2_with fail
    refine HF'.mono ?_; rintro e w1 ⟨rfl, hb1⟩
    go_wp2_with fail
    refine (HI w1 (hT.below hb1)).mono ?_; rintro e w2 ⟨rfl, hb2⟩
    go_wp2_with fail
    go_ret
    exact ⟨ret_str H0.out, Below.chain hb1 hb2⟩
  · go_enter Tryz.func82, Tryz.ntmps82
    go_wp2_with fail
    refine (HM _).mono ?_; rintro e w' ⟨rfl, rfl⟩
    go_wp2_with fail
    refine (i1 _).mono ?_; rintro e w' ⟨rfl, rfl⟩
    go_wp2_with fail
    refine (i2 _).mono ?_; rintro e w' ⟨rfl, rfl⟩
    go_wp2_with fail
    refine (HS _).mono ?_; rintro e w' ⟨rfl, rfl⟩
    go_wp2_with fail
    refine (HA _).mono ?_; rintro e w' ⟨rfl, rfl⟩
    go_wp2_with fail
    refine HP'.mono ?_; rintro e w' ⟨rfl, rfl⟩
    go_wp2_with fail
    refine HF'.mono ?_; rintro e w1 ⟨rfl, hb1⟩
    go_wp2_with fail
    refine (HI w1 (hT.below hb1)).mono ?_; rintro e w2 ⟨rfl, hb2⟩
    go_wp2_with fail
    go_ret
    exact ⟨ret_str H1.out, Below.chain hb1 hb2⟩
theorem text_any (a : Nat) (ha : a < 18446744073709551616) (w : World) (hT : Tabs w) :
    Calls Tryz.prog 82 #[.float .f64 a] w fun e w' => e = .returned (.string ⟨(Flt.text a).toArray⟩) ∧ Below w.heap.size w w' := by
  cases hn : Flt.isNan a
  · by_cases h1 : a = 9218868437227405312
    · subst h1
      exact (text_inf w).mono fun e w' ⟨he, hw⟩ => ⟨he.trans (ret_str (by decide)), hw ▸ Below.refl _ _⟩
    · by_cases h2 : a = 18442240474082181120
      · subst h2
        exact (text_ninf w).mono fun e w' ⟨he, hw⟩ => ⟨he.trans (ret_str (by decide)), hw ▸ Below.refl _ _⟩
      · have HM := isnan_any a ha
        rw [hn] at HM
        have i1 := isinf1_any a ha
        rw [show decide (a = 9218868437227405312) = false from by simpa using h1] at i1
        have i2 := isinfm_any a ha
        rw [show decide (a = 18442240474082181120) = false from by simpa using h2] at i2
        have hr : Flt.rung a < 9218868437227405312 := by
          unfold Flt.isNan at hn
          simp only [decide_eq_false_iff_not, Nat.not_lt] at hn
          unfold Flt.rung at hn ⊢
          omega
        have hx := Flt.oddE_bounds hr
        have hm := Flt.oddM_lt (Flt.rung a)
        have h := text_core a (Flt.rung a) (Flt.oddM (Flt.rung a)) (Flt.oddE (Flt.rung a)) (Lib.decDigits (Flt.oddM (Flt.rung a))) (Lib.itoa (Flt.oddE (Flt.rung a))) (Flt.neg a) HM i1 i2 (signbit_any a ha) (abs_any a ha)
          (fun w hT => parts_all _ hr w hT.tz) (fun w hT => format_any _ (by omega) w hT) (fun w hT => itoa_any _ (by omega) (by omega) w hT) (Flt.dec_len (by omega)) (Flt.itoa_len (by omega) (by omega)) w hT
        unfold Flt.text
        rw [hn, if_neg (by decide), if_neg h1, if_neg h2]
        exact h
  · have e : Flt.text a = [110, 97, 110] := by unfold Flt.text; rw [if_pos hn]
    rw [e]
    exact (text_nan a ha hn w).mono fun e w' ⟨he, hw⟩ => ⟨he, hw ▸ Below.refl _ _⟩
end Go.Proofs.YtainigcchlgehaaGreatDoor
namespace Go.Proofs.YtainigcchlgehaaGreatDoor
open Go Go.RowKit
set_option maxRecDepth 100000 in
theorem iparse_empty (t : ByteArray) (hne : t.size = 0) (w : World) :
    Calls Tryz.prog 90 #[.string t, .int .i64 10, .int .i64 53] w fun e w' => e = .returned (.tuple #[.int .u64 0, .iface 121 (.int .i64 2)]) ∧ w = w' := by
  have hemp : t.toList.isEmpty = true := by
    rw [← decide_eq_emptyBytes]
    exact decide_eq_true (by
      have : t.data.size = 0 := hne
      obtain ⟨d⟩ := t
      have : d = #[] := Array.eq_empty_of_size_eq_zero this
      rw [this]; rfl)
  go_enter Tryz.func90, Tryz.ntmps90
  go_wp2
  go_ret2
  exact ⟨rfl, rfl⟩

set_option maxHeartbeats 32000000 in
set_option maxRecDepth 100000 in
theorem iparse_53 (t : ByteArray) (hne : t.size ≠ 0) (hmax : t.size ≤ 9223372036854775806) (w : World) :
    Calls Tryz.prog 90 #[.string t, .int .i64 10, .int .i64 53] w fun e w' => e = .returned (Lib.uintTupleM 121 9007199254740991 (Lib.parseUintM 9007199254740991 0 t.data.toList)) ∧ w' = Lib.bytesWorld w 5 t := by
  have hemp : t.toList.isEmpty = false := by
    rw [← decide_eq_emptyBytes]
    exact decide_eq_false (fun h => hne (by rw [h]; rfl))
  have hcv := Lib.run_convert_string_bytes (P := Tryz.prog) w 9 52 5 t (u := .string) Tryz.underlying9 Tryz.underlying52 Tryz.underlying5
  have hB : ∀ j, j < t.size → (Lib.bytesWorld w 5 t).cell? ⟨w.heap.size, j, none⟩ = some (.int .u8 (t.data.toList.getD j 0).toNat) := fun j hj => Lib.bytesWorld_cell w 5 t j hj
  obtain ⟨W1, hW1⟩ : ∃ W1, W1 = Lib.bytesWorld w 5 t := ⟨_, rfl⟩
  rw [← hW1] at hcv hB ⊢
  clear hW1
  obtain ⟨bs, hL⟩ : ∃ bs, bs = t.data.toList := ⟨_, rfl⟩
  have hLn : bs.length = t.size := by rw [hL, Lib.size_eq]
  rw [← hL] at hB ⊢
  clear hL
  have hmv : IntKind.u64.wrap (IntKind.u64.wrap 9007199254740992 - 1) = 9007199254740991 := by
    rw [IntKind.wrap_u64, IntKind.wrap_u64]
    decide
  go_enter Tryz.func90, Tryz.ntmps90
  go_wp2
  go_loop [12, 13, 101] (fun vu vn vi => ∃ (k acc : Nat) (a : Int), vu = .bool false ∧ vn = .int .u64 a ∧ vi = .int .i64 k ∧ k ≤ t.size ∧ Hid (a = (acc : Int) ∧ acc ≤ 9007199254740991 ∧ Lib.parseUintM 9007199254740991 0 bs = Lib.parseUintM 9007199254740991 acc (bs.drop k)))
    (fun _ _ vi => t.size - (intOf vi).toNat)
  case atStart => exact ⟨0, 0, 0, rfl, rfl, rfl, by omega, rfl, by omega, rfl⟩
  case round =>
    obtain ⟨k, acc, a, rfl, rfl, rfl, hk, hh⟩ := hrel
    obtain ⟨ha, hacc, hdec⟩ := hh.out
    clear hh
    have a0 : 0 ≤ a := by omega
    have a1 : a ≤ 9007199254740991 := by omega
    by_cases hkn : k < t.size
    · have hc := hB k hkn
      have hdrop : bs.drop k = bs[k]'(by omega) :: bs.drop (k + 1) := List.drop_eq_getElem_cons (by omega)
      have hget : bs.getD k 0 = bs[k]'(by omega) := by simp [List.getD, List.getElem?_eq_getElem (show k < bs.length by omega)]
      rw [hdrop] at hdec
      rw [hget] at hc
      generalize bs[k]'(by omega) = c at hc hdec
      have hc256 : c.toNat < 256 := c.toNat_lt
      clear hB hdrop hget
      by_cases hdig : 48 ≤ c.toNat ∧ c.toNat ≤ 57
      · obtain ⟨hd0, hd1⟩ := hdig
        have hcut : ¬ 1844674407370955162 ≤ acc := by omega
        by_cases hov : 9007199254740991 < acc * 10 + (c.toNat - 48)
        · have hF : Lib.parseUintM 9007199254740991 acc (c :: bs.drop (k + 1)) = .range := by simp [Lib.parseUintM, hd0, hd1, hcut, hov]
          rw [hF] at hdec
          have iov : 9007199254740991 < a * 10 + ((c.toNat : Int) - 48) := by omega
          clear hcut hacc hF hov ha
          go_wp2
          go_ret2
          exact ⟨rfl, rfl⟩
        · have hF : Lib.parseUintM 9007199254740991 acc (c :: bs.drop (k + 1)) = Lib.parseUintM 9007199254740991 (acc * 10 + (c.toNat - 48)) (bs.drop (k + 1)) := by simp [Lib.parseUintM, hd0, hd1, hcut, hov]
          have HN : Hid (a * 10 + ((c.toNat : Int) - 48) = ((acc * 10 + (c.toNat - 48) : Nat) : Int) ∧ acc * 10 + (c.toNat - 48) ≤ 9007199254740991 ∧ Lib.parseUintM 9007199254740991 0 bs = Lib.parseUintM 9007199254740991 (acc * 10 + (c.toNat - 48)) (bs.drop (k + 1))) := Lib.hid ⟨by omega, by omega, hdec.trans hF⟩
          have iov : a * 10 + ((c.toNat : Int) - 48) ≤ 9007199254740991 := by omega
          clear hcut hacc hF hov hdec ha
          go_wp2
          refine ⟨⟨k + 1, acc * 10 + (c.toNat - 48), a * 10 + ((c.toNat : Int) - 48), rfl, (by first | rfl | (congr 1; omega)), (by first | rfl | (congr 1; omega)), by omega, HN⟩, by simp [intOf]; omega⟩
      · have hF : Lib.parseUintM 9007199254740991 acc (c :: bs.drop (k + 1)) = Lib.NumEnd.syntax := by simp [Lib.parseUintM, hdig]
        rw [hF] at hdec
        clear hacc hF ha
        have hv0 := bits_lo_u8 .or (c.toNat : Int) 32
        have hv1 := bits_hi_u8 .or (c.toNat : Int) 32
        have hu0 := bits_lo_u8 .or 95 32
        have hu1 := bits_hi_u8 .or 95 32
        go_wp2_with (go_at_call 114; refine (Tryz.internal_strconv_lower _ _).mono ?_; rintro e w' ⟨rfl, rfl⟩)
        all_goals go_ret2
        all_goals first | exact ⟨rfl, rfl⟩ | exact ⟨by rw [hdec]; rfl, rfl⟩
    · have hkk : k = t.size := by omega
      subst hkk
      have hF : Lib.parseUintM 9007199254740991 acc (bs.drop t.size) = .ok acc := by rw [List.drop_eq_nil_of_le (by omega)]; rfl
      rw [hF] at hdec
      subst ha
      clear hacc hF a0 a1
      go_wp2
      go_ret2
      exact ⟨rfl, rfl⟩
end Go.Proofs.YtainigcchlgehaaGreatDoor
namespace Go.Proofs.YtainigcchlgehaaGreatDoor
open Go Go.RowKit
/-- what ParseUint makes of digits, at fifty-three bits -/
def pu53 (l : List UInt8) : Lib.NumEnd Nat := if l = [] then Lib.NumEnd.syntax else Lib.parseUintM 9007199254740991 0 l
theorem iparse_any (t : ByteArray) (hmax : t.size ≤ 9223372036854775806) (w : World) :
    Calls Tryz.prog 90 #[.string t, .int .i64 10, .int .i64 53] w fun e w' => e = .returned (Lib.uintTupleM 121 9007199254740991 (pu53 t.data.toList)) ∧ Below w.heap.size w w' := by
  by_cases h : t.size = 0
  · have e : t.data.toList = [] := List.length_eq_zero_iff.1 (by rw [← Lib.size_eq]; exact h)
    unfold pu53
    rw [if_pos e]
    exact (iparse_empty t h w).mono fun e w' ⟨he, hw⟩ => ⟨he, hw ▸ Below.refl _ _⟩
  · have e : ¬ t.data.toList = [] := by
      intro e
      apply h
      rw [Lib.size_eq, e]; rfl
    unfold pu53
    rw [if_neg e]
    exact (iparse_53 t h hmax w).mono fun e w' ⟨he, hw⟩ => ⟨he, by rw [hw]; exact Lib.bytesWorld_below _ _ _⟩
set_option maxHeartbeats 4000000 in
set_option maxRecDepth 100000 in
theorem puint_ok (t : ByteArray) (hmax : t.size ≤ 9223372036854775806) (u : Nat) (h : pu53 t.data.toList = .ok u) (w : World) :
    Calls Tryz.prog 103 #[.string t, .int .i64 10, .int .i64 53] w fun e w' => e = .returned (.tuple #[.int .u64 u, .nilIface]) ∧ Below w.heap.size w w' := by
  have hI := iparse_any t hmax w
  rw [h] at hI
  have hI : Calls Tryz.prog 90 #[.string t, .int .i64 10, .int .i64 53] w fun e w' => e = .returned (.tuple #[.int .u64 u, .nilIface]) ∧ Below w.heap.size w w' := hI
  clear h
  go_enter Tryz.func103, Tryz.ntmps103
  go_wp2_with (go_at_call 90; refine hI.mono ?_; rintro e W1 ⟨rfl, hW⟩)
  go_wp2
  go_ret2
  exact ⟨rfl, hW⟩
set_option maxHeartbeats 4000000 in
set_option maxRecDepth 100000 in
theorem puint_syntax (t : ByteArray) (hmax : t.size ≤ 281474976710656) (h : pu53 t.data.toList = Lib.NumEnd.syntax) (w : World) (hT : Tabs w) :
    Calls Tryz.prog 103 #[.string t, .int .i64 10, .int .i64 53] w fun e w' => ∃ N, e = .returned (.tuple #[.int .u64 0, .iface 124 (.pointer (some ⟨N, 0, none⟩))]) ∧ Below w.heap.size w w' := by
  have hI := iparse_any t (by omega) w
  rw [h] at hI
  have hI : Calls Tryz.prog 90 #[.string t, .int .i64 10, .int .i64 53] w fun e w' => e = .returned (.tuple #[.int .u64 0, .iface 121 (.int .i64 2)]) ∧ Below w.heap.size w w' := hI
  clear h
  go_enter Tryz.func103, Tryz.ntmps103
  go_wp2_with (go_at_call 90; refine hI.mono ?_)
  rintro e W1 ⟨rfl, hb1⟩
  obtain ⟨te, pe, hv1⟩ := (hT.below hb1).es
  go_wp2_with (go_at_call 79; refine (Tryz.strconv_toError_syntax ⟨#[80, 97, 114, 115, 101, 85, 105, 110, 116]⟩ t 10 53 (.iface te pe) _ hmax ?_ (Or.inr ⟨te, pe, rfl⟩)).mono ?_)
  · exact hv1
  rintro e W2 ⟨N, rfl, h1, h2, h3⟩
  go_wp2
  go_ret2
  exact ⟨N, rfl, Below.chain hb1 h3⟩
set_option maxHeartbeats 4000000 in
set_option maxRecDepth 100000 in
theorem puint_range (t : ByteArray) (hmax : t.size ≤ 281474976710656) (h : pu53 t.data.toList = .range) (w : World) (hT : Tabs w) :
    Calls Tryz.prog 103 #[.string t, .int .i64 10, .int .i64 53] w fun e w' => ∃ N, e = .returned (.tuple #[.int .u64 9007199254740991, .iface 124 (.pointer (some ⟨N, 0, none⟩))]) ∧ Below w.heap.size w w' := by
  have hI := iparse_any t (by omega) w
  rw [h] at hI
  have hI : Calls Tryz.prog 90 #[.string t, .int .i64 10, .int .i64 53] w fun e w' => e = .returned (.tuple #[.int .u64 9007199254740991, .iface 121 (.int .i64 1)]) ∧ Below w.heap.size w w' := hI
  clear h
  go_enter Tryz.func103, Tryz.ntmps103
  go_wp2_with (go_at_call 90; refine hI.mono ?_)
  rintro e W1 ⟨rfl, hb1⟩
  obtain ⟨te, pe, hv1⟩ := (hT.below hb1).er
  go_wp2_with (go_at_call 79; refine (Tryz.strconv_toError_range ⟨#[80, 97, 114, 115, 101, 85, 105, 110, 116]⟩ t 10 53 (.iface te pe) _ hmax ?_ (Or.inr ⟨te, pe, rfl⟩)).mono ?_)
  · exact hv1
  rintro e W2 ⟨N, rfl, h1, h2, h3⟩
  go_wp2
  go_ret2
  exact ⟨N, rfl, Below.chain hb1 h3⟩
theorem pint_ok (t : ByteArray) (hmax : t.size ≤ 9223372036854775806) (v : Int) (h : Lib.parseIntB 16 t.data.toList = .ok v) (w : World) :
    Calls Tryz.prog 70 #[.string t, .int .i64 10, .int .i64 16] w fun e w' => e = .returned (.tuple #[.int .i64 v, .nilIface]) ∧ Below w.heap.size w w' :=
  (Tryz.strconv_ParseInt_10_at16_ok t hmax v h w).mono fun e w' ⟨he, hw⟩ => ⟨he, by
    rcases hw with rfl | ⟨t', rfl⟩
    · exact Below.refl _ _
    · exact Lib.bytesWorld_below _ _ _⟩
theorem pint_err (t : ByteArray) (hmax : t.size ≤ 281474976710656) (h : ∀ v, Lib.parseIntB 16 t.data.toList ≠ .ok v) (w : World) (hT : Tabs w) :
    Calls Tryz.prog 70 #[.string t, .int .i64 10, .int .i64 16] w fun e w' => ∃ v N, e = .returned (.tuple #[.int .i64 v, .iface 124 (.pointer (some ⟨N, 0, none⟩))]) ∧ Below w.heap.size w w' := by
  rcases hp : Lib.parseIntB 16 t.data.toList with v | _ | _
  · exact absurd hp (h v)
  · obtain ⟨te, pe, hv⟩ := hT.es
    exact (Tryz.strconv_ParseInt_10_at16_syntax t hmax hp (.iface te pe) w hv (Or.inr ⟨te, pe, rfl⟩)).mono fun e w' ⟨N, he, _, _, hb⟩ => ⟨0, N, he, hb⟩
  · obtain ⟨te, pe, hv⟩ := hT.er
    exact (Tryz.strconv_ParseInt_10_at16_range t hmax hp (.iface te pe) w hv (Or.inr ⟨te, pe, rfl⟩)).mono fun e w' ⟨N, he, _, _, hb⟩ => ⟨_, N, he, hb⟩
theorem puint_err (t : ByteArray) (hmax : t.size ≤ 281474976710656) (h : ∀ u, pu53 t.data.toList ≠ .ok u) (w : World) (hT : Tabs w) :
    Calls Tryz.prog 103 #[.string t, .int .i64 10, .int .i64 53] w fun e w' => ∃ (v : Int) (N : Nat), e = .returned (.tuple #[.int .u64 v, .iface 124 (.pointer (some ⟨N, 0, none⟩))]) ∧ Below w.heap.size w w' := by
  rcases hp : pu53 t.data.toList with v | _ | _
  · exact absurd hp (h v)
  · exact (puint_syntax t hmax hp w hT).mono fun e w' ⟨N, he, hb⟩ => ⟨_, N, he, hb⟩
  · exact (puint_range t hmax hp w hT).mono fun e w' ⟨N, he, hb⟩ => ⟨_, N, he, hb⟩
end Go.Proofs.YtainigcchlgehaaGreatDoor
namespace Go.Proofs.YtainigcchlgehaaGreatDoor
open Go Go.RowKit
/-- the bytes ahead of the first p, and those behind it -/
def cutP (l : List UInt8) : List UInt8 × List UInt8 := ((Lib.cut l [112]).1, (Lib.cut l [112]).2.1)
set_option maxHeartbeats 2000000 in
set_option maxRecDepth 100000 in
theorem icut_any (s : ByteArray) (hs : s.size ≤ 281474976710656) (w : World) :
    Calls Tryz.prog 124 #[.string s, .string ⟨#[112]⟩] w fun e w' => ∃ b, e = .returned (.tuple #[.string ⟨(cutP s.data.toList).1.toArray⟩, .string ⟨(cutP s.data.toList).2.toArray⟩, .bool b]) ∧ Below w.heap.size w w' := by
  have hone : Lib.indexByte s.data.toList 112 = Lib.indexB s ⟨#[112]⟩ := (Lib.index_one s.data.toList 112).symm
  have HX := Tryz.stringslite_Index_one s 112
  rw [hone] at HX
  unfold cutP
  rcases Lib.indexB_cases s ⟨#[112]⟩ with hix | ⟨i, hix, hroom⟩
  · obtain ⟨e1, e2, e3⟩ := Lib.cutB_miss s ⟨#[112]⟩ hix
    rw [show ((Lib.cut s.data.toList [112]).1, (Lib.cut s.data.toList [112]).2.1).1 = (Lib.cut s.data.toList (ByteArray.mk #[112]).data.toList).1 from rfl, show ((Lib.cut s.data.toList [112]).1, (Lib.cut s.data.toList [112]).2.1).2 = (Lib.cut s.data.toList (ByteArray.mk #[112]).data.toList).2.1 from rfl]
    rw [e1, e2]
    rw [hix] at HX
    clear e1 e2 e3 hix hone
    go_enter Tryz.func124, Tryz.ntmps124
    go_wp2_with (go_at_call 133; refine (HX _).mono ?_; rintro e w' ⟨rfl, rfl⟩)
    go_ret3
    exact ⟨_, rfl, Below.refl _ _⟩
  · obtain ⟨e1, e2, e3⟩ := Lib.cutB_hit s ⟨#[112]⟩ i hix
    rw [show ((Lib.cut s.data.toList [112]).1, (Lib.cut s.data.toList [112]).2.1).1 = (Lib.cut s.data.toList (ByteArray.mk #[112]).data.toList).1 from rfl, show ((Lib.cut s.data.toList [112]).1, (Lib.cut s.data.toList [112]).2.1).2 = (Lib.cut s.data.toList (ByteArray.mk #[112]).data.toList).2.1 from rfl]
    rw [e1, e2]
    rw [hix] at HX
    have hroom' : i + 1 ≤ s.size := hroom
    have c1 : (0 : Int) ≤ ↑i := by omega
    have c2 : (↑i : Int) ≤ ↑s.size := by omega
    have c3 : (0 : Int) ≤ ↑i + 1 := by omega
    have c4 : (↑i + 1 : Int) ≤ ↑s.size := by omega
    have mixed : Tryz.prog.follows Departure.mixedOrders = true := by kernel_rfl
    have c5 : IntKind.i64.wrap ((i : Int) + 1) = (i : Int) + 1 := by rw [IntKind.wrap_i64]; omega
    clear e1 e2 e3 hix hone hroom
    go_enter Tryz.func124, Tryz.ntmps124
    go_wp2_with (go_at_call 133; refine (HX _).mono ?_; rintro e w' ⟨rfl, rfl⟩)
    go_region_o
    go_wp2
    go_ret3
    exact ⟨_, rfl, (Below.refl _ _).drew⟩
theorem cut_any (s : ByteArray) (hs : s.size ≤ 281474976710656) (w : World) :
    Calls Tryz.prog 102 #[.string s, .string ⟨#[112]⟩] w fun e w' => ∃ b, e = .returned (.tuple #[.string ⟨(cutP s.data.toList).1.toArray⟩, .string ⟨(cutP s.data.toList).2.toArray⟩, .bool b]) ∧ Below w.heap.size w w' := by
  go_enter Tryz.func102, Tryz.ntmps102
  go_wp2_with (go_at_call 124; refine (icut_any s hs _).mono ?_)
  rintro e w' ⟨b, rfl, hb⟩
  go_wp2
  go_ret3
  exact ⟨b, rfl, hb⟩

namespace Flt
/-- m times 2 to the power of x, as Ldexp has it -/
def ldx (m : Nat) (x : Int) : Nat :=
  if m = 0 then 0 else if x + 1023 + m.log2 < -52 then 0 else if 2046 < x + 1023 + (m.log2 : Int) then 9218868437227405312
  else if 1 ≤ x + 1023 + (m.log2 : Int) then (x + 1023 + (m.log2 : Int)).toNat * 4503599627370496 + (m * 2 ^ (52 - m.log2) - 4503599627370496)
  else tiny ((x + 1023 + (m.log2 : Int) + 53).toNat * 4503599627370496 + (m * 2 ^ (52 - m.log2) - 4503599627370496))
theorem float_of_nat {m : Nat} (hm : m < 9007199254740992) : floatOfInt .f64 (m : Int) = if m = 0 then 0 else rungOf m 1074 := by
  have h : floatOfInt .f64 (m : Int) = Ieee.double.nearest (decide ((m : Int) < 0)) (m : Int).natAbs 0 := rfl
  rw [h, show decide ((m : Int) < 0) = false from by simp, show (m : Int).natAbs = m from rfl]
  by_cases h0 : m = 0
  · subst h0; rw [if_pos rfl]; decide
  · rw [if_neg h0]
    have hl := log2_le52 (m := m) (by omega) hm
    have := nearest_exact false m 0 (rungOf m 1074) 1074 0 (rungOf_lt (by omega) hm (by omega)) (rungOf_pos 1074 (by omega) hm) (by omega) (by rw [V_rungOf 1074 (by omega) hm, Nat.pow_zero, Nat.mul_one])
    rw [this, word_eq, if_neg (by decide)]
theorem nat_facts {m : Nat} (h0 : 0 < m) (hm : m < 9007199254740992) :
    rungOf m 1074 / 4503599627370496 = 1023 + m.log2 ∧ rungOf m 1074 % 4503599627370496 = m * 2 ^ (52 - m.log2) - 4503599627370496 ∧ 4503599627370496 ≤ rungOf m 1074 ∧ rungOf m 1074 < 9218868437227405312 := by
  have hl := log2_le52 h0 hm
  have ⟨n1, n2⟩ := norm_mant h0 hm
  have e : rungOf m 1074 = (1023 + m.log2) * 4503599627370496 + (m * 2 ^ (52 - m.log2) - 4503599627370496) := by
    unfold rungOf
    rw [if_neg (by omega), show 1074 + m.log2 - 51 = 1023 + m.log2 from by omega]
  generalize m * 2 ^ (52 - m.log2) = M at *
  rw [e]
  refine ⟨?_, ?_, ?_, ?_⟩ <;> omega
theorem tiny_lt {z : Nat} (hz : z < 9218868437227405312) : tiny z < 18446744073709551616 := by
  obtain ⟨v, hv, hl⟩ := mul_tiny hz
  unfold tiny; rw [hv]; exact hl
theorem ldx_lt {m : Nat} (hm : m < 9007199254740992) (x : Int) : ldx m x < 18446744073709551616 := by
  unfold ldx
  split
  · decide
  · rename_i h0
    have ⟨n1, n2⟩ := norm_mant (m := m) (by omega) hm
    have hl := log2_le52 (m := m) (by omega) hm
    generalize m * 2 ^ (52 - m.log2) = M at *
    split
    · decide
    · split
      · decide
      · split
        · omega
        · apply tiny_lt; omega
end Flt
theorem ldexp0 (x : Int) (w : World) : Calls Tryz.prog 126 #[.float .f64 0, .int .i64 x] w fun e w' => e = .returned (.float .f64 0) ∧ w = w' := by
  have h0 : (FloatKind.f64.format.order 0 0 == some Ordering.eq) = true := by decide +kernel
  go_enter Tryz.func126, Tryz.ntmps126
  go_wp2_with fail
  go_ret
  exact ⟨rfl, rfl⟩
theorem ldexp_any (m : Nat) (x : Int) (hm : m < 9007199254740992) (x1 : -40000 ≤ x) (x2 : x ≤ 40000) (w : World) :
    Calls Tryz.prog 126 #[.float .f64 (floatOfInt .f64 (m : Int)), .int .i64 x] w fun e w' => e = .returned (.float .f64 (Flt.ldx m x)) ∧ w = w' := by
  rw [Flt.float_of_nat hm]
  by_cases h0 : m = 0
  · rw [if_pos h0, show Flt.ldx m x = 0 from by unfold Flt.ldx; rw [if_pos h0]]
    exact ldexp0 x w
  · rw [if_neg h0]
    obtain ⟨e1, e2, e3, e4⟩ := Flt.nat_facts (m := m) (by omega) hm
    have HN : ∀ w, Calls Tryz.prog 134 #[.float .f64 (Flt.rungOf m 1074)] w fun e w' => e = .returned (.tuple #[.float .f64 (Flt.rungOf m 1074), .int .i64 0]) ∧ w = w' := fun w => normalize_n _ e3 e4 w
    have et : x + 0 + ((Flt.rungOf m 1074 / 4503599627370496 : Nat) : Int) = x + 1023 + (m.log2 : Int) := by rw [e1]; omega
    unfold Flt.ldx
    rw [if_neg h0]
    by_cases t1 : x + 1023 + (m.log2 : Int) < -52
    · rw [if_pos t1]
      exact ldexp_low _ _ 0 x (by omega) e4 e3 e4 (by omega) (by omega) x1 x2 HN (by rw [et]; exact t1) w
    · rw [if_neg t1]
      by_cases t2 : 2046 < x + 1023 + (m.log2 : Int)
      · rw [if_pos t2]
        exact ldexp_high _ _ 0 x (by omega) e4 e3 e4 (by omega) (by omega) x1 x2 HN (by rw [et]; exact t2) w
      · rw [if_neg t2]
        by_cases t3 : 1 ≤ x + 1023 + (m.log2 : Int)
        · rw [if_pos t3]
          have h := ldexp_mid _ _ 0 x (by omega) e4 e3 e4 (by omega) (by omega) x1 x2 HN (by rw [et]; exact t3) (by rw [et]; omega) w
          rw [et, e2] at h
          exact h
        · rw [if_neg t3]
          have h := ldexp_tiny _ _ 0 x (by omega) e4 e3 e4 (by omega) (by omega) x1 x2 HN (by rw [et]; omega) (by rw [et]; omega) w
          rw [et, e2] at h
          exact h
theorem Ldexp_any (m : Nat) (x : Int) (hm : m < 9007199254740992) (x1 : -40000 ≤ x) (x2 : x ≤ 40000) (w : World) :
    Calls Tryz.prog 104 #[.float .f64 (floatOfInt .f64 (m : Int)), .int .i64 x] w fun e w' => e = .returned (.float .f64 (Flt.ldx m x)) ∧ w = w' := by
  have H := ldexp_any m x hm x1 x2
  generalize floatOfInt .f64 (m : Int) = z at *
  generalize Flt.ldx m x = y at *
  go_enter Tryz.func104, Tryz.ntmps104
  go_wp2_with (go_at_call 126; refine (H _).mono ?_; rintro e w' ⟨rfl, rfl⟩)
  go_ret
  exact ⟨rfl, rfl⟩
end Go.Proofs.YtainigcchlgehaaGreatDoor
namespace Go.Proofs.YtainigcchlgehaaGreatDoor
open Go Go.RowKit
theorem read_nan (w : World) : Calls Tryz.prog 81 #[.string ⟨#[110, 97, 110]⟩] w fun e w' => e = .returned (.tuple #[.float .f64 9221120237041090561, .bool true]) ∧ w = w' := by
  have HC := canon_any 9221120237041090561 (by decide)
  rw [show Flt.canon 9221120237041090561 = 9221120237041090561 from by decide] at HC
  go_enter Tryz.func81, Tryz.ntmps81
  go_wp2_with (first | (go_at_call 99; refine (nan_any _).mono ?_; rintro e w' ⟨rfl, rfl⟩) | (go_at_call 83; refine (HC _).mono ?_; rintro e w' ⟨rfl, rfl⟩))
  go_ret2
  exact ⟨rfl, rfl⟩
theorem read_inf (w : World) : Calls Tryz.prog 81 #[.string ⟨#[105, 110, 102]⟩] w fun e w' => e = .returned (.tuple #[.float .f64 9218868437227405312, .bool true]) ∧ w = w' := by
  go_enter Tryz.func81, Tryz.ntmps81
  go_wp2_with ((go_at_call 100; refine (inf_pos _).mono ?_; rintro e w' ⟨rfl, rfl⟩))
  go_ret2
  exact ⟨rfl, rfl⟩
theorem read_ninf (w : World) : Calls Tryz.prog 81 #[.string ⟨#[45, 105, 110, 102]⟩] w fun e w' => e = .returned (.tuple #[.float .f64 18442240474082181120, .bool true]) ∧ w = w' := by
  go_enter Tryz.func81, Tryz.ntmps81
  go_wp2_with ((go_at_call 100; refine (inf_neg _).mono ?_; rintro e w' ⟨rfl, rfl⟩))
  go_ret2
  exact ⟨rfl, rfl⟩
set_option maxRecDepth 100000 in
theorem read_core (s R A B : ByteArray) (n : Bool) (m : Nat) (x : Int) (z y : Nat) (h1 : (s.toList == [110, 97, 110]) = false) (h2 : (s.toList == [105, 110, 102]) = false) (h3 : (s.toList == [45, 105, 110, 102]) = false)
    (C1 : ∀ w, Calls Tryz.prog 101 #[.string s, .string ⟨#[45]⟩] w fun e w' => e = .returned (.tuple #[.string R, .bool n]) ∧ w' = w)
    (C2 : ∀ w, Calls Tryz.prog 102 #[.string R, .string ⟨#[112]⟩] w fun e w' => ∃ b, e = .returned (.tuple #[.string A, .string B, .bool b]) ∧ Below w.heap.size w w')
    (C3 : ∀ w, Calls Tryz.prog 103 #[.string A, .int .i64 10, .int .i64 53] w fun e w' => e = .returned (.tuple #[.int .u64 m, .nilIface]) ∧ Below w.heap.size w w')
    (C4 : ∀ w, Calls Tryz.prog 70 #[.string B, .int .i64 10, .int .i64 16] w fun e w' => e = .returned (.tuple #[.int .i64 x, .nilIface]) ∧ Below w.heap.size w w')
    (C5 : ∀ w, Calls Tryz.prog 104 #[.float .f64 (floatOfInt .f64 (m : Int)), .int .i64 x] w fun e w' => e = .returned (.float .f64 z) ∧ w = w')
    (C6 : ∀ w, Calls Tryz.prog 105 #[.float .f64 z, .float .f64 13830554455654793216] w fun e w' => e = .returned (.float .f64 y) ∧ w = w') (w : World) :
    Calls Tryz.prog 81 #[.string s] w fun e w' => e = .returned (.tuple #[.float .f64 (if n = true then y else z), .bool true]) ∧ Below w.heap.size w w' := by
  cases n
  · go_enter Tryz.func81, Tryz.ntmps81
    go_wp2_with fail
    refine (C1 _).mono ?_; rintro e w' ⟨rfl, rfl⟩
    go_wp2_with fail
    refine (C2 _).mono ?_; rintro e w1 ⟨b, rfl, hb1⟩
    go_wp2_with fail
    refine (C3 _).mono ?_; rintro e w2 ⟨rfl, hb2⟩
    go_wp2_with fail
    refine (C4 _).mono ?_; rintro e w3 ⟨rfl, hb3⟩
    go_wp2_with fail
    refine (C5 _).mono ?_; rintro e w4 ⟨rfl, rfl⟩
    go_wp2_with fail
    go_ret2
    exact ⟨rfl, Below.chain hb1 (Below.chain hb2 hb3)⟩
  · go_enter Tryz.func81, Tryz.ntmps81
    go_wp2_with fail
    refine (C1 _).mono ?_; rintro e w' ⟨rfl, rfl⟩
    go_wp2_with fail
    refine (C2 _).mono ?_; rintro e w1 ⟨b, rfl, hb1⟩
    go_wp2_with fail
    refine (C3 _).mono ?_; rintro e w2 ⟨rfl, hb2⟩
    go_wp2_with fail
    refine (C4 _).mono ?_; rintro e w3 ⟨rfl, hb3⟩
    go_wp2_with fail
    refine (C5 _).mono ?_; rintro e w4 ⟨rfl, rfl⟩
    go_wp2_with fail
    refine (C6 _).mono ?_; rintro e w4 ⟨rfl, rfl⟩
    go_wp2_with fail
    go_ret2
    exact ⟨rfl, Below.chain hb1 (Below.chain hb2 hb3)⟩
set_option maxRecDepth 100000 in
theorem read_bad1 (s R A B : ByteArray) (n : Bool) (h1 : (s.toList == [110, 97, 110]) = false) (h2 : (s.toList == [105, 110, 102]) = false) (h3 : (s.toList == [45, 105, 110, 102]) = false)
    (C1 : ∀ w, Calls Tryz.prog 101 #[.string s, .string ⟨#[45]⟩] w fun e w' => e = .returned (.tuple #[.string R, .bool n]) ∧ w' = w)
    (C2 : ∀ w, Calls Tryz.prog 102 #[.string R, .string ⟨#[112]⟩] w fun e w' => ∃ b, e = .returned (.tuple #[.string A, .string B, .bool b]) ∧ Below w.heap.size w w')
    (C3 : ∀ w, Tabs w → Calls Tryz.prog 103 #[.string A, .int .i64 10, .int .i64 53] w fun e w' => ∃ (v : Int) (N : Nat), e = .returned (.tuple #[.int .u64 v, .iface 124 (.pointer (some ⟨N, 0, none⟩))]) ∧ Below w.heap.size w w') (w : World) (hT : Tabs w) :
    Calls Tryz.prog 81 #[.string s] w fun e w' => e = .returned (.tuple #[.float .f64 0, .bool false]) ∧ Below w.heap.size w w' := by
  go_enter Tryz.func81, Tryz.ntmps81
  go_wp2_with fail
  refine (C1 _).mono ?_; rintro e w' ⟨rfl, rfl⟩
  go_wp2_with fail
  refine (C2 _).mono ?_; rintro e w1 ⟨b, rfl, hb1⟩
  go_wp2_with fail
  refine (C3 _ (hT.below hb1)).mono ?_; rintro e w2 ⟨v, N, rfl, hb2⟩
  go_wp2_with fail
  go_ret2
  exact ⟨rfl, Below.chain hb1 hb2⟩
set_option maxRecDepth 100000 in
theorem read_bad2 (s R A B : ByteArray) (n : Bool) (m : Nat) (h1 : (s.toList == [110, 97, 110]) = false) (h2 : (s.toList == [105, 110, 102]) = false) (h3 : (s.toList == [45, 105, 110, 102]) = false)
    (C1 : ∀ w, Calls Tryz.prog 101 #[.string s, .string ⟨#[45]⟩] w fun e w' => e = .returned (.tuple #[.string R, .bool n]) ∧ w' = w)
    (C2 : ∀ w, Calls Tryz.prog 102 #[.string R, .string ⟨#[112]⟩] w fun e w' => ∃ b, e = .returned (.tuple #[.string A, .string B, .bool b]) ∧ Below w.heap.size w w')
    (C3 : ∀ w, Calls Tryz.prog 103 #[.string A, .int .i64 10, .int .i64 53] w fun e w' => e = .returned (.tuple #[.int .u64 m, .nilIface]) ∧ Below w.heap.size w w')
    (C4 : ∀ w, Tabs w → Calls Tryz.prog 70 #[.string B, .int .i64 10, .int .i64 16] w fun e w' => ∃ v N, e = .returned (.tuple #[.int .i64 v, .iface 124 (.pointer (some ⟨N, 0, none⟩))]) ∧ Below w.heap.size w w') (w : World) (hT : Tabs w) :
    Calls Tryz.prog 81 #[.string s] w fun e w' => e = .returned (.tuple #[.float .f64 0, .bool false]) ∧ Below w.heap.size w w' := by
  go_enter Tryz.func81, Tryz.ntmps81
  go_wp2_with fail
  refine (C1 _).mono ?_; rintro e w' ⟨rfl, rfl⟩
  go_wp2_with fail
  refine (C2 _).mono ?_; rintro e w1 ⟨b, rfl, hb1⟩
  go_wp2_with fail
  refine (C3 _).mono ?_; rintro e w2 ⟨rfl, hb2⟩
  go_wp2_with fail
  refine (C4 _ (hT.below (Below.chain hb1 hb2))).mono ?_; rintro e w3 ⟨v, N, rfl, hb3⟩
  go_wp2_with fail
  go_ret2
  exact ⟨rfl, Below.chain hb1 (Below.chain hb2 hb3)⟩
end Go.Proofs.YtainigcchlgehaaGreatDoor
namespace Go.Proofs.YtainigcchlgehaaGreatDoor
open Go Go.RowKit
/-- what read makes of a text -/
def numSem (n : Bool) (A B : List UInt8) : Option Nat :=
  match pu53 A with
  | .ok m => match Lib.parseIntB 16 B with
    | .ok x => some (if n = true then Flt.copysign (Flt.ldx m x) 13830554455654793216 else Flt.ldx m x)
    | _ => none
  | _ => none
def readSem (l : List UInt8) : Option Nat :=
  if l = [110, 97, 110] then some 9221120237041090561 else if l = [105, 110, 102] then some 9218868437227405312 else if l = [45, 105, 110, 102] then some 18442240474082181120
  else numSem (Lib.hasPrefix l [45]) (cutP (Lib.trimPrefix l [45])).1 (cutP (Lib.trimPrefix l [45])).2
def rdTuple : Option Nat → Value
  | some f => .tuple #[.float .f64 f, .bool true]
  | none => .tuple #[.float .f64 0, .bool false]
theorem trim_len (l p : List UInt8) : (Lib.trimPrefix l p).length ≤ l.length := by
  unfold Lib.trimPrefix; split
  · simp
  · exact Nat.le_refl _
theorem cut_len (l : List UInt8) : (cutP l).1.length ≤ l.length ∧ (cutP l).2.length ≤ l.length := by
  unfold cutP Lib.cut
  split
  · simp; omega
  · simp
theorem pu53_le {l : List UInt8} {m : Nat} (h : pu53 l = .ok m) : m < 9007199254740992 := by
  unfold pu53 at h
  split at h
  · cases h
  · have := Lib.parseUintM_le 9007199254740991 l 0 m (by omega) h
    omega
theorem pi16_le {l : List UInt8} {x : Int} (h : Lib.parseIntB 16 l = .ok x) : -32768 ≤ x ∧ x ≤ 32767 := by
  unfold Lib.parseIntB at h
  split at h
  · cases h
  · simp only [] at h
    split at h
    · cases h
    · cases h
    · rename_i u hu
      split at h
      · cases h
      · split at h
        · cases h
        · rename_i h1 h2
          injection h with h
          rw [← h]
          split
          · rename_i h3
            have : ¬ 2 ^ (16 - 1) < u := fun h4 => h2 ⟨h3, h4⟩
            have e : (2 : Nat) ^ (16 - 1) = 32768 := by decide
            omega
          · rename_i h3
            have : ¬ 2 ^ (16 - 1) ≤ u := fun h4 => h1 ⟨h3, h4⟩
            have e : (2 : Nat) ^ (16 - 1) = 32768 := by decide
            omega
theorem copysign_lt (z b : Nat) : Flt.copysign z b < 18446744073709551616 := by
  have : Flt.rung z < 9223372036854775808 := Nat.mod_lt _ (by decide)
  unfold Flt.copysign; split <;> omega
theorem numSem_lt {n : Bool} {A B : List UInt8} {f : Nat} (h : numSem n A B = some f) : f < 18446744073709551616 := by
  unfold numSem at h
  split at h
  · rename_i m hm
    split at h
    · injection h with h
      rw [← h]
      split
      · exact copysign_lt _ _
      · exact Flt.ldx_lt (pu53_le hm) _
    · cases h
  · cases h
theorem readSem_lt {l : List UInt8} {f : Nat} (h : readSem l = some f) : f < 18446744073709551616 := by
  unfold readSem at h
  split at h
  · injection h with h; rw [← h]; decide
  · split at h
    · injection h with h; rw [← h]; decide
    · split at h
      · injection h with h; rw [← h]; decide
      · exact numSem_lt h
theorem bytes_eq {s : ByteArray} {l : List UInt8} (h : s.data.toList = l) : s = ⟨l.toArray⟩ := by
  subst h; simp
theorem read_any (s : ByteArray) (hs : s.size ≤ 281474976710656) (w : World) (hT : Tabs w) :
    Calls Tryz.prog 81 #[.string s] w fun e w' => e = .returned (rdTuple (readSem s.data.toList)) ∧ Below w.heap.size w w' := by
  unfold readSem
  by_cases h1 : s.data.toList = [110, 97, 110]
  · rw [if_pos h1, bytes_eq h1]
    exact (read_nan w).mono fun e w' ⟨he, hw⟩ => ⟨he, hw ▸ Below.refl _ _⟩
  · rw [if_neg h1]
    by_cases h2 : s.data.toList = [105, 110, 102]
    · rw [if_pos h2, bytes_eq h2]
      exact (read_inf w).mono fun e w' ⟨he, hw⟩ => ⟨he, hw ▸ Below.refl _ _⟩
    · rw [if_neg h2]
      by_cases h3 : s.data.toList = [45, 105, 110, 102]
      · rw [if_pos h3, bytes_eq h3]
        exact (read_ninf w).mono fun e w' ⟨he, hw⟩ => ⟨he, hw ▸ Below.refl _ _⟩
      · rw [if_neg h3]
        have g1 : (s.toList == [110, 97, 110]) = false := by rw [Lib.toList_data]; simpa using h1
        have g2 : (s.toList == [105, 110, 102]) = false := by rw [Lib.toList_data]; simpa using h2
        have g3 : (s.toList == [45, 105, 110, 102]) = false := by rw [Lib.toList_data]; simpa using h3
        have C1 := fun w => Tryz.strings_CutPrefix s ⟨#[45]⟩ w
        have l1 := trim_len s.data.toList [45]
        have l2 := cut_len (Lib.trimPrefix s.data.toList [45])
        have l0 : s.data.toList.length = s.size := by rw [Lib.size_eq]
        have C2 := fun w => cut_any ⟨(Lib.trimPrefix s.data.toList [45]).toArray⟩ (by show (Lib.trimPrefix s.data.toList [45]).toArray.size ≤ _; simp; omega) w
        have sA : (ByteArray.mk (cutP (Lib.trimPrefix s.data.toList [45])).1.toArray).size ≤ 281474976710656 := by show (cutP (Lib.trimPrefix s.data.toList [45])).1.toArray.size ≤ _; simp; omega
        have sB : (ByteArray.mk (cutP (Lib.trimPrefix s.data.toList [45])).2.toArray).size ≤ 281474976710656 := by show (cutP (Lib.trimPrefix s.data.toList [45])).2.toArray.size ≤ _; simp; omega
        unfold numSem
        rcases hp : pu53 (cutP (Lib.trimPrefix s.data.toList [45])).1 with m | _ | _
        · have C3 := fun w => puint_ok ⟨(cutP (Lib.trimPrefix s.data.toList [45])).1.toArray⟩ (by omega) m hp w
          rcases hq : Lib.parseIntB 16 (cutP (Lib.trimPrefix s.data.toList [45])).2 with x | _ | _
          · have C4 := fun w => pint_ok ⟨(cutP (Lib.trimPrefix s.data.toList [45])).2.toArray⟩ (by omega) x hq w
            have hm := pu53_le hp
            have hx := pi16_le hq
            have C5 := fun w => Ldexp_any m x hm (by omega) (by omega) w
            have C6 := fun w => copysign_any (Flt.ldx m x) 13830554455654793216 (Flt.ldx_lt hm x) (by decide) w
            exact read_core s _ _ _ _ m x _ _ g1 g2 g3 C1 C2 C3 C4 C5 C6 w
          · have C4 := fun w hT => pint_err ⟨(cutP (Lib.trimPrefix s.data.toList [45])).2.toArray⟩ sB (by rw [hq]; intro v h; cases h) w hT
            exact read_bad2 s _ _ _ _ m g1 g2 g3 C1 C2 C3 C4 w hT
          · have C4 := fun w hT => pint_err ⟨(cutP (Lib.trimPrefix s.data.toList [45])).2.toArray⟩ sB (by rw [hq]; intro v h; cases h) w hT
            exact read_bad2 s _ _ _ _ m g1 g2 g3 C1 C2 C3 C4 w hT
        · have C3 := fun w hT => puint_err ⟨(cutP (Lib.trimPrefix s.data.toList [45])).1.toArray⟩ sA (by rw [hp]; intro v h; cases h) w hT
          exact read_bad1 s _ _ _ _ g1 g2 g3 C1 C2 C3 w hT
        · have C3 := fun w hT => puint_err ⟨(cutP (Lib.trimPrefix s.data.toList [45])).1.toArray⟩ sA (by rw [hp]; intro v h; cases h) w hT
          exact read_bad1 s _ _ _ _ g1 g2 g3 C1 C2 C3 w hT
/-- what Parse makes of a text -/
def parseSem (l : List UInt8) : Option Nat :=
  match readSem l with
  | some f => if Flt.text f = l then some f else none
  | none => none
def psTuple : Option Nat → Value
  | some f => .tuple #[.float .f64 f, .int .i64 0]
  | none => .tuple #[.float .f64 0, .int .i64 2]
theorem parse_core (s : ByteArray) (t : List UInt8) (f : Nat) (b : Bool) (hb : (t == s.toList) = b) (HR : ∀ w, Tabs w → Calls Tryz.prog 81 #[.string s] w fun e w' => e = .returned (.tuple #[.float .f64 f, .bool true]) ∧ Below w.heap.size w w')
    (HT : ∀ w, Tabs w → Calls Tryz.prog 82 #[.float .f64 f] w fun e w' => e = .returned (.string ⟨t.toArray⟩) ∧ Below w.heap.size w w') (w : World) (hT : Tabs w) :
    Calls Tryz.prog 73 #[.string s] w fun e w' => e = .returned (psTuple (if b = true then some f else none)) ∧ Below w.heap.size w w' := by
  cases b
  · go_enter Tryz.func73, Tryz.ntmps73
    go_wp2_with fail
    refine (HR _ hT).mono ?_; rintro e w1 ⟨rfl, hb1⟩
    go_wp2_with fail
    refine (HT _ (hT.below hb1)).mono ?_; rintro e w2 ⟨rfl, hb2⟩
    go_wp2_with fail
    go_ret2
    exact ⟨rfl, Below.chain hb1 hb2⟩
  · go_enter Tryz.func73, Tryz.ntmps73
    go_wp2_with fail
    refine (HR _ hT).mono ?_; rintro e w1 ⟨rfl, hb1⟩
    go_wp2_with fail
    refine (HT _ (hT.below hb1)).mono ?_; rintro e w2 ⟨rfl, hb2⟩
    go_wp2_with fail
    go_ret2
    exact ⟨rfl, Below.chain hb1 hb2⟩
theorem parse_bad (s : ByteArray) (HR : ∀ w, Tabs w → Calls Tryz.prog 81 #[.string s] w fun e w' => e = .returned (.tuple #[.float .f64 0, .bool false]) ∧ Below w.heap.size w w') (w : World) (hT : Tabs w) :
    Calls Tryz.prog 73 #[.string s] w fun e w' => e = .returned (psTuple none) ∧ Below w.heap.size w w' := by
  go_enter Tryz.func73, Tryz.ntmps73
  go_wp2_with fail
  refine (HR _ hT).mono ?_; rintro e w1 ⟨rfl, hb1⟩
  go_wp2_with fail
  go_ret2
  exact ⟨rfl, hb1⟩
theorem parse_any (s : ByteArray) (hs : s.size ≤ 281474976710656) (w : World) (hT : Tabs w) :
    Calls Tryz.prog 73 #[.string s] w fun e w' => e = .returned (psTuple (parseSem s.data.toList)) ∧ Below w.heap.size w w' := by
  have HR := fun w hT => read_any s hs w hT
  unfold parseSem
  cases hr : readSem s.data.toList with
  | none =>
    rw [hr] at HR
    exact parse_bad s HR w hT
  | some f =>
    rw [hr] at HR
    have h := parse_core s (Flt.text f) f (decide (Flt.text f = s.data.toList)) (by rw [Lib.toList_data, Bool.eq_iff_iff]; simp) HR (fun w hT => text_any f (readSem_lt hr) w hT) w hT
    simp only [decide_eq_true_eq] at h
    exact h
end Go.Proofs.YtainigcchlgehaaGreatDoor
namespace Go.Proofs.YtainigcchlgehaaGreatDoor
open Go Go.RowKit
theorem text_15 : Flt.text 4609434218613702656 = [51, 112, 45, 49] := by
  unfold Flt.text
  rw [if_neg (by decide), if_neg (by decide), if_neg (by decide), if_neg (by decide)]
  rw [show Flt.oddM (Flt.rung 4609434218613702656) = 3 from by decide +kernel, show Flt.oddE (Flt.rung 4609434218613702656) = -1 from by decide +kernel]
  rw [Lib.decDigits_one (by decide), show Lib.itoa (-1) = 45 :: Lib.decDigits 1 from Lib.itoa_neg 1 (by decide), Lib.decDigits_one (by decide)]
  rfl
theorem text_10 : Flt.text 4621819117588971520 = [53, 112, 49] := by
  unfold Flt.text
  rw [if_neg (by decide), if_neg (by decide), if_neg (by decide), if_neg (by decide)]
  rw [show Flt.oddM (Flt.rung 4621819117588971520) = 5 from by decide +kernel, show Flt.oddE (Flt.rung 4621819117588971520) = 1 from by decide +kernel]
  rw [Lib.decDigits_one (by decide), show Lib.itoa 1 = Lib.decDigits 1 from Lib.itoa_nonneg 1, Lib.decDigits_one (by decide)]
  rfl
theorem text_n : Flt.text 9221120237041090561 = [110, 97, 110] := by
  unfold Flt.text
  rw [if_pos (by decide)]
theorem parse_a : parseSem [51, 112, 45, 49] = some 4609434218613702656 := by
  have h : readSem [51, 112, 45, 49] = some 4609434218613702656 := by decide +kernel
  unfold parseSem
  rw [h]
  simp only []
  rw [if_pos text_15]
theorem parse_b : parseSem [54, 112, 45, 50] = none := by
  have h : readSem [54, 112, 45, 50] = some 4609434218613702656 := by decide +kernel
  unfold parseSem
  rw [h]
  simp only []
  rw [text_15, if_neg (by decide)]
theorem agn_a : agn 9007199254740993 4845873199050653696 = 1 := by
  have h : Flt.wholeInt 4845873199050653696 = 9007199254740992 := by
    have h1 : Flt.whole (Flt.rung 4845873199050653696) = 9007199254740992 := by
      unfold Flt.whole
      rw [Flt.K_eq]
      decide +kernel
    unfold Flt.wholeInt
    rw [if_neg (by decide), h1]
    rfl
  unfold agn
  rw [h]
  decide
theorem ord_01 : Flt.cmp3 (Flt.kbits 0 : Nat) (Flt.kbits 4607182418800017408 : Nat) = -1 := by decide
end Go.Proofs.YtainigcchlgehaaGreatDoor
namespace Go.Proofs.YtainigcchlgehaaGreatDoor
open Go
namespace Flt
/-- the bits that a key is turned back to -/
def okb (k : Nat) : Nat := if 9223372036854775808 ≤ k then k - 9223372036854775808 else 18446744073709551615 - k
theorem okb_lt {k : Nat} (hk : k < 18446744073709551616) : okb k < 18446744073709551616 := by unfold okb; split <;> omega
theorem okb_kbits {a : Nat} (ha : a < 18446744073709551616) : canon (okb (kbits a)) = canon a := by
  cases hn : isNan a
  · unfold kbits
    simp only [hn, Bool.false_eq_true, if_false]
    unfold okb
    congr 1
    (repeat' split) <;> omega
  · rw [kbits_nan hn, canon_nan hn]; decide
theorem kbits_canon (a : Nat) : kbits (canon a) = kbits a := by
  cases hn : isNan a
  · rw [canon_num hn]
  · rw [canon_nan hn, kbits_nan hn]; decide
theorem kbits_okb {k : Nat} (hk : k < 18446744073709551616) (hn : isNan (okb k) = false) : kbits (canon (okb k)) = k := by
  rw [kbits_canon]
  unfold kbits
  simp only [hn, Bool.false_eq_true, if_false]
  unfold okb
  (repeat' split) <;> omega
theorem okb_far {k : Nat} (hk : k < 18446744073709551616) (h : kbits (canon (okb k)) ≠ k) : k < 4503599627370496 ∨ 18442240474082181119 < k := by
  cases hn : isNan (okb k)
  · exact absurd (kbits_okb hk hn) h
  · unfold isNan rung okb at hn
    simp only [decide_eq_true_eq] at hn
    split at hn <;> omega
end Flt
end Go.Proofs.YtainigcchlgehaaGreatDoor
namespace Go.Proofs.YtainigcchlgehaaGreatDoor
open Go Go.RowKit
namespace Flt
/-! m times 2 to the power of E that has room is read exactly -/
theorem ldx_exact {m E : Nat} (h0 : 0 < m) (hm : m < 9007199254740992) (hE : E + m.log2 ≤ 2097) : ldx m ((E : Int) - 1074) = rungOf m E := by
  have hl := log2_le52 h0 hm
  have ⟨n1, n2⟩ := norm_mant h0 hm
  have hR := rungOf_lt h0 hm hE
  have hP := rungOf_pos E h0 hm
  have hV := V_rungOf E h0 hm
  unfold ldx
  rw [if_neg (by omega), if_neg (by omega), if_neg (by omega)]
  by_cases ht : 1 ≤ (E : Int) - 1074 + 1023 + (m.log2 : Int)
  · rw [if_pos ht]
    unfold rungOf
    rw [if_neg (by omega)]
    congr 2
    omega
  · rw [if_neg ht]
    obtain ⟨z, hz⟩ : ∃ z, z = ((E : Int) - 1074 + 1023 + (m.log2 : Int) + 53).toNat * 4503599627370496 + (m * 2 ^ (52 - m.log2) - 4503599627370496) := ⟨_, rfl⟩
    rw [← hz]
    have e1 : ((E : Int) - 1074 + 1023 + (m.log2 : Int) + 53).toNat = E + m.log2 + 2 := by omega
    rw [e1] at hz
    have hzl : z < 9218868437227405312 := by omega
    have hrz : rung z = z := rung_small (by omega)
    have rz := read_fin (a := z) (by omega) (by rw [hrz]; exact hzl)
    rw [hrz, neg_small (by omega)] at rz
    have mz : mant z = m * 2 ^ (52 - m.log2) := by rw [mant_norm (by omega)]; omega
    have xz : xp z = E + m.log2 + 1 := by unfold xp; omega
    rw [mz, xz] at rz
    have ro : Ieee.double.read 4368491638549381120 = .number false 4503599627370496 (-105) := by decide +kernel
    have hx := mul_exact ro rz (rungOf m E) (E + m.log2) 104 hR hP (by omega) (by
      rw [hV, show (4503599627370496 : Nat) = 2 ^ 52 from by decide]
      have e2 : 2 ^ 52 * (m * 2 ^ (52 - m.log2)) * 2 ^ (E + m.log2) = m * (2 ^ 52 * 2 ^ (52 - m.log2) * 2 ^ (E + m.log2)) := by
        simp only [Nat.mul_assoc, Nat.mul_left_comm]
      rw [e2, ← Nat.pow_add, ← Nat.pow_add, Nat.mul_assoc, ← Nat.pow_add, show 52 + (52 - m.log2) + (E + m.log2) = E + 104 from by omega])
    simp only [Bool.xor_self, Bool.false_eq_true, if_false] at hx
    unfold tiny
    rw [hx]
    rfl
@[irreducible] def J : Nat := 2046
theorem J_eq : J = 2046 := by unfold J; rfl
theorem V_inf : V 9218868437227405312 = 2 ^ 52 * 2 ^ J := by
  have e1 : mant 9218868437227405312 = 2 ^ 52 := by decide
  have e2 : xp 9218868437227405312 = J := by rw [J_eq]; decide
  unfold V
  rw [e1, e2]
theorem odd_facts {r : Nat} (h0 : 0 < r) (hr : r < 9218868437227405312) : ∃ E : Nat, oddE r = (E : Int) - 1074 ∧ oddM r * 2 ^ E = V r ∧ oddM r % 2 = 1 ∧ E + (oddM r).log2 ≤ 2097 := by
  have ⟨b1, b2⟩ := nm_bounds h0
  have hl := log2_le52 (mant_pos h0) (mant_lt r)
  have hN0 : nm r = mant r * 2 ^ (52 - (mant r).log2) := rfl
  have hM0 : oddM r = nm r / 2 ^ Lib.ctz 64 (nm r) := by unfold oddM; rw [if_neg (by omega)]
  have hE0 : oddE r = fe r - 53 + (Lib.ctz 64 (nm r) : Nat) := by unfold oddE; rw [if_neg (by omega)]
  have hc0 : Lib.ctz 64 (nm r) = Lib.ctzFrom 64 (nm r) := by unfold Lib.ctz; rw [if_neg (by omega)]
  obtain ⟨q, hq, hk⟩ := Lib.ctzFrom_spec 64 (nm r) (by omega) (Nat.lt_of_lt_of_le b2 (by decide))
  rw [← hc0] at hq hk
  clear hc0
  generalize Lib.ctz 64 (nm r) = c at *
  generalize nm r = N at *
  have hM : oddM r = 2 * q + 1 := by
    rw [hM0, hq, Nat.mul_comm, Nat.mul_div_cancel _ (Nat.pow_pos (by decide))]
  have hc : 52 - (mant r).log2 ≤ c := by
    apply Nat.le_of_not_lt
    intro hlt
    obtain ⟨d, hd⟩ : ∃ d, 52 - (mant r).log2 = c + (d + 1) := ⟨52 - (mant r).log2 - c - 1, by omega⟩
    rw [hd] at hN0
    rw [hq, Nat.pow_add, ← Nat.mul_assoc, Nat.mul_comm (mant r) (2 ^ c), Nat.mul_assoc] at hN0
    have h2 := Nat.eq_of_mul_eq_mul_left (Nat.pow_pos (by decide)) hN0
    rw [Nat.pow_succ, ← Nat.mul_assoc] at h2
    omega
  have hV : oddM r * 2 ^ (xp r + c - (52 - (mant r).log2)) = V r := by
    have h1 : oddM r * 2 ^ c = mant r * 2 ^ (52 - (mant r).log2) := by
      rw [hM, Nat.mul_comm, ← hq, hN0]
    apply Nat.eq_of_mul_eq_mul_right (Nat.pow_pos (show 0 < 2 by decide) (n := 52 - (mant r).log2))
    rw [Nat.mul_assoc, ← Nat.pow_add, show xp r + c - (52 - (mant r).log2) + (52 - (mant r).log2) = c + xp r from by omega, Nat.pow_add, ← Nat.mul_assoc, h1]
    unfold V
    rw [Nat.mul_assoc, Nat.mul_assoc, Nat.mul_comm (2 ^ (52 - (mant r).log2))]
  refine ⟨xp r + c - (52 - (mant r).log2), ?_, hV, ?_, ?_⟩
  · rw [hE0]
    unfold fe
    omega
  · rw [hM]; omega
  · have h2 := V_lt hr
    rw [V_inf, ← hV, ← Nat.pow_add] at h2
    have l1 := Nat.log2_self_le (n := oddM r) (by omega)
    have h3 : 2 ^ ((oddM r).log2 + (xp r + c - (52 - (mant r).log2))) < 2 ^ (52 + J) := by
      rw [Nat.pow_add]
      exact Nat.lt_of_le_of_lt (Nat.mul_le_mul_right _ l1) h2
    have := pow_lt h3
    rw [J_eq] at this
    omega
theorem ldx_odd {r : Nat} (hr : r < 9218868437227405312) : ldx (oddM r) (oddE r) = r := by
  by_cases h0 : r = 0
  · subst h0; decide
  · obtain ⟨E, e1, e2, e3, e4⟩ := odd_facts (r := r) (by omega) hr
    rw [e1, ldx_exact (by omega) (oddM_lt r) e4]
    exact V_inj (by rw [V_rungOf E (by omega) (oddM_lt r), e2])
end Flt
/-! digits -/
theorem dec_digits (m : Nat) : ∀ c ∈ Lib.decDigits m, 48 ≤ c.toNat ∧ c.toNat ≤ 57 := by
  induction m using Nat.strongRecOn with
  | ind m ih =>
    intro c hc
    have one : ∀ d : Nat, d < 10 → 48 ≤ (UInt8.ofNat (48 + d)).toNat ∧ (UInt8.ofNat (48 + d)).toNat ≤ 57 := by
      intro d hd
      rw [UInt8.toNat_ofNat']
      omega
    by_cases h : m < 10
    · rw [Lib.decDigits_one h] at hc
      simp only [List.mem_singleton] at hc
      rw [hc]; exact one m h
    · rw [Lib.decDigits, dif_neg h] at hc
      rcases List.mem_append.1 hc with h1 | h1
      · exact ih (m / 10) (by omega) c h1
      · simp only [List.mem_singleton] at h1
        rw [h1]; exact one _ (by omega)
theorem dec_ne (m : Nat) : Lib.decDigits m ≠ [] := by
  intro h
  have h1 := Lib.decDigits_length m
  have h2 := Lib.nDigits_pos m
  rw [h] at h1
  simp at h1
  omega
theorem parseM_snoc (M : Nat) (c : UInt8) (hc : 48 ≤ c.toNat ∧ c.toNat ≤ 57) : ∀ (l : List UInt8) (acc v : Nat), Lib.parseUintM M acc l = .ok v → v < 1844674407370955162 → v * 10 + (c.toNat - 48) ≤ M → Lib.parseUintM M acc (l ++ [c]) = .ok (v * 10 + (c.toNat - 48))
  | [], acc, v, h, h1, h2 => by
    have : acc = v := by simpa [Lib.parseUintM] using h
    subst this
    show Lib.parseUintM M acc [c] = _
    unfold Lib.parseUintM
    rw [if_pos hc, if_neg (by omega), if_neg (by omega)]
    rfl
  | d :: l, acc, v, h, h1, h2 => by
    show Lib.parseUintM M acc (d :: (l ++ [c])) = _
    unfold Lib.parseUintM at h ⊢
    split at h
    · rename_i h3
      rw [if_pos h3]
      split at h
      · cases h
      · rename_i h4
        rw [if_neg h4]
        split at h
        · cases h
        · rename_i h5
          rw [if_neg h5]
          exact parseM_snoc M c hc l _ v h h1 h2
    · cases h
theorem parseM_dec (M : Nat) (hM : M < 18446744073709551616) (m : Nat) : m ≤ M → Lib.parseUintM M 0 (Lib.decDigits m) = .ok m := by
  induction m using Nat.strongRecOn with
  | ind m ih =>
    intro hm
    have dig : ∀ d : Nat, d < 10 → (UInt8.ofNat (48 + d)).toNat = 48 + d := by
      intro d hd
      rw [UInt8.toNat_ofNat']
      omega
    by_cases h : m < 10
    · rw [Lib.decDigits_one h]
      unfold Lib.parseUintM
      rw [dig m h, if_pos (by omega), if_neg (by omega), if_neg (by omega)]
      unfold Lib.parseUintM
      congr 1
      omega
    · rw [Lib.decDigits, dif_neg h]
      have := parseM_snoc M (UInt8.ofNat (48 + m % 10)) (by rw [dig _ (by omega)]; omega) (Lib.decDigits (m / 10)) 0 (m / 10) (ih (m / 10) (by omega) (by omega)) (by omega) (by rw [dig _ (by omega)]; omega)
      rw [this, dig _ (by omega)]
      congr 1
      omega
theorem pu53_dec {m : Nat} (hm : m < 9007199254740992) : pu53 (Lib.decDigits m) = .ok m := by
  unfold pu53
  rw [if_neg (dec_ne m)]
  exact parseM_dec 9007199254740991 (by decide) m (by omega)
theorem pi16_itoa {x : Int} (h1 : -32768 ≤ x) (h2 : x ≤ 32767) : Lib.parseIntB 16 (Lib.itoa x) = .ok x := by
  have e : (2 : Nat) ^ 16 - 1 = 65535 := by decide
  have e' : (2 : Nat) ^ (16 - 1) = 32768 := by decide
  by_cases hx : x < 0
  · have hi : Lib.itoa x = 45 :: Lib.decDigits x.natAbs := by unfold Lib.itoa; rw [if_pos hx]
    rw [hi]
    unfold Lib.parseIntB
    simp only []
    rw [if_pos (Or.inr (by decide))]
    have hp : Lib.parseUintB 16 (Lib.decDigits x.natAbs) = .ok x.natAbs := by
      unfold Lib.parseUintB
      rw [if_neg (dec_ne _), e]
      exact parseM_dec 65535 (by decide) _ (by omega)
    rw [hp]
    simp only []
    rw [if_neg (by intro h; exact h.1 (by decide)), if_neg (by rw [e']; intro h; omega), if_pos (by decide)]
    congr 1
    omega
  · have hi : Lib.itoa x = Lib.decDigits x.toNat := by unfold Lib.itoa; rw [if_neg hx]
    rw [hi]
    have hp : Lib.parseUintB 16 (Lib.decDigits x.toNat) = .ok x.toNat := by
      unfold Lib.parseUintB
      rw [if_neg (dec_ne _), e]
      exact parseM_dec 65535 (by decide) _ (by omega)
    have hd := dec_digits x.toNat
    have hne := dec_ne x.toNat
    generalize Lib.decDigits x.toNat = l at *
    cases l with
    | nil => exact absurd rfl hne
    | cons c r =>
      have hc := hd c (by simp)
      unfold Lib.parseIntB
      simp only []
      rw [if_neg (by omega), hp]
      simp only []
      rw [if_neg (by rw [e']; intro h; omega), if_neg (by intro h; omega), if_neg (by omega)]
      congr 1
      omega
theorem index_at (r : List UInt8) : ∀ d : List UInt8, (∀ c ∈ d, c ≠ 112) → Lib.indexByte (d ++ 112 :: r) 112 = d.length
  | [], _ => by simp [Lib.indexByte]
  | c :: d, h => by
    have h1 := index_at r d (fun c hc => h c (by simp [hc]))
    have h2 : (c == 112) = false := by simpa using h c (by simp)
    show (if c == 112 then (0 : Int) else if Lib.indexByte (d ++ 112 :: r) 112 == -1 then -1 else Lib.indexByte (d ++ 112 :: r) 112 + 1) = _
    rw [h2, h1]
    simp
theorem cutP_at (d r : List UInt8) (h : ∀ c ∈ d, c ≠ 112) : cutP (d ++ 112 :: r) = (d, r) := by
  have hi : Lib.index (d ++ 112 :: r) [112] = d.length := by rw [Lib.index_one, index_at r d h]
  unfold cutP Lib.cut
  rw [hi, if_pos (by omega)]
  simp
/-! a text is read as what it is the text of -/
theorem digit_first {a : Nat} (l : List UInt8) (h : l = Lib.decDigits a) : ∃ c r, l = c :: r ∧ 48 ≤ c.toNat ∧ c.toNat ≤ 57 := by
  cases l with
  | nil => exact absurd h.symm (dec_ne a)
  | cons c r => exact ⟨c, r, rfl, dec_digits a c (by rw [← h]; simp)⟩
theorem readSem_text {a : Nat} (ha : a < 18446744073709551616) : readSem (Flt.text a) = some (Flt.canon a) := by
  cases hn : Flt.isNan a
  · rw [Flt.canon_num hn]
    by_cases h1 : a = 9218868437227405312
    · subst h1; decide +kernel
    by_cases h2 : a = 18442240474082181120
    · subst h2; decide +kernel
    have hr : Flt.rung a < 9218868437227405312 := by
      unfold Flt.isNan at hn
      simp only [decide_eq_false_iff_not, Nat.not_lt] at hn
      unfold Flt.rung at hn ⊢
      omega
    have ht : Flt.text a = (if Flt.neg a = true then [45] else []) ++ (Lib.decDigits (Flt.oddM (Flt.rung a)) ++ (112 :: Lib.itoa (Flt.oddE (Flt.rung a)))) := by
      unfold Flt.text
      rw [hn, if_neg (by decide), if_neg h1, if_neg h2]
    obtain ⟨c, r, hcr, hc1, hc2⟩ := digit_first _ (rfl : Lib.decDigits (Flt.oddM (Flt.rung a)) = _)
    have hnum : ∀ n : Bool, numSem n (Lib.decDigits (Flt.oddM (Flt.rung a))) (Lib.itoa (Flt.oddE (Flt.rung a))) = some (if n = true then Flt.copysign (Flt.rung a) 13830554455654793216 else Flt.rung a) := by
      intro n
      have hb := Flt.oddE_bounds hr
      unfold numSem
      rw [pu53_dec (Flt.oddM_lt _)]
      simp only []
      rw [pi16_itoa (by omega) (by omega)]
      simp only []
      rw [Flt.ldx_odd hr]
    have hcut : cutP (Lib.decDigits (Flt.oddM (Flt.rung a)) ++ (112 :: Lib.itoa (Flt.oddE (Flt.rung a)))) = (Lib.decDigits (Flt.oddM (Flt.rung a)), Lib.itoa (Flt.oddE (Flt.rung a))) :=
      cutP_at _ _ (fun c hc => by have := dec_digits _ c hc; intro e; rw [e] at this; revert this; decide)
    cases hs : Flt.neg a
    · rw [ht, hs, if_neg (by decide), List.nil_append]
      have hrest : Lib.decDigits (Flt.oddM (Flt.rung a)) ++ (112 :: Lib.itoa (Flt.oddE (Flt.rung a))) = c :: (r ++ (112 :: Lib.itoa (Flt.oddE (Flt.rung a)))) := by rw [hcr]; rfl
      have hp : Lib.hasPrefix (Lib.decDigits (Flt.oddM (Flt.rung a)) ++ (112 :: Lib.itoa (Flt.oddE (Flt.rung a)))) [45] = false := by
        rw [hrest]
        unfold Lib.hasPrefix
        simp only [List.isPrefixOf, Bool.and_true]
        rw [beq_eq_false_iff_ne]
        intro e; rw [← e] at hc1; revert hc1; decide
      have ne : ∀ (d : UInt8) (t : List UInt8), 57 < d.toNat ∨ d.toNat < 48 → ¬ Lib.decDigits (Flt.oddM (Flt.rung a)) ++ (112 :: Lib.itoa (Flt.oddE (Flt.rung a))) = d :: t := by
        intro d t hd e
        rw [hrest] at e
        injection e with e1 e2
        rw [e1] at hc1 hc2
        omega
      unfold readSem
      rw [if_neg (ne _ _ (by decide)), if_neg (ne _ _ (by decide)), if_neg (ne _ _ (by decide)), hp]
      have htr : Lib.trimPrefix (Lib.decDigits (Flt.oddM (Flt.rung a)) ++ (112 :: Lib.itoa (Flt.oddE (Flt.rung a)))) [45] = Lib.decDigits (Flt.oddM (Flt.rung a)) ++ (112 :: Lib.itoa (Flt.oddE (Flt.rung a))) := by
        unfold Lib.trimPrefix; rw [hp]; rfl
      rw [htr, hcut, hnum false, if_neg (by decide)]
      congr 1
      unfold Flt.neg at hs
      simp only [decide_eq_false_iff_not] at hs
      exact Flt.rung_small (by omega)
    · rw [ht, hs, if_pos rfl]
      have hp : Lib.hasPrefix ([45] ++ (Lib.decDigits (Flt.oddM (Flt.rung a)) ++ (112 :: Lib.itoa (Flt.oddE (Flt.rung a))))) [45] = true := by
        unfold Lib.hasPrefix
        simp [List.isPrefixOf]
      have ne1 : ∀ (d : UInt8) (t : List UInt8), d ≠ 45 → ¬ [45] ++ (Lib.decDigits (Flt.oddM (Flt.rung a)) ++ (112 :: Lib.itoa (Flt.oddE (Flt.rung a)))) = d :: t := by
        intro d t hd e
        injection e with e1 e2
        exact hd e1.symm
      have ne2 : ¬ [45] ++ (Lib.decDigits (Flt.oddM (Flt.rung a)) ++ (112 :: Lib.itoa (Flt.oddE (Flt.rung a)))) = [45, 105, 110, 102] := by
        intro e
        injection e with e1 e2
        rw [hcr] at e2
        injection e2 with e3 e4
        rw [e3] at hc2; revert hc2; decide
      unfold readSem
      rw [if_neg (ne1 _ _ (by decide)), if_neg (ne1 _ _ (by decide)), if_neg ne2, hp]
      have htr : Lib.trimPrefix ([45] ++ (Lib.decDigits (Flt.oddM (Flt.rung a)) ++ (112 :: Lib.itoa (Flt.oddE (Flt.rung a))))) [45] = Lib.decDigits (Flt.oddM (Flt.rung a)) ++ (112 :: Lib.itoa (Flt.oddE (Flt.rung a))) := by
        unfold Lib.trimPrefix; rw [hp]; rfl
      rw [htr, hcut, hnum true, if_pos rfl]
      congr 1
      unfold Flt.neg at hs
      simp only [decide_eq_true_eq] at hs
      unfold Flt.copysign
      rw [if_pos (by decide), Flt.rung_small (a := Flt.rung a) (Nat.mod_lt _ (by decide))]
      unfold Flt.rung
      omega
  · rw [Flt.canon_nan hn, show Flt.text a = [110, 97, 110] from by unfold Flt.text; rw [if_pos hn]]
    unfold readSem
    rw [if_pos rfl]
theorem text_len (a : Nat) (ha : a < 18446744073709551616) : (Flt.text a).length ≤ 50 := by
  unfold Flt.text
  split
  · simp
  · rename_i hn
    split
    · simp
    · split
      · simp
      · have hr : Flt.rung a < 9218868437227405312 := by
          unfold Flt.isNan at hn
          simp only [decide_eq_true_eq, Nat.not_lt] at hn
          unfold Flt.rung at hn ⊢
          omega
        have hb := Flt.oddE_bounds hr
        have hm := Flt.oddM_lt (Flt.rung a)
        have l1 := Flt.dec_len (m := Flt.oddM (Flt.rung a)) (by omega)
        have l2 := Flt.itoa_len (x := Flt.oddE (Flt.rung a)) (by omega) (by omega)
        simp only [List.length_append, List.length_cons]
        split
        · simp; omega
        · simp; omega
theorem text_canon (a : Nat) : Flt.text (Flt.canon a) = Flt.text a := by
  cases hn : Flt.isNan a
  · rw [Flt.canon_num hn]
  · rw [Flt.canon_nan hn, show Flt.text a = [110, 97, 110] from by unfold Flt.text; rw [if_pos hn]]
    unfold Flt.text
    rw [if_pos (by decide)]
theorem parseSem_text {a : Nat} (ha : a < 18446744073709551616) : parseSem (Flt.text a) = some (Flt.canon a) := by
  unfold parseSem
  rw [readSem_text ha]
  simp only []
  rw [if_pos (text_canon a)]
theorem parseSem_some {l : List UInt8} {g : Nat} (h : parseSem l = some g) : g < 18446744073709551616 ∧ Flt.text g = l ∧ Flt.canon g = g := by
  unfold parseSem at h
  cases hr : readSem l with
  | none => rw [hr] at h; cases h
  | some f =>
    rw [hr] at h
    simp only [] at h
    split at h
    · rename_i ht
      injection h with h
      subst h
      have hl := readSem_lt hr
      refine ⟨hl, ht, ?_⟩
      have h2 := readSem_text hl
      rw [ht, hr] at h2
      injection h2 with h2
      exact h2.symm
    · cases h
end Go.Proofs.YtainigcchlgehaaGreatDoor


