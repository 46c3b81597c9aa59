import Derived.Test.YtcbogapnhabhkaaPB
import Derived.Test.YtcbogapnhabhkaaShelf
import Derived.Deep.LoopGhost
import Derived.Laws.Cover3
namespace Go.Proofs.Ytcbogapnhabhkaa
open Go Go.RowKit
set_option linter.unusedVariables false
theorem grow_nil (n : Nat) (hn : n ≤ 1000000) (w : World) :
    Calls Try.prog 44 #[.slice none 0 0, .int .i64 n] w fun e w' => ∃ v, e = .returned v ∧ Own w' w.heap.size v [] ∧ Below w.heap.size w w' := by
  obtain ⟨i, hi, hz, hs, hby⟩ := info_parts info5
  by_cases h0 : n = 0
  · subst h0
    go_enter Try.func44, Try.ntmps44
    go_wp2
    go_ret
    exact ⟨_, rfl, World.ownsRow_nil _ _ _ _, Below.refl _ _⟩
  · have hr := fun ty => Lib.run_append_nil_zeros (P := Try.prog) w 22 3 ty 5 i (.int .u8 0) .i64 .i64 Try.underlying22 Try.underlying3 hi hz n (by omega) (by omega) (by omega) (by rw [hby]; omega)
    have hge := grownCap_ge w n 0 5
    have hm := grownCap_le_maxLen w n 0 5 (by simp only [maxLen]; omega)
    have hrow : ∀ C : Array Value, C.size = grownCap w n 0 5 → Own (w.drew.alloc (.cells C 5)) w.heap.size (.slice (some ⟨w.heap.size, 0, none⟩) 0 (grownCap w n 0 5)) [] := fun C hC =>
      World.ownsRow_made (base := w.heap.size) (e := 5) (size := 1) w.drew C (grownCap w n 0 5) (Nat.le_refl _) hm (by omega)
    have hsz : (Builtin.zeroCells (Value.int .u8 0).cells n ++ Builtin.zeroCells (Value.int .u8 0).cells (grownCap w n 0 5 - n)).size = grownCap w n 0 5 := by
      simp only [Array.size_append, size_zeroCells, Value.cells]
      simp; omega
    have hO := hrow _ hsz
    have hB : ∀ C : Array Value, Below w.heap.size w (w.drew.alloc (.cells C 5)) := fun C => ((Below.refl _ w).drew).alloc (Nat.le_refl _) _
    generalize grownCap w n 0 5 = cap at *
    generalize (Builtin.zeroCells (Value.int .u8 0).cells n ++ Builtin.zeroCells (Value.int .u8 0).cells (cap - n)) = C at *
    have hn0 : (0 : Int) < (n : Int) := by omega
    go_enter Try.func44, Try.ntmps44
    go_wp2_with (at_builtin; refine Lib.wpList_append_run _ rfl _ _ _ _ rfl _ _ rfl rfl _ _ (hr _) ?_)
    go_ret
    exact ⟨_, rfl, hO, hB _⟩
def cat (ps : List (Value × List UInt8)) : List UInt8 := ps.flatMap (·.2)
theorem cat_take (ps : List (Value × List UInt8)) (k : Nat) (p : Value × List UInt8) (h : ps[k]? = some p) : cat (ps.take (k + 1)) = cat (ps.take k) ++ p.2 := by
  have hk := (List.getElem?_eq_some_iff.1 h).1
  rw [List.take_succ_eq_append_getElem hk, (List.getElem?_eq_some_iff.1 h).2]
  simp [cat]
theorem cat_le (ps : List (Value × List UInt8)) (k : Nat) : (cat (ps.take k)).length ≤ (cat ps).length := by
  have : cat ps = cat (ps.take k) ++ cat (ps.drop k) := by
    conv => lhs; rw [← List.take_append_drop k ps]
    simp only [cat, List.flatMap_append]
  rw [this]; simp
theorem concat_any (B : Nat) (ps : List (Value × List UInt8)) (w : World) (hc : ∀ j p, ps[j]? = some p → w.cell? ⟨B, j, none⟩ = some p.1 ∧ Bs w.heap.size w p.1 p.2) (hlen : (cat ps).length ≤ 1000000) (hn : ps.length ≤ 1000) :
    Calls Try.prog 27 #[.slice (some ⟨B, 0, none⟩) ps.length ps.length] w fun e w' => ∃ v, e = .returned v ∧ Own w' w.heap.size v (cat ps) ∧ Below w.heap.size w w' := by
  have HC := Lib.hid hc
  clear hc
  go_enter Try.func27, Try.ntmps27
  go_wp2_with fail
  go_loop [3, 11] (fun s3 s11 => ∃ k : Nat, k ≤ ps.length ∧ s11 = .int .i64 k ∧ s3 = .int .i64 ((cat (ps.take k)).length : Nat)) (fun _ s11 => ps.length - (intOf s11).toNat)
  case atStart => exact ⟨0, by omega, rfl, rfl⟩
  case round =>
    obtain ⟨k, hk, rfl, rfl⟩ := hrel
    have hle := cat_le ps k
    by_cases hlt : k < ps.length
    · have hp := List.getElem?_eq_getElem hlt
      obtain ⟨hcell, ao, cap, he, h2, h3, -⟩ := HC.out k _ hp
      have hct := cat_take ps k _ hp
      have hle2 := cat_le ps (k + 1)
      rw [he] at hcell
      have hlen2 := congrArg List.length hct
      rw [List.length_append] at hlen2
      generalize (cat (ps.take k)).length = L at *
      generalize ps[k].2.length = m at *
      have e1 : (cat (ps.take (k + 1))).length = L + m := hlen2
      clear hct hp he
      have ik : (k : Int) < (ps.length : Int) := by omega
      go_wp2_with fail
      go_round
      case rel => exact ⟨k + 1, by omega, by go_num, by rw [e1]; go_num⟩
      case measure => simp [intOf]; omega
    · obtain rfl : k = ps.length := by omega
      rw [List.take_length]
      have G := grow_nil (cat ps).length hlen
      have hlen' := hlen
      have HL := Lib.hid hlen'
      clear hlen'
      generalize (cat ps).length = L at G ⊢ hlen
      go_wp2_with fail
      refine (G w).mono ?_; rintro e w1 ⟨v1, rfl, hO1, hb1⟩
      clear G
      go_wp2_with fail
      go_loopg [6, 27] ps.length (fun g s6 s27 wr => ∃ k : Nat, g + k = ps.length ∧ s27 = .int .i64 k ∧ Own wr w.heap.size s6 (cat (ps.take k)) ∧ Below w.heap.size w wr)
      case atStart => exact ⟨0, by omega, rfl, hO1, hb1⟩
      case round =>
        obtain ⟨k, hg, rfl, hO, hb⟩ := hrel
        by_cases hlt : k < ps.length
        · have hp := List.getElem?_eq_getElem hlt
          obtain ⟨hcell, hbs⟩ := HC.out k _ hp
          have hcell' := (hb.cell (block_lt_of_cell hcell)).trans hcell
          have hbs' := hbs.below hb
          have hct := cat_take ps k _ hp
          have hle2 := cat_le ps (k + 1)
          have hl3 : (cat (ps.take k)).length + ps[k].2.length ≤ 1000000 := by
            have := congrArg List.length hct
            rw [List.length_append] at this; have := HL.out; omega
          have hbz := hb.size
          have HCt := Lib.hid hct
          clear hct
          have ik : (k : Int) < (ps.length : Int) := by omega
          clear hcell hbs hp
          generalize ps[k].1 = x at *
          go_wp2_with (at_builtin; refine wpList_append_bs rfl _ _ rfl rfl rfl hO hbs' hl3 hbz ?_; intro v' w' hO' hg')
          go_roundg (ps.length - (k + 1))
          case rel => exact ⟨k + 1, by omega, by go_num, by rw [HCt.out]; exact hO', hb.grown hg' hbz hO.row⟩
          case measure => omega
        · obtain rfl : k = ps.length := by omega
          rw [List.take_length] at hO
          go_wp2_with fail
          go_ret
          exact ⟨_, rfl, hO, hb⟩
theorem shr_byte (n k : Nat) : ((n : Int) / 2 ^ (8 * k) % 256) = ((UInt8.ofNat (n / 256 ^ k)).toNat : Int) := by
  have : (2 : Nat) ^ (8 * k) = 256 ^ k := by rw [Nat.pow_mul]
  have e : (UInt8.ofNat (n / 256 ^ k)).toNat = n / 256 ^ k % 256 := by simp
  rw [e, ← this, Int.natCast_emod, Int.natCast_ediv, Int.natCast_pow]
  rfl
theorem set_dig (c k n : Nat) (h : k < c) : (List.replicate (c - k) (0 : UInt8) ++ dig k n).set (c - 1 - k) (UInt8.ofNat (n / 256 ^ k)) = List.replicate (c - (k + 1)) 0 ++ dig (k + 1) n := by
  obtain ⟨m, rfl⟩ : ∃ m, c = k + 1 + m := ⟨c - (k + 1), by omega⟩
  rw [show k + 1 + m - k = m + 1 by omega, show k + 1 + m - 1 - k = m by omega, show k + 1 + m - (k + 1) = m by omega, List.replicate_succ', List.append_assoc, List.set_append_right _ _ (by simp)]
  simp [dig]
theorem digits_any (n c : Nat) (hn : n < 18446744073709551616) (hc : c ≤ 8) (w : World) :
    Calls Try.prog 46 #[.int .u64 n, .int .i64 c] w fun e w' => ∃ v, e = .returned v ∧ Own w' w.heap.size v (dig c n) ∧ Below w.heap.size w w' := by
  obtain ⟨i, hi, hz, hs, hby⟩ := info_parts info5
  go_enter Try.func46, Try.ntmps46
  go_wp2_with (at_make; refine wpList_make_full _ rfl _ _ 22 rfl w.heap.size 5 i (.int .u8 0) 1 Try.underlying22 hi hz hs .i64 .i64 _ _ c rfl rfl rfl rfl (by rw [hby]; omega) (by simp only [maxLen]; omega) (Nat.le_refl _) ?_; intro w1 hO1 hg1)
  go_loopg [11] c (fun g s11 wr => ∃ k : Nat, g + k = c ∧ s11 = .int .i64 k ∧ Own wr w.heap.size (.slice (some ⟨w.heap.size, 0, none⟩) c c) (List.replicate (c - k) 0 ++ dig k n) ∧ Below w.heap.size w wr)
  case atStart =>
    refine ⟨0, by omega, rfl, ?_, below_of_grown hg1 (Nat.le_refl _) (fun k h => by cases h)⟩
    unfold Own
    have e1 : (Value.int .u8 0).cells = #[.int .u8 0] := rfl
    rw [e1, Nat.mul_one, toList_madeCells_one] at hO1
    have e2 : List.replicate (c - 0) (0 : UInt8) ++ dig 0 n = List.replicate c 0 := by simp [dig]
    rw [e2, List.length_replicate]
    have e3 : u8s (List.replicate c 0) = List.replicate c (.int .u8 0) := by simp [u8s]
    rw [e3]; exact hO1
  case round =>
    obtain ⟨k, hg, rfl, hO, hb⟩ := hrel
    by_cases hlt : k < c
    · have hcell := hO.cell (c - 1 - k) (by simp [dig_len]; omega)
      have hfr := hO.unfrozen (c - 1 - k)
      have hst := hO.stored (c - 1 - k) (UInt8.ofNat (n / 256 ^ k))
      rw [set_dig c k n hlt, ← shr_byte] at hst
      have HST := Lib.hid hst
      clear hst
      have ik : (k : Int) < (c : Int) := by omega
      go_wp2_with fail
      go_roundg (c - (k + 1))
      case rel => exact ⟨k + 1, by omega, by go_num, HST.out.1, hb.grown HST.out.2 hb.size (fun j h => by cases h; exact Nat.le_refl _)⟩
      case measure => omega
    · obtain rfl : k = c := by omega
      rw [Nat.sub_self] at hO
      go_wp2_with fail
      go_ret
      exact ⟨_, rfl, hO, hb⟩
theorem b_len (n : Nat) (hn : n < 18446744073709551616) (w : World) : Calls Try.prog 45 #[.int .u64 (n : Int)] w fun e w' => e = .returned (.int .i64 (Lib.bitLen n : Nat)) ∧ w' = w := by
  have := Try.bits_Len64 (n : Int) w (by omega) (by omega)
  rw [Int.toNat_natCast] at this
  exact this
theorem number_any (n : Nat) (hn : n < 18446744073709551616) (w : World) :
    Calls Try.prog 28 #[.int .u64 n] w fun e w' => ∃ v, e = .returned v ∧ Own w' w.heap.size v (numB n) ∧ Below w.heap.size w w' := by
  have h8 := cnt_le n hn
  have hbl := Lib.bitLen_le n 64 (by omega) (by omega)
  have hD := digits_any n (cntB n) hn h8
  have hB := b_len n hn
  unfold numB
  have hcB : cntB n = (Lib.bitLen n + 7) / 8 := rfl
  generalize cntB n = c at *
  generalize Lib.bitLen n = L at *
  have hcI : ((L : Int) + 7) / 8 = (c : Int) := by omega
  have hw : ((c : Int) % 256) = (c : Int) := by omega
  have HD := Lib.hid hD
  have HB := Lib.hid hB
  clear hcB hD hB
  go_enter Try.func28, Try.ntmps28
  go_wp2_with fail
  refine (HB.out _).mono ?_; rintro e w' ⟨rfl, rfl⟩
  go_wp2_with fail
  refine (HD.out _).mono ?_; rintro e w2 ⟨v2, rfl, hO2, hb2⟩
  have hk : (UInt8.ofNat c).toNat = c := by simp; omega
  have hL := (Own.lit w' w'.heap.size [UInt8.ofNat c] (Nat.le_refl _) (by simp) #[.int .u8 (c : Int)] (by simp [u8s]; omega)).below hb2
  have hz := hb2.size
  have hz' : w'.heap.size ≤ w2.heap.size := by simp at hz; omega
  have hl : [UInt8.ofNat c].length + (dig c n).length ≤ 1000000 := by rw [dig_len]; simp; omega
  have hb : Below w'.heap.size w' w2 := (below_a1 _ _).trans (hb2.mono (by simp))
  clear HD HB hb2
  go_wp2_with (at_builtin; refine wpList_append_bs rfl _ _ rfl rfl rfl hL hO2.bs hl hz' ?_; intro v3 w3 hO3 hg3)
  go_ret
  exact ⟨_, rfl, hO3, hb.grown hg3 hz' hL.row⟩
theorem Bs.shape {n : Nat} {w : World} {v : Value} {l : List UInt8} (h : Bs n w v l) : ∃ ao cap, v = .slice ao l.length cap := let ⟨ao, cap, h1, _⟩ := h; ⟨ao, cap, h1⟩
theorem cellsN (w : World) (ps : List (Value × List UInt8)) (h : ∀ p ∈ ps, Bs w.heap.size w p.1 p.2) :
    ∀ j p, ps[j]? = some p → (w.alloc (.cells (ps.map (·.1)).toArray 22)).cell? ⟨w.heap.size, j, none⟩ = some p.1 ∧ Bs (w.alloc (.cells (ps.map (·.1)).toArray 22)).heap.size (w.alloc (.cells (ps.map (·.1)).toArray 22)) p.1 p.2 := by
  intro j p hp
  refine ⟨?_, ((h p (List.mem_of_getElem? hp)).below (below_a1 _ _)).size⟩
  rw [cell_of_row _ w.heap.size j _ 22 _ (heap_alloc_new w _)]
  simp [hp]
theorem mem2 {p q x : Value × List UInt8} (h : x ∈ [p, q]) : x = p ∨ x = q := by simpa using h
theorem mem3 {p q r x : Value × List UInt8} (h : x ∈ [p, q, r]) : x = p ∨ x = q ∨ x = r := by simpa using h
theorem numB_le (n : Nat) (hn : n < 18446744073709551616) : (numB n).length ≤ 9 := by simp only [numB, List.length_cons, dig_len]; have := cnt_le n hn; omega
theorem concat2 (w : World) (b v : Value) (l m : List UInt8) (hb : Bs w.heap.size w b l) (hv : Bs w.heap.size w v m) (hl : l.length + m.length ≤ 1000000) :
    Calls Try.prog 27 #[.slice (some ⟨w.heap.size, 0, none⟩) 2 2] (w.alloc (.cells #[b, v] 22)) fun e w' => ∃ x, e = .returned x ∧ Own w' w.heap.size x (l ++ m) ∧ Below w.heap.size w w' := by
  have hC := concat_any w.heap.size [(b, l), (v, m)] _ (cellsN w [(b, l), (v, m)] (fun p hp => by rcases mem2 hp with rfl | rfl; exact hb; exact hv)) (by simp [cat]; omega) (by simp)
  refine Calls.mono hC ?_
  rintro e w' ⟨x, rfl, hO, hb2⟩
  have e1 : cat [(b, l), (v, m)] = l ++ m := by simp [cat]
  rw [e1] at hO
  exact ⟨x, rfl, ⟨hO.1, hO.2.imp id (fun ⟨g, cap, cur, h1, h2, h3⟩ => ⟨g, cap, cur, h1, by simp at h2; omega, h3⟩)⟩, (below_a1 _ _).trans (hb2.mono (by simp))⟩
theorem concat3 (w : World) (b v u : Value) (l m k : List UInt8) (hb : Bs w.heap.size w b l) (hv : Bs w.heap.size w v m) (hu : Bs w.heap.size w u k) (hl : l.length + m.length + k.length ≤ 1000000) :
    Calls Try.prog 27 #[.slice (some ⟨w.heap.size, 0, none⟩) 3 3] (w.alloc (.cells #[b, v, u] 22)) fun e w' => ∃ x, e = .returned x ∧ Own w' w.heap.size x (l ++ m ++ k) ∧ Below w.heap.size w w' := by
  have hC := concat_any w.heap.size [(b, l), (v, m), (u, k)] _ (cellsN w [(b, l), (v, m), (u, k)] (fun p hp => by rcases mem3 hp with rfl | rfl | rfl; exact hb; exact hv; exact hu)) (by simp [cat]; omega) (by simp)
  refine Calls.mono hC ?_
  rintro e w' ⟨x, rfl, hO, hb2⟩
  have e1 : cat [(b, l), (v, m), (u, k)] = l ++ m ++ k := by simp [cat]
  rw [e1] at hO
  exact ⟨x, rfl, ⟨hO.1, hO.2.imp id (fun ⟨g, cap, cur, h1, h2, h3⟩ => ⟨g, cap, cur, h1, by simp at h2; omega, h3⟩)⟩, (below_a1 _ _).trans (hb2.mono (by simp))⟩
theorem Own.base {w : World} {base base' : Nat} {v : Value} {l : List UInt8} (h : Own w base v l) (hb : base' ≤ base) : Own w base' v l :=
  ⟨h.1, h.2.imp id (fun ⟨g, cap, cur, h1, h2, h3⟩ => ⟨g, cap, cur, h1, by omega, h3⟩)⟩
theorem put_any (b : Value) (l : List UInt8) (n : Nat) (hn : n < 18446744073709551616) (hl : l.length ≤ 500000) (w : World) (hb : Bs w.heap.size w b l) :
    Calls Try.prog 11 #[b, .int .u64 n] w fun e w' => ∃ v, e = .returned v ∧ Own w' w.heap.size v (l ++ numB n) ∧ Below w.heap.size w w' := by
  have hN := Lib.hid (number_any n hn)
  have h9 := numB_le n hn
  obtain ⟨ao, cap, rfl⟩ := hb.shape
  go_enter Try.func11, Try.ntmps11
  go_wp2_with fail
  refine (hN.out _).mono ?_; rintro e w1 ⟨v1, rfl, hO1, hb1⟩
  have HC := Lib.hid (concat2 w1 _ _ _ _ (hb.below hb1).size hO1.bs (by omega))
  have hz := hb1.size
  obtain ⟨a1, c1, rfl⟩ := hO1.len
  go_wp2_with fail
  refine HC.out.mono ?_; rintro e w2 ⟨v2, rfl, hO2, hb2⟩
  go_wp2_with fail
  go_ret
  exact ⟨_, rfl, hO2.base hz, Below.chain hb1 hb2⟩
theorem puttext_any (b : Value) (l : List UInt8) (s : ByteArray) (hs : s.size ≤ 400000) (hl : l.length ≤ 500000) (w : World) (hb : Bs w.heap.size w b l) :
    Calls Try.prog 12 #[b, .string s] w fun e w' => ∃ v, e = .returned v ∧ Own w' w.heap.size v (l ++ textB s.data.toList) ∧ Below w.heap.size w w' := by
  have hN := Lib.hid (number_any s.size (by omega))
  have h9 := numB_le s.size (by omega)
  obtain ⟨ao, cap, rfl⟩ := hb.shape
  go_enter Try.func12, Try.ntmps12
  go_wp2_with fail
  refine (hN.out _).mono ?_; rintro e w1 ⟨v1, rfl, hO1, hb1⟩
  obtain ⟨vb, w2, hr, hB2, hb2⟩ := run_bytes_bs w1 s (by omega)
  have hlen : s.data.toList.length = s.size := by simp
  have c2 := Below.chain hb1 hb2
  have HC := Lib.hid (concat3 w2 _ _ _ _ _ _ (hb.below c2).size (hO1.bs.below hb2).size hB2 (by omega))
  have hz := c2.size
  obtain ⟨a1, c1, rfl⟩ := hO1.len
  obtain ⟨a2, c2', rfl⟩ := hB2.shape
  go_wp2_with fail
  refine HC.out.mono ?_; rintro e w3 ⟨v3, rfl, hO3, hb3⟩
  go_wp2_with fail
  go_ret
  refine ⟨_, rfl, ?_, Below.chain c2 hb3⟩
  unfold textB
  rw [hlen, ← List.append_assoc]
  exact hO3.base hz
theorem run_eql_nil (a : Option Addr) (l c : Nat) (w : World) : (binOp .eql 22 (.slice a l c) (.slice none 0 0)).run Try.prog w = .ok (.bool a.isNone) w := by
  simp [binOp, run_equal_slice_nil (P := Try.prog) (w := w) 22 5 a l c Try.underlying22]
theorem clone_any (b : Value) (l : List UInt8) (hl : l.length ≤ 500000) (w : World) (hb : Bs w.heap.size w b l) :
    Calls Try.prog 30 #[b] w fun e w' => ∃ v, e = .returned v ∧ Own w' w.heap.size v l ∧ Below w.heap.size w w' := by
  obtain ⟨ao, cap, rfl⟩ := hb.shape
  have hq := run_eql_nil
  cases ao with
  | none =>
    obtain ⟨ao', cap', he, _, _, h4, _⟩ := hb
    cases he
    have h0 := h4 rfl
    have hm : l = [] := List.eq_nil_of_length_eq_zero (by omega)
    subst hm
    subst h0
    go_enter Try.func30, Try.ntmps30
    go_wp2_with fail
    go_ret
    exact ⟨_, rfl, World.ownsRow_nil _ _ _ _, Below.refl _ _⟩
  | some a =>
    have hL := Own.lit w w.heap.size [] (Nat.le_refl _) (by simp) #[] rfl
    have hb' := hb.below (below_a1 w (.cells #[] 5))
    have hB := below_a1 w (.cells #[] 5)
    go_enter Try.func30, Try.ntmps30
    go_wp2_with (at_builtin; refine wpList_append_bs rfl _ _ rfl rfl rfl hL hb' (by simp; omega) (by simp) ?_; intro v3 w3 hO3 hg3)
    go_ret
    exact ⟨_, rfl, hO3, hB.grown hg3 hB.size hL.row⟩
end Go.Proofs.Ytcbogapnhabhkaa
