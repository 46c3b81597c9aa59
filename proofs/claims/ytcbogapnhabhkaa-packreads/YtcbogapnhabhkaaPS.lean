import Derived.Test.YtcbogapnhabhkaaPR
import Derived.RegionTactic
import Derived.ChangeAlike
import Derived.Laws.BytesArg
namespace Go.Proofs.Ytcbogapnhabhkaa
open Go Go.RowKit
set_option linter.unusedVariables false
theorem bcell {W w1 : World} (hb : Below W.heap.size W w1) : (∀ b o, b < W.heap.size → w1.cell? ⟨b, o, none⟩ = W.cell? ⟨b, o, none⟩) ∧ (∀ b o, b < W.heap.size → w1.frozen? ⟨b, o, none⟩ = W.frozen? ⟨b, o, none⟩) :=
  ⟨fun b o h => hb.cell (p := ⟨b, o, none⟩) h, fun b o h => hb.frozen (p := ⟨b, o, none⟩) h⟩
theorem bl_drew {w w1 : World} (h : Below w.drew.heap.size w.drew w1) : Below w.heap.size w w1 := (Below.refl _ _).drew.trans h
theorem bl_alloc {w w1 : World} {o : Obj} (h : Below (w.alloc o).drew.heap.size (w.alloc o).drew w1) : Below w.heap.size w w1 :=
  ((Below.refl _ _).alloc (Nat.le_refl _) o).drew.trans (h.mono ((Below.refl w.heap.size w).alloc (Nat.le_refl _) o).drew.size)
theorem conv1 (W : World) (b : Nat) (c : Int) (h : W.cell? ⟨b, 0, none⟩ = some (.int .u8 c)) : (convert 22 9 (.slice (some ⟨b, 0, none⟩) 1 1)).run Try.prog W = .ok (.string ⟨#[UInt8.ofNat c.toNat]⟩) W :=
  run_convert_bytes_arg (P := Try.prog) (w := W) 22 5 Try.underlying22 Try.underlying5 b 0 1 1 [c] rfl (fun i hi => by
    have : i = 0 := by omega
    subst this
    exact h) 9 Try.underlying9
theorem ret_str {a b : ByteArray} (h : a = b) : Ending.returned (.string a) = .returned (.string b) := by rw [h]
theorem byt0 (w : World) : Calls Try.prog 34 #[.int .u64 (0 : Int)] w fun e w' => e = .returned (.string ⟨#[]⟩) ∧ Below w.heap.size w w' := by
  go_enter Try.func34, Try.ntmps34
  go_wp2_with fail
  go_ret
  exact ⟨rfl, Below.refl _ _⟩
set_option maxHeartbeats 1000000 in
theorem byt_step (n q r : Nat) (h : ((n : Int) == 0) = false) (D : List UInt8) (hD : D.length ≤ 30) (e1 : IntKind.u64.wrap ((n : Int) / 256) = (q : Int)) (e2 : (n : Int).tmod 256 = (r : Int)) (e3 : IntKind.u64.wrap (r : Int) = (r : Int)) (e4 : IntKind.u8.wrap (r : Int) = (r : Int))
    (IH : ∀ w, Calls Try.prog 34 #[.int .u64 (q : Int)] w fun e w' => e = .returned (.string ⟨D.toArray⟩) ∧ Below w.heap.size w w') (w : World) :
    Calls Try.prog 34 #[.int .u64 (n : Int)] w fun e w' => e = .returned (.string ⟨(D ++ [UInt8.ofNat r]).toArray⟩) ∧ Below w.heap.size w w' := by
  have hc := conv1
  have hs := ByteArray.mk_append_mk D [UInt8.ofNat r]
  have HS := Lib.hid hs
  clear hs
  go_enter Try.func34, Try.ntmps34
  go_wp2_with fail
  go_region_with ((go_at_call 34; refine (IH _).mono ?_; rintro e w1 ⟨rfl, hb⟩; obtain ⟨hcl, hfz⟩ := bcell hb))
  all_goals go_wp2
  · go_ret
    exact ⟨ret_str HS.out, (bl_drew hb).alloc (bl_drew hb).size _⟩
  · go_ret
    exact ⟨ret_str HS.out, bl_alloc hb⟩
  · go_ret
    exact ⟨ret_str HS.out, bl_alloc hb⟩
def byt (n : Nat) : List UInt8 := dig (cntB n) n
theorem byt_len (n : Nat) (h : n < 18446744073709551616) : (byt n).length ≤ 8 := by unfold byt; rw [dig_len]; exact cnt_le n h
theorem byt_succ (n : Nat) (h0 : n ≠ 0) (h : n < 18446744073709551616) : byt n = byt (n / 256) ++ [UInt8.ofNat (n % 256)] := by
  unfold byt
  rw [cnt_step n h0 h, dig_back]
  congr 2
  apply UInt8.toNat_inj.1
  simp
theorem rbytes_any (n : Nat) (h : n < 18446744073709551616) (w : World) : Calls Try.prog 34 #[.int .u64 (n : Int)] w fun e w' => e = .returned (.string ⟨(byt n).toArray⟩) ∧ Below w.heap.size w w' := by
  induction n using Nat.strongRecOn generalizing w with
  | ind n ih =>
    by_cases h0 : n = 0
    · subst h0; exact byt0 w
    · rw [byt_succ n h0 h]
      exact byt_step n (n / 256) (n % 256) (by simp only [beq_eq_false_iff_ne, ne_eq]; omega) _ (Nat.le_trans (byt_len (n / 256) (by omega)) (by omega)) (by rw [IntKind.wrap_u64]; omega) (by rw [Int.tmod_eq_emod_of_nonneg (by omega)]; omega)
        (by rw [IntKind.wrap_u64]; omega) (by rw [IntKind.wrap_u8']; omega) (fun w => ih (n / 256) (by omega) (by omega) w) w
theorem numB_byt (n : Nat) : numB n = [UInt8.ofNat (byt n).length] ++ byt n := by unfold numB byt; rw [dig_len]; rfl
theorem rput_any (n : Nat) (h : n < 18446744073709551616) (w : World) : Calls Try.prog 16 #[.int .u64 (n : Int)] w fun e w' => e = .returned (.string ⟨(numB n).toArray⟩) ∧ Below w.heap.size w w' := by
  have hb := Lib.hid (rbytes_any n h)
  rw [numB_byt]
  have h8 := byt_len n h
  generalize byt n = D at *
  have hc := conv1
  have HS := Lib.hid (ByteArray.mk_append_mk [UInt8.ofNat D.length] D)
  have hw : ((D.length : Int) % 256) = (D.length : Int) := by omega
  have hsz : (⟨D.toArray⟩ : ByteArray).size = D.length := by simp [ByteArray.size]
  go_enter Try.func16, Try.ntmps16
  go_wp2_with fail
  refine (hb.out _).mono ?_; rintro e w1 ⟨rfl, hb1⟩
  go_wp2_with fail
  go_ret
  exact ⟨ret_str HS.out, Below.chain hb1 (below_a1 _ _)⟩
theorem rputtext_any (s : ByteArray) (hs : s.size ≤ 1000000) (w : World) : Calls Try.prog 17 #[.string s] w fun e w' => e = .returned (.string ⟨(textB s.data.toList).toArray⟩) ∧ Below w.heap.size w w' := by
  have hb := Lib.hid (rput_any s.size (by omega))
  have hlen : s.data.toList.length = s.size := by simp
  have h9 := numB_le s.size (by omega)
  have HS := Lib.hid (ByteArray.mk_append_mk (numB s.size) s.data.toList)
  have he : (⟨s.data.toList.toArray⟩ : ByteArray) = s := by simp
  rw [he] at HS
  unfold textB
  rw [hlen]
  generalize numB s.size = N at *
  have hsz : (⟨N.toArray⟩ : ByteArray).size = N.length := by simp [ByteArray.size]
  clear he hlen
  go_enter Try.func17, Try.ntmps17
  go_wp2_with fail
  refine (hb.out _).mono ?_; rintro e w1 ⟨rfl, hb1⟩
  go_wp2_with fail
  go_ret
  exact ⟨ret_str HS.out, hb1⟩
theorem rkey_any (a : Nat) (ha : a < 18446744073709551616) (w : World) : Calls Try.prog 35 #[.float .f64 a] w fun e w' => e = .returned (.int .u64 (Flt.kbits a : Nat)) ∧ w = w' := by
  have h2 := run_bits
  cases hn : Flt.isNan a
  · by_cases hs : 9223372036854775808 ≤ a
    · rw [Flt.kbits_neg hn hs]
      have t1 : (((a : Int) / 9223372036854775808 == 1) : Bool) = true := by simp; omega
      go_enter Try.func35, Try.ntmps35
      go_wp2_with (go_at_call 53; refine (rnan_any _ ha _).mono ?_; rintro e w' ⟨rfl, rfl⟩)
      go_ret
      exact ⟨ret_int (by first | omega | (rw [IntKind.wrap_u64]; omega)), rfl⟩
    · rw [Flt.kbits_pos hn (by omega)]
      have t1 : (((a : Int) / 9223372036854775808 == 1) : Bool) = false := by simp; omega
      go_enter Try.func35, Try.ntmps35
      go_wp2_with (go_at_call 53; refine (rnan_any _ ha _).mono ?_; rintro e w' ⟨rfl, rfl⟩)
      go_ret
      exact ⟨ret_int (by first | omega | (rw [IntKind.wrap_u64]; omega)), rfl⟩
  · rw [Flt.kbits_nan hn]
    go_enter Try.func35, Try.ntmps35
    go_wp2_with (go_at_call 53; refine (rnan_any _ ha _).mono ?_; rintro e w' ⟨rfl, rfl⟩)
    go_ret
    exact ⟨rfl, rfl⟩
theorem dig_pad (c K : Nat) (h : K < 256 ^ c) : ∀ j, dig (c + j) K = List.replicate j 0 ++ dig c K := by
  intro j
  induction j with
  | zero => rfl
  | succ j ih =>
    show UInt8.ofNat (K / 256 ^ (c + j)) :: dig (c + j) K = _
    rw [ih, Nat.div_eq_of_lt (Nat.lt_of_lt_of_le h (Nat.pow_le_pow_right (by decide) (by omega))), List.replicate_succ]
    rfl
theorem byt_pad (K : Nat) (h : K < 18446744073709551616) : dig 8 K = List.replicate (8 - (byt K).length) 0 ++ byt K := by
  have h8 := cnt_le K h
  have hs := cnt_spec _ K h rfl
  unfold byt
  rw [dig_len]
  conv => lhs; rw [show 8 = cntB K + (8 - cntB K) by omega]
  exact dig_pad _ _ hs.1 _
theorem rpv0 (n : Int) (f : Nat) (s : ByteArray) (w : World) : Calls Try.prog 18 #[.agg #[.int .i64 0, .int .i64 n, .float .f64 f, .string s]] w fun e w' => e = .returned (.string ⟨#[0]⟩) ∧ Below w.heap.size w w' := by
  have hsf := run_store_float
  have hc := conv1
  go_enter Try.func18, Try.ntmps18
  go_wp2_with fail
  go_ret
  exact ⟨rfl, below_a2 _ _ _⟩
theorem rpv_pos (k : Int) (n f : Nat) (s : ByteArray) (c : UInt8) (hk : k = (c.toNat : Int)) (h1 : (k == 1) = true ∨ ((k == 1) = false ∧ (k == 2) = true)) (hn : n < 9223372036854775808) (w : World) :
    Calls Try.prog 18 #[.agg #[.int .i64 k, .int .i64 n, .float .f64 f, .string s]] w fun e w' => e = .returned (.string ⟨(c :: numB n).toArray⟩) ∧ Below w.heap.size w w' := by
  have hsf := run_store_float
  have hc := conv1
  have hk8 : k % 256 = k := by have := c.toNat_lt; omega
  have hkn : UInt8.ofNat k.toNat = c := by rw [hk]; simp
  have hn8 : decide ((n : Int) < 0) = false := by simp
  have hP := Lib.hid (rput_any n (by omega))
  have hl := Lib.hid (lies_new w (.int .i64 k) (.int .i64 n) (.float .f64 f) (.string s) 29)
  have h9 := numB_le n (by omega)
  have HS := Lib.hid (ByteArray.mk_append_mk [c] (numB n))
  generalize numB n = N at *
  have hsz : (⟨N.toArray⟩ : ByteArray).size = N.length := by simp [ByteArray.size]
  clear hk
  rcases h1 with h1 | ⟨h1, h2⟩
  all_goals
    go_enter Try.func18, Try.ntmps18
    go_wp2_with fail
    refine (hP.out _).mono ?_; rintro e w1 ⟨rfl, hb1⟩
    have ⟨x0, x1, x2, x3⟩ := hl.out.below hb1
    go_wp2_with fail
    go_ret
    exact ⟨ret_str HS.out, Below.chain (Below.chain (below_a1 _ _) hb1) (below_a1 _ _)⟩
theorem rpv_neg (n : Int) (f m M : Nat) (s : ByteArray) (hn : n < 0) (hn1 : -9223372036854775808 ≤ n) (hm : m < 9223372036854775808) (hq : -1 - n = (m : Int)) (hM : IntKind.u64.wrap n = (M : Int)) (hMl : M < 18446744073709551616) (w : World) :
    Calls Try.prog 18 #[.agg #[.int .i64 2, .int .i64 n, .float .f64 f, .string s]] w fun e w' => e = .returned (.string ⟨(18 :: numB m).toArray⟩) ∧ Below w.heap.size w w' := by
  have hsf := run_store_float
  have hc := conv1
  have hP := Lib.hid (rput_any m (by omega))
  have hP0 := Lib.hid (rput_any M hMl)
  have hl := Lib.hid (lies_new w (.int .i64 2) (.int .i64 n) (.float .f64 f) (.string s) 29)
  have h9 := numB_le m (by omega)
  have HS := Lib.hid (ByteArray.mk_append_mk [18] (numB m))
  generalize numB m = N at *
  have hsz : (⟨N.toArray⟩ : ByteArray).size = N.length := by simp [ByteArray.size]
  have hdl : decide (n < 0) = true := by simp [hn]
  clear hMl hm
  go_enter Try.func18, Try.ntmps18
  go_wp2_with fail
  refine (hP0.out _).mono ?_; rintro e w1 ⟨rfl, hb1⟩
  have l1 := hl.out.below hb1
  have ⟨x0, x1, x2, x3⟩ := l1
  go_wp2_with fail
  refine (hP.out _).mono ?_; rintro e w2 ⟨rfl, hb2⟩
  go_wp2_with fail
  go_ret
  exact ⟨ret_str HS.out, Below.chain (Below.chain (Below.chain (below_a1 _ _) hb1) hb2) (below_a1 _ _)⟩
theorem rpv4 (n : Int) (f : Nat) (s : ByteArray) (hs : s.size ≤ 400000) (w : World) :
    Calls Try.prog 18 #[.agg #[.int .i64 4, .int .i64 n, .float .f64 f, .string s]] w fun e w' => e = .returned (.string ⟨(4 :: textB s.data.toList).toArray⟩) ∧ Below w.heap.size w w' := by
  have hsf := run_store_float
  have hc := conv1
  have hP := Lib.hid (rputtext_any s (by omega))
  have h9 : (textB s.data.toList).length ≤ 500000 := by
    have := numB_le s.data.toList.length (by simp; omega)
    unfold textB; rw [List.length_append]; simp at *; omega
  have HS := Lib.hid (ByteArray.mk_append_mk [4] (textB s.data.toList))
  generalize textB s.data.toList = N at *
  have hsz : (⟨N.toArray⟩ : ByteArray).size = N.length := by simp [ByteArray.size]
  go_enter Try.func18, Try.ntmps18
  go_wp2_with fail
  refine (hP.out _).mono ?_; rintro e w1 ⟨rfl, hb1⟩
  go_wp2_with fail
  go_ret
  exact ⟨ret_str HS.out, Below.chain (Below.chain (below_a1 _ _) hb1) (below_a1 _ _)⟩
theorem rpv3 (n : Int) (f : Nat) (hf : f < 18446744073709551616) (s : ByteArray) (w : World) :
    Calls Try.prog 18 #[.agg #[.int .i64 3, .int .i64 n, .float .f64 f, .string s]] w fun e w' => e = .returned (.string ⟨(3 :: dig 8 (Flt.kbits f)).toArray⟩) ∧ Below w.heap.size w w' := by
  have hsf := run_store_float
  have hc := conv1
  have hK := Lib.hid (rkey_any f hf)
  have hkb := kbits_lt f hf
  have hB := Lib.hid (rbytes_any (Flt.kbits f) hkb)
  have hp := byt_pad (Flt.kbits f) hkb
  have h8 := byt_len (Flt.kbits f) hkb
  rw [hp]
  clear hp
  generalize Flt.kbits f = K at *
  generalize byt K = D at *
  have HS := Lib.hid (ByteArray.mk_append_mk [3] (List.replicate (8 - D.length) 0 ++ D))
  have HZ := Lib.hid (fun j => ByteArray.mk_append_mk [0] (List.replicate j 0 ++ D))
  have hsz : ∀ j, (⟨(List.replicate j 0 ++ D).toArray⟩ : ByteArray).size = j + D.length := fun j => by simp [ByteArray.size]
  go_enter Try.func18, Try.ntmps18
  go_wp2_with fail
  refine (hK.out _).mono ?_; rintro e w' ⟨rfl, rfl⟩
  go_wp2_with fail
  refine (hB.out _).mono ?_; rintro e w2 ⟨rfl, hb2⟩
  go_wp2_with fail
  go_loop [4] (fun s4 => ∃ j : Nat, j + D.length ≤ 8 ∧ s4 = .string ⟨(List.replicate j 0 ++ D).toArray⟩) (fun s4 => 8 - (match s4 with | .string b => b.size | _ => 0))
  case atStart => exact ⟨0, by omega, by simp⟩
  case round =>
    obtain ⟨j, hj, rfl⟩ := hrel
    have hsj := hsz j
    by_cases hlt : j + D.length < 8
    · have hzj := HZ.out j
      have hn0 : (⟨([0] ++ (List.replicate j 0 ++ D)).toArray⟩ : ByteArray) = ⟨(List.replicate (j + 1) 0 ++ D).toArray⟩ := by rw [List.replicate_succ]; rfl
      have ilt : ((j + D.length : Nat) : Int) < 8 := by omega
      generalize hX : (⟨(List.replicate j 0 ++ D).toArray⟩ : ByteArray) = X at *
      go_wp2_with fail
      go_round
      case rel => exact ⟨j + 1, by omega, rfl⟩
      case measure => show 8 - (⟨(0 :: (List.replicate j 0 ++ D)).toArray⟩ : ByteArray).size < 8 - X.size; rw [hsj]; simp only [ByteArray.size, List.size_toArray, List.length_cons, List.length_append, List.length_replicate]; omega
    · obtain ⟨hj8⟩ : Nonempty (j = 8 - D.length) := ⟨by omega⟩
      rw [← hj8] at HS
      have hge : decide (((j + D.length : Nat) : Int) < 8) = false := by simp; omega
      generalize hX : (⟨(List.replicate j 0 ++ D).toArray⟩ : ByteArray) = X at *
      go_wp2_with fail
      go_ret
      rw [← hj8]
      exact ⟨ret_str HS.out, Below.chain (Below.chain (below_a1 _ _) hb2) (below_a1 _ _)⟩
theorem rpv_right (k n : Int) (f : Nat) (s : ByteArray) (hr : rightB k n f s = true) (hn1 : -9223372036854775808 ≤ n) (hn2 : n ≤ 9223372036854775807) (hf : f < 18446744073709551616) (hs : s.size ≤ 400000) (w : World) :
    Calls Try.prog 18 #[.agg #[.int .i64 k, .int .i64 n, .float .f64 f, .string s]] w fun e w' => e = .returned (.string ⟨(rowV k n f s.data.toList).toArray⟩) ∧ Below w.heap.size w w' := by
  by_cases h1 : k = 1
  · subst h1
    have hn : n = 0 ∨ n = 1 := by simp [rightB] at hr; exact hr.1
    obtain ⟨m, rfl⟩ : ∃ m : Nat, n = (m : Int) := ⟨n.toNat, by omega⟩
    have e : rowV 1 (m : Int) f s.data.toList = 1 :: numB m := by simp [rowV]
    rw [e]; exact rpv_pos 1 m f s 1 rfl (.inl rfl) (by omega) w
  by_cases h2 : k = 2
  · subst h2
    by_cases hneg : n < 0
    · have e : rowV 2 n f s.data.toList = 18 :: numB (-1 - n).toNat := by simp [rowV, hneg]
      rw [e]; exact rpv_neg n f (-1 - n).toNat (n + 18446744073709551616).toNat s hneg hn1 (by omega) (by omega) (by rw [IntKind.wrap_u64]; omega) (by omega) w
    · obtain ⟨m, rfl⟩ : ∃ m : Nat, n = (m : Int) := ⟨n.toNat, by omega⟩
      have e : rowV 2 (m : Int) f s.data.toList = 2 :: numB m := by simp [rowV]
      rw [e]; exact rpv_pos 2 m f s 2 rfl (.inr ⟨rfl, rfl⟩) (by omega) w
  by_cases h3 : k = 3
  · subst h3
    have e : rowV 3 n f s.data.toList = 3 :: dig 8 (Flt.kbits f) := by simp [rowV]
    rw [e]; exact rpv3 n f hf s w
  by_cases h4 : k = 4
  · subst h4
    have e : rowV 4 n f s.data.toList = 4 :: textB s.data.toList := by simp [rowV]
    rw [e]; exact rpv4 n f s hs w
  · have h0 : k = 0 := by
      by_cases h0 : k = 0
      · exact h0
      · simp [rightB, h0, h1, h2, h3, h4] at hr
    subst h0
    have e : rowV 0 n f s.data.toList = [0] := by simp [rowV]
    rw [e]; exact rpv0 n f s w
end Go.Proofs.Ytcbogapnhabhkaa
