import Derived.Test.YtainigcchlgehaaGreatDoorB1
import Derived.Test.YtainigcchlgehaaGreatDoorA2
import Derived.Test.YtainigcchlgehaaGreatDoorB2
import Derived.Deep.LoopGhost
import Derived.Test.YtainigcchlgehaaGreatDoorB3
namespace Go.Proofs.YtainigcchlgehaaGreatDoor
open Go Go.RowKit
set_option linter.unusedVariables false
/-- may a byte be of a text without quotes -/
def plainB (c : UInt8) : Bool := c == 45 || (48 ≤ c && c ≤ 57) || (97 ≤ c && c ≤ 122)
theorem isplain_core (c : Int) (p q r s t : Bool) (hp : (c == 45) = p) (hq : decide (48 ≤ c) = q) (hr : decide (c ≤ 57) = r) (hs : decide (97 ≤ c) = s) (ht : decide (c ≤ 122) = t) (w : World) :
    Calls Tryz.prog 68 #[.int .u8 c] w fun e w' => e = .returned (.bool (p || (q && r) || (s && t))) ∧ w = w' := by
  cases p
  case true =>
    go_enter Tryz.func68, Tryz.ntmps68
    go_wp2_with fail
    go_ret
    exact ⟨rfl, rfl⟩
  cases q <;> cases r <;> cases s
  all_goals
    go_enter Tryz.func68, Tryz.ntmps68
    go_wp2_with fail
    go_ret
    first | exact ⟨rfl, rfl⟩ | (refine ⟨?_, rfl⟩; simp)
theorem isplain_any (c : UInt8) (w : World) : Calls Tryz.prog 68 #[.int .u8 (c.toNat : Int)] w fun e w' => e = .returned (.bool (plainB c)) ∧ w = w' := by
  refine (isplain_core (c.toNat : Int) _ _ _ _ _ rfl rfl rfl rfl rfl w).mono fun e w' ⟨he, hw⟩ => ⟨?_, hw⟩
  rw [he]
  congr 2
  unfold plainB
  rw [Bool.eq_iff_iff]
  simp [UInt8.le_iff_toNat_le, ← UInt8.toNat_inj]
  omega
/-- how many bytes at the beginning may be, of m -/
def runN : Nat → List UInt8 → Nat
  | 0, _ => 0
  | _, [] => 0
  | m + 1, c :: l => if plainB c = true then runN m l + 1 else 0
theorem runN_le (m : Nat) (l : List UInt8) : runN m l ≤ m ∧ runN m l ≤ l.length := by
  induction m generalizing l with
  | zero => simp [runN]
  | succ m ih =>
    cases l with
    | nil => simp [runN]
    | cons c l => unfold runN; have := ih l; split <;> simp <;> omega
/-- the first k are plain, and there it ends -/
theorem runN_at (m : Nat) (l : List UInt8) (k : Nat) (hk : k ≤ m) (hl : k ≤ l.length) (h1 : ∀ j, j < k → ∃ c, l[j]? = some c ∧ plainB c = true) (h2 : k = m ∨ k = l.length ∨ ∃ c, l[k]? = some c ∧ plainB c = false) : runN m l = k := by
  induction m generalizing l k with
  | zero => simp [runN]; omega
  | succ m ih =>
    cases l with
    | nil => simp at hl; simp [runN, hl]
    | cons c l =>
      cases k with
      | zero =>
        rcases h2 with h | h | ⟨d, h, hd⟩
        · omega
        · simp at h
        · simp at h; subst h; simp [runN, hd]
      | succ k =>
        obtain ⟨d, hd, hp⟩ := h1 0 (by omega)
        simp at hd; subst hd
        simp [runN, hp]
        refine ih l k (by omega) (by simpa using hl) (fun j hj => ?_) ?_
        · obtain ⟨d, hd, hq⟩ := h1 (j + 1) (by omega)
          exact ⟨d, by simpa using hd, hq⟩
        · rcases h2 with h | h | ⟨d, h, hd⟩
          · left; omega
          · right; left; simpa using h
          · right; right; exact ⟨d, by simpa using h, hd⟩
theorem get_at (s : ByteArray) (i : Nat) (h : i < s.size) : s.data.toList[i]? = some s[i] := by
  rw [List.getElem?_eq_getElem (by simpa using h)]
  rfl
theorem run_any (s : ByteArray) (hs : s.size ≤ 281474976710656) (w : World) :
    Calls Tryz.prog 53 #[.string s] w fun e w' => e = .returned (.int .i64 (runN 23 s.data.toList : Nat)) ∧ w = w' := by
  obtain ⟨m, hm⟩ : ∃ m : Nat, m = min s.size 23 := ⟨_, rfl⟩
  have hmi : min (s.size : Int) 23 = (m : Int) := by omega
  have m1 : m ≤ s.size := by omega
  have m2 : m ≤ 23 := by omega
  have HM := Lib.hid hm
  clear hm
  go_enter Tryz.func53, Tryz.ntmps53
  go_wp2_with fail
  go_loop [3] (fun i => ∃ k : Nat, k ≤ m ∧ i = .int .i64 k ∧ ∀ j, j < k → ∃ c, s.data.toList[j]? = some c ∧ plainB c = true) (fun i => m - (intOf i).toNat)
  case atStart => exact ⟨0, Nat.zero_le _, rfl, fun m h => absurd h (Nat.not_lt_zero _)⟩
  case round =>
    obtain ⟨k, hk, rfl, hz⟩ := hrel
    have HZ := Lib.hid hz
    clear hz
    by_cases hlt : k < m
    · have hks : k < s.size := by omega
      have ik : (k : Int) < (m : Int) := by omega
      have IP := isplain_any s[k]
      rcases Bool.eq_false_or_eq_true (plainB s[k]) with h0 | h0
      · rw [h0] at IP
        have H0 := Lib.hid h0
        clear h0
        go_wp2_with (refine (IP _).mono ?_; rintro e w' ⟨rfl, rfl⟩)
        go_round
        case rel => exact ⟨k + 1, by omega, by go_num, fun j hj => by
          by_cases e : j = k
          · subst e; exact ⟨s[j], get_at s j hks, H0.out⟩
          · exact HZ.out j (by omega)⟩
        case measure => simp [intOf]; omega
      · rw [h0] at IP
        have H0 := Lib.hid h0
        clear h0
        go_wp2_with (refine (IP _).mono ?_; rintro e w' ⟨rfl, rfl⟩)
        go_ret
        refine ⟨ret_int ?_, rfl⟩
        rw [runN_at 23 s.data.toList k (by omega) (by simp; omega) HZ.out (Or.inr (Or.inr ⟨s[k], get_at s k hks, H0.out⟩))]
    · have ik : decide ((k : Int) < (m : Int)) = false := by simp; omega
      have ik' : decide (k < m) = false := by simpa using hlt
      go_wp2_with fail
      go_ret
      refine ⟨ret_int ?_, rfl⟩
      have hme := HM.out
      rw [runN_at 23 s.data.toList k (by omega) (by simp; omega) HZ.out (by simp; omega)]
end Go.Proofs.YtainigcchlgehaaGreatDoor
namespace Go.Proofs.YtainigcchlgehaaGreatDoor
open Go Go.RowKit
set_option linter.unusedVariables false
theorem pint64_ok (t : ByteArray) (hmax : t.size ≤ 9223372036854775806) (v : Int) (h : Lib.parseIntB 64 t.data.toList = .ok v) (w : World) :
    Calls Tryz.prog 70 #[.string t, .int .i64 10, .int .i64 64] w fun e w' => e = .returned (.tuple #[.int .i64 v, .nilIface]) ∧ Below w.heap.size w w' :=
  (Tryz.strconv_ParseInt_10_at64_ok t hmax v h w).mono fun e w' ⟨he, hw⟩ => ⟨he, by
    rcases hw with rfl | ⟨t', rfl⟩
    · exact Below.refl _ _
    · exact Lib.bytesWorld_below _ _ _⟩
/-- an error of strconv's -/
def BadParse (w : World) (e : Ending) (w' : World) : Prop := ∃ (v : Int) (N : Nat), e = .returned (.tuple #[.int .i64 v, .iface 124 (.pointer (some ⟨N, 0, none⟩))]) ∧ Below w.heap.size w w'
theorem pint64_err (t : ByteArray) (hmax : t.size ≤ 281474976710656) (h : ∀ v, Lib.parseIntB 64 t.data.toList ≠ .ok v) (w : World) (hT : Tabs w) :
    Calls Tryz.prog 70 #[.string t, .int .i64 10, .int .i64 64] w (BadParse w) := by
  rcases hp : Lib.parseIntB 64 t.data.toList with v | _ | _
  · exact absurd hp (h v)
  · obtain ⟨te, pe, hv⟩ := hT.es
    exact (Tryz.strconv_ParseInt_10_at64_syntax t hmax hp (.iface te pe) w hv (Or.inr ⟨te, pe, rfl⟩)).mono fun e w' ⟨N, he, _, _, hb⟩ => ⟨0, N, he, hb⟩
  · obtain ⟨te, pe, hv⟩ := hT.er
    exact (Tryz.strconv_ParseInt_10_at64_range t hmax hp (.iface te pe) w hv (Or.inr ⟨te, pe, rfl⟩)).mono fun e w' ⟨N, he, _, _, hb⟩ => ⟨_, N, he, hb⟩
theorem fint_any (n : Int) (h0 : -9223372036854775808 ≤ n) (h1 : n ≤ 9223372036854775807) (w : World) (hT : Tabs w) :
    Calls Tryz.prog 71 #[.int .i64 n, .int .i64 10] w fun e w' => e = .returned (.string ⟨(Lib.itoa n).toArray⟩) ∧ Below w.heap.size w w' :=
  (Tryz.strconv_FormatInt_10 n h0 h1 w hT.p10).mono fun e w' ⟨he, k, os, hw⟩ => ⟨he, by rw [hw]; exact Lib.below_grow _ w (Nat.le_refl _) k os⟩
theorem lies1 (w : World) (v0 v1 v2 v3 : Value) : Lies (w.alloc (.cells #[v0, v1, v2, v3] 41)) w.heap.size v0 v1 v2 v3 := lies_new w v0 v1 v2 v3 _
theorem rp_null (s : ByteArray) (h1 : (s.toList == [110, 117, 108, 108]) = true) (w : World) (hT : Tabs w) :
    Calls Tryz.prog 54 #[.string s] w fun e w' => e = .returned (.tuple #[.agg #[.int .i64 0, .int .i64 0, .float .f64 0, .string ⟨#[]⟩], .bool true]) ∧ Below w.heap.size w w' := by
  have hsf := run_store_float
  go_enter Tryz.func54, Tryz.ntmps54
  go_wp2_with fail
  exact ret_ve rfl rfl rfl rfl (lies1 _ _ _ _ _) ⟨rfl, below_a1 _ _⟩
theorem rp_false (s : ByteArray) (h1 : (s.toList == [110, 117, 108, 108]) = false) (h2 : (s.toList == [102, 97, 108, 115, 101]) = true) (h3 : (s.toList == [116, 114, 117, 101]) = false) (w : World) (hT : Tabs w) :
    Calls Tryz.prog 54 #[.string s] w fun e w' => e = .returned (.tuple #[.agg #[.int .i64 1, .int .i64 0, .float .f64 0, .string ⟨#[]⟩], .bool true]) ∧ Below w.heap.size w w' := by
  have hsf := run_store_float
  go_enter Tryz.func54, Tryz.ntmps54
  go_wp2_with fail
  refine (truth_any false _).mono ?_; rintro e w1 ⟨rfl, hb1⟩
  have ch1 := hb1
  obtain ⟨hc1, hf1⟩ := bcell ch1
  go_wp2_with fail
  exact ret_ve rfl rfl rfl rfl (((lies1 _ _ _ _ _).below ch1).set _ _ _ _) ⟨rfl, below_set4 (Below.chain (below_a1 _ _) ch1) (by omega) _ _ _ _⟩
theorem rp_true (s : ByteArray) (h1 : (s.toList == [110, 117, 108, 108]) = false) (h2 : (s.toList == [102, 97, 108, 115, 101]) = false) (h3 : (s.toList == [116, 114, 117, 101]) = true) (w : World) (hT : Tabs w) :
    Calls Tryz.prog 54 #[.string s] w fun e w' => e = .returned (.tuple #[.agg #[.int .i64 1, .int .i64 1, .float .f64 0, .string ⟨#[]⟩], .bool true]) ∧ Below w.heap.size w w' := by
  have hsf := run_store_float
  go_enter Tryz.func54, Tryz.ntmps54
  go_wp2_with fail
  refine (truth_any true _).mono ?_; rintro e w1 ⟨rfl, hb1⟩
  have ch1 := hb1
  obtain ⟨hc1, hf1⟩ := bcell ch1
  go_wp2_with fail
  exact ret_ve rfl rfl rfl rfl (((lies1 _ _ _ _ _).below ch1).set _ _ _ _) ⟨rfl, below_set4 (Below.chain (below_a1 _ _) ch1) (by omega) _ _ _ _⟩
theorem rp_int (s : ByteArray) (h1 : (s.toList == [110, 117, 108, 108]) = false) (h2 : (s.toList == [102, 97, 108, 115, 101]) = false) (h3 : (s.toList == [116, 114, 117, 101]) = false) (v : Int) (CP : ∀ w, Tabs w → Calls Tryz.prog 70 #[.string s, .int .i64 10, .int .i64 64] w fun e w' => e = .returned (.tuple #[.int .i64 v, .nilIface]) ∧ Below w.heap.size w w') (t : List UInt8) (CF : ∀ w, Tabs w → Calls Tryz.prog 71 #[.int .i64 v, .int .i64 10] w fun e w' => e = .returned (.string ⟨t.toArray⟩) ∧ Below w.heap.size w w') (ht : (t == s.toList) = true) (w : World) (hT : Tabs w) :
    Calls Tryz.prog 54 #[.string s] w fun e w' => e = .returned (.tuple #[.agg #[.int .i64 2, .int .i64 v, .float .f64 0, .string ⟨#[]⟩], .bool true]) ∧ Below w.heap.size w w' := by
  have hsf := run_store_float
  go_enter Tryz.func54, Tryz.ntmps54
  go_wp2_with fail
  refine (CP _ (hT.below (below_a1 _ _))).mono ?_; rintro e w1 ⟨rfl, hb1⟩
  have ch1 := hb1
  obtain ⟨hc1, hf1⟩ := bcell ch1
  have hz1 : w.heap.size < w1.heap.size := by have := ch1.size; simp at this; omega
  go_wp2_with fail
  refine (CF _ (hT.below (Below.chain (below_a1 _ _) ch1))).mono ?_; rintro e w2 ⟨rfl, hb2⟩
  have ch2 := Below.chain ch1 hb2
  obtain ⟨hc2, hf2⟩ := bcell ch2
  have hz2 : w.heap.size < w2.heap.size := by have := ch2.size; simp at this; omega
  go_wp2_with fail
  refine (whole_any v _).mono ?_; rintro e w3 ⟨rfl, hb3⟩
  have ch3 := Below.chain ch2 hb3
  obtain ⟨hc3, hf3⟩ := bcell ch3
  go_wp2_with fail
  exact ret_ve rfl rfl rfl rfl (((lies1 _ _ _ _ _).below ch3).set _ _ _ _) ⟨rfl, below_set4 (Below.chain (below_a1 _ _) ch3) (by omega) _ _ _ _⟩
theorem rp_if (s : ByteArray) (h1 : (s.toList == [110, 117, 108, 108]) = false) (h2 : (s.toList == [102, 97, 108, 115, 101]) = false) (h3 : (s.toList == [116, 114, 117, 101]) = false) (v : Int) (CP : ∀ w, Tabs w → Calls Tryz.prog 70 #[.string s, .int .i64 10, .int .i64 64] w fun e w' => e = .returned (.tuple #[.int .i64 v, .nilIface]) ∧ Below w.heap.size w w') (t : List UInt8) (CF : ∀ w, Tabs w → Calls Tryz.prog 71 #[.int .i64 v, .int .i64 10] w fun e w' => e = .returned (.string ⟨t.toArray⟩) ∧ Below w.heap.size w w') (ht : (t == s.toList) = false) (f : Nat) (hf : f < 18446744073709551616) (CN : ∀ w, Tabs w → Calls Tryz.prog 73 #[.string s] w fun e w' => e = .returned (.tuple #[.float .f64 f, .int .i64 0]) ∧ Below w.heap.size w w') (w : World) (hT : Tabs w) :
    Calls Tryz.prog 54 #[.string s] w fun e w' => e = .returned (.tuple #[.agg #[.int .i64 3, .int .i64 0, .float .f64 (Flt.canon f), .string ⟨#[]⟩], .bool true]) ∧ Below w.heap.size w w' := by
  have hsf := run_store_float
  go_enter Tryz.func54, Tryz.ntmps54
  go_wp2_with fail
  refine (CP _ (hT.below (below_a1 _ _))).mono ?_; rintro e w1 ⟨rfl, hb1⟩
  have ch1 := hb1
  obtain ⟨hc1, hf1⟩ := bcell ch1
  have hz1 : w.heap.size < w1.heap.size := by have := ch1.size; simp at this; omega
  go_wp2_with fail
  refine (CF _ (hT.below (Below.chain (below_a1 _ _) ch1))).mono ?_; rintro e w2 ⟨rfl, hb2⟩
  have ch2 := Below.chain ch1 hb2
  obtain ⟨hc2, hf2⟩ := bcell ch2
  have hz2 : w.heap.size < w2.heap.size := by have := ch2.size; simp at this; omega
  go_wp2_with fail
  refine (CN _ (hT.below (Below.chain (below_a1 _ _) ch2))).mono ?_; rintro e w3 ⟨rfl, hb3⟩
  have ch3 := Below.chain ch2 hb3
  obtain ⟨hc3, hf3⟩ := bcell ch3
  have hz3 : w.heap.size < w3.heap.size := by have := ch3.size; simp at this; omega
  go_wp2_with fail
  refine (vfloat_any f hf _).mono ?_; rintro e w4 ⟨rfl, hb4⟩
  have ch4 := Below.chain ch3 hb4
  obtain ⟨hc4, hf4⟩ := bcell ch4
  go_wp2_with fail
  exact ret_ve rfl rfl rfl rfl (((lies1 _ _ _ _ _).below ch4).set _ _ _ _) ⟨rfl, below_set4 (Below.chain (below_a1 _ _) ch4) (by omega) _ _ _ _⟩
theorem rp_in (s : ByteArray) (h1 : (s.toList == [110, 117, 108, 108]) = false) (h2 : (s.toList == [102, 97, 108, 115, 101]) = false) (h3 : (s.toList == [116, 114, 117, 101]) = false) (v : Int) (CP : ∀ w, Tabs w → Calls Tryz.prog 70 #[.string s, .int .i64 10, .int .i64 64] w fun e w' => e = .returned (.tuple #[.int .i64 v, .nilIface]) ∧ Below w.heap.size w w') (t : List UInt8) (CF : ∀ w, Tabs w → Calls Tryz.prog 71 #[.int .i64 v, .int .i64 10] w fun e w' => e = .returned (.string ⟨t.toArray⟩) ∧ Below w.heap.size w w') (ht : (t == s.toList) = false) (CN : ∀ w, Tabs w → Calls Tryz.prog 73 #[.string s] w fun e w' => e = .returned (.tuple #[.float .f64 0, .int .i64 2]) ∧ Below w.heap.size w w') (w : World) (hT : Tabs w) :
    Calls Tryz.prog 54 #[.string s] w fun e w' => e = .returned (.tuple #[.agg #[.int .i64 0, .int .i64 0, .float .f64 0, .string ⟨#[]⟩], .bool false]) ∧ Below w.heap.size w w' := by
  have hsf := run_store_float
  go_enter Tryz.func54, Tryz.ntmps54
  go_wp2_with fail
  refine (CP _ (hT.below (below_a1 _ _))).mono ?_; rintro e w1 ⟨rfl, hb1⟩
  have ch1 := hb1
  obtain ⟨hc1, hf1⟩ := bcell ch1
  have hz1 : w.heap.size < w1.heap.size := by have := ch1.size; simp at this; omega
  go_wp2_with fail
  refine (CF _ (hT.below (Below.chain (below_a1 _ _) ch1))).mono ?_; rintro e w2 ⟨rfl, hb2⟩
  have ch2 := Below.chain ch1 hb2
  obtain ⟨hc2, hf2⟩ := bcell ch2
  have hz2 : w.heap.size < w2.heap.size := by have := ch2.size; simp at this; omega
  go_wp2_with fail
  refine (CN _ (hT.below (Below.chain (below_a1 _ _) ch2))).mono ?_; rintro e w3 ⟨rfl, hb3⟩
  have ch3 := Below.chain ch2 hb3
  obtain ⟨hc3, hf3⟩ := bcell ch3
  have hz3 : w.heap.size < w3.heap.size := by have := ch3.size; simp at this; omega
  go_wp2_with fail
  exact ret_ve rfl rfl rfl rfl (((lies1 _ _ _ _ _).below ch3).set _ _ _ _) ⟨rfl, below_set4 (Below.chain (below_a1 _ _) ch3) (by omega) _ _ _ _⟩
theorem rp_ef (s : ByteArray) (h1 : (s.toList == [110, 117, 108, 108]) = false) (h2 : (s.toList == [102, 97, 108, 115, 101]) = false) (h3 : (s.toList == [116, 114, 117, 101]) = false) (CP : ∀ w, Tabs w → Calls Tryz.prog 70 #[.string s, .int .i64 10, .int .i64 64] w (BadParse w)) (f : Nat) (hf : f < 18446744073709551616) (CN : ∀ w, Tabs w → Calls Tryz.prog 73 #[.string s] w fun e w' => e = .returned (.tuple #[.float .f64 f, .int .i64 0]) ∧ Below w.heap.size w w') (w : World) (hT : Tabs w) :
    Calls Tryz.prog 54 #[.string s] w fun e w' => e = .returned (.tuple #[.agg #[.int .i64 3, .int .i64 0, .float .f64 (Flt.canon f), .string ⟨#[]⟩], .bool true]) ∧ Below w.heap.size w w' := by
  have hsf := run_store_float
  go_enter Tryz.func54, Tryz.ntmps54
  go_wp2_with fail
  refine (CP _ (hT.below (below_a1 _ _))).mono ?_; rintro e w1 ⟨v, N, rfl, hb1⟩
  have ch1 := hb1
  obtain ⟨hc1, hf1⟩ := bcell ch1
  have hz1 : w.heap.size < w1.heap.size := by have := ch1.size; simp at this; omega
  go_wp2_with fail
  refine (CN _ (hT.below (Below.chain (below_a1 _ _) ch1))).mono ?_; rintro e w2 ⟨rfl, hb2⟩
  have ch2 := Below.chain ch1 hb2
  obtain ⟨hc2, hf2⟩ := bcell ch2
  have hz2 : w.heap.size < w2.heap.size := by have := ch2.size; simp at this; omega
  go_wp2_with fail
  refine (vfloat_any f hf _).mono ?_; rintro e w3 ⟨rfl, hb3⟩
  have ch3 := Below.chain ch2 hb3
  obtain ⟨hc3, hf3⟩ := bcell ch3
  go_wp2_with fail
  exact ret_ve rfl rfl rfl rfl (((lies1 _ _ _ _ _).below ch3).set _ _ _ _) ⟨rfl, below_set4 (Below.chain (below_a1 _ _) ch3) (by omega) _ _ _ _⟩
theorem rp_en (s : ByteArray) (h1 : (s.toList == [110, 117, 108, 108]) = false) (h2 : (s.toList == [102, 97, 108, 115, 101]) = false) (h3 : (s.toList == [116, 114, 117, 101]) = false) (CP : ∀ w, Tabs w → Calls Tryz.prog 70 #[.string s, .int .i64 10, .int .i64 64] w (BadParse w)) (CN : ∀ w, Tabs w → Calls Tryz.prog 73 #[.string s] w fun e w' => e = .returned (.tuple #[.float .f64 0, .int .i64 2]) ∧ Below w.heap.size w w') (w : World) (hT : Tabs w) :
    Calls Tryz.prog 54 #[.string s] w fun e w' => e = .returned (.tuple #[.agg #[.int .i64 0, .int .i64 0, .float .f64 0, .string ⟨#[]⟩], .bool false]) ∧ Below w.heap.size w w' := by
  have hsf := run_store_float
  go_enter Tryz.func54, Tryz.ntmps54
  go_wp2_with fail
  refine (CP _ (hT.below (below_a1 _ _))).mono ?_; rintro e w1 ⟨v, N, rfl, hb1⟩
  have ch1 := hb1
  obtain ⟨hc1, hf1⟩ := bcell ch1
  have hz1 : w.heap.size < w1.heap.size := by have := ch1.size; simp at this; omega
  go_wp2_with fail
  refine (CN _ (hT.below (Below.chain (below_a1 _ _) ch1))).mono ?_; rintro e w2 ⟨rfl, hb2⟩
  have ch2 := Below.chain ch1 hb2
  obtain ⟨hc2, hf2⟩ := bcell ch2
  have hz2 : w.heap.size < w2.heap.size := by have := ch2.size; simp at this; omega
  go_wp2_with fail
  exact ret_ve rfl rfl rfl rfl (((lies1 _ _ _ _ _).below ch2).set _ _ _ _) ⟨rfl, below_set4 (Below.chain (below_a1 _ _) ch2) (by omega) _ _ _ _⟩
/-- the value whose text it is, without quotes: kind, number, float -/
def rpSem (l : List UInt8) : Option (Int × Int × Nat) :=
  if l = [110, 117, 108, 108] then some (0, 0, 0) else if l = [102, 97, 108, 115, 101] then some (1, 0, 0) else if l = [116, 114, 117, 101] then some (1, 1, 0)
  else match Lib.parseIntB 64 l with
    | .ok v => if Lib.itoa v = l then some (2, v, 0) else (parseSem l).map fun f => (3, 0, f)
    | _ => (parseSem l).map fun f => (3, 0, f)
/-- a value, and whether it is one -/
def rpTuple : Option (Int × Int × Nat) → Value
  | some (k, n, f) => .tuple #[.agg #[.int .i64 k, .int .i64 n, .float .f64 f, .string ⟨#[]⟩], .bool true]
  | none => .tuple #[.agg #[.int .i64 0, .int .i64 0, .float .f64 0, .string ⟨#[]⟩], .bool false]
theorem pi64_le {l : List UInt8} {x : Int} (h : Lib.parseIntB 64 l = .ok x) : -9223372036854775808 ≤ x ∧ x ≤ 9223372036854775807 := by
  unfold Lib.parseIntB at h
  split at h
  · cases h
  · simp only [] at h
    split at h
    · cases h
    · cases h
    · rename_i u hu
      split at h
      · cases h
      · split at h
        · cases h
        · rename_i h1 h2
          injection h with h
          rw [← h]
          split
          · rename_i h3
            have : ¬ 2 ^ (64 - 1) < u := fun h4 => h2 ⟨h3, h4⟩
            have e : (2 : Nat) ^ (64 - 1) = 9223372036854775808 := by decide
            omega
          · rename_i h3
            have : ¬ 2 ^ (64 - 1) ≤ u := fun h4 => h1 ⟨h3, h4⟩
            have e : (2 : Nat) ^ (64 - 1) = 9223372036854775808 := by decide
            omega
theorem rp_any (s : ByteArray) (hs : s.size ≤ 281474976710656) (w : World) (hT : Tabs w) :
    Calls Tryz.prog 54 #[.string s] w fun e w' => e = .returned (rpTuple (rpSem s.data.toList)) ∧ Below w.heap.size w w' := by
  have el : s.toList = s.data.toList := Lib.toList_data s
  unfold rpSem
  by_cases h1 : s.data.toList = [110, 117, 108, 108]
  · rw [if_pos h1]
    exact rp_null s (by rw [el, h1]; rfl) w hT
  rw [if_neg h1]
  have g1 : (s.toList == [110, 117, 108, 108]) = false := by rw [el]; simpa using h1
  by_cases h2 : s.data.toList = [102, 97, 108, 115, 101]
  · rw [if_pos h2]
    exact rp_false s g1 (by rw [el, h2]; rfl) (by rw [el, h2]; rfl) w hT
  rw [if_neg h2]
  have g2 : (s.toList == [102, 97, 108, 115, 101]) = false := by rw [el]; simpa using h2
  by_cases h3 : s.data.toList = [116, 114, 117, 101]
  · rw [if_pos h3]
    exact rp_true s g1 g2 (by rw [el, h3]; rfl) w hT
  rw [if_neg h3]
  have g3 : (s.toList == [116, 114, 117, 101]) = false := by rw [el]; simpa using h3
  have CN := fun w hT => parse_any s hs w hT
  cases hp : Lib.parseIntB 64 s.data.toList with
  | ok v =>
    have hv := pi64_le hp
    have CP := fun w (_ : Tabs w) => pint64_ok s (by omega) v hp w
    have CF := fun w hT => fint_any v hv.1 hv.2 w hT
    by_cases ht : Lib.itoa v = s.data.toList
    · simp only [ht, if_true]
      rw [ht] at CF
      exact rp_int s g1 g2 g3 v CP _ CF (by rw [el]; simp) w hT
    · simp only [ht, if_false]
      have gt : (Lib.itoa v == s.toList) = false := by rw [el]; simpa using ht
      cases hq : parseSem s.data.toList with
      | none => rw [hq] at CN; exact rp_in s g1 g2 g3 v CP _ CF gt CN w hT
      | some f =>
        rw [hq] at CN
        obtain ⟨l1, _, l3⟩ := parseSem_some hq
        have r := rp_if s g1 g2 g3 v CP _ CF gt f l1 CN w hT
        rw [l3] at r
        exact r
  | «syntax» =>
    have CE := fun w hT => pint64_err s hs (by rw [hp]; intro v h; cases h) w hT
    simp only
    cases hq : parseSem s.data.toList with
    | none => rw [hq] at CN; exact rp_en s g1 g2 g3 CE CN w hT
    | some f =>
      rw [hq] at CN
      obtain ⟨l1, _, l3⟩ := parseSem_some hq
      have r := rp_ef s g1 g2 g3 CE f l1 CN w hT
      rw [l3] at r
      exact r
  | range =>
    have CE := fun w hT => pint64_err s hs (by rw [hp]; intro v h; cases h) w hT
    simp only
    cases hq : parseSem s.data.toList with
    | none => rw [hq] at CN; exact rp_en s g1 g2 g3 CE CN w hT
    | some f =>
      rw [hq] at CN
      obtain ⟨l1, _, l3⟩ := parseSem_some hq
      have r := rp_ef s g1 g2 g3 CE f l1 CN w hT
      rw [l3] at r
      exact r
end Go.Proofs.YtainigcchlgehaaGreatDoor
namespace Go.Proofs.YtainigcchlgehaaGreatDoor
open Go Go.RowKit
set_option linter.unusedVariables false
/-- of all beginnings of at most so many bytes the longest one that is a value's text -/
def findR (l : List UInt8) : Nat → Option (Nat × Int × Int × Nat)
  | 0 => none
  | n + 1 => match rpSem (l.take (n + 1)) with
    | some v => some (n + 1, v)
    | none => findR l n
/-- a value without a text, how long, and whether it is there -/
def vrTuple : Option (Nat × Int × Int × Nat) → Value
  | some (m, k, n, f) => .tuple #[.agg #[.int .i64 k, .int .i64 n, .float .f64 f, .string ⟨#[]⟩], .int .i64 (m : Int), .bool true]
  | none => .tuple #[.agg #[.int .i64 0, .int .i64 0, .float .f64 0, .string ⟨#[]⟩], .int .i64 0, .bool false]
theorem ext_take0 (s : ByteArray) (p : Nat) : (s.extract 0 p).data.toList = s.data.toList.take p := by
  rw [Lib.extract_data]; simp
abbrev N0 : Obj := .cells #[.int .i64 0, .int .i64 0, .float .f64 0, .string ⟨#[]⟩] 41
theorem rd_plain (s : ByteArray) (hs : s.size ≤ 281474976710656) (hq : Lib.hasPrefix s.data.toList [39] = false) (w : World) (hT : Tabs w) :
    Calls Tryz.prog 31 #[.string s] w fun e w' => e = .returned (vrTuple (findR s.data.toList (runN 23 s.data.toList))) ∧ Below w.heap.size w w' := by
  have hsf := run_store_float
  have HP := Tryz.strings_HasPrefix s ⟨#[39]⟩
  rw [hq] at HP
  clear hq
  have HR := run_any s hs
  obtain ⟨R, hR⟩ : ∃ R, R = runN 23 s.data.toList := ⟨_, rfl⟩
  rw [← hR] at HR ⊢
  have hRl := runN_le 23 s.data.toList
  rw [← hR] at hRl
  have hRs : R ≤ s.size := by have := hRl.2; simpa using this
  have hR23 : R ≤ 23 := hRl.1
  clear hR hRl
  go_enter Tryz.func31, Tryz.ntmps31
  go_wp2_with fail
  refine (HP _).mono ?_; rintro e w' ⟨rfl, rfl⟩
  go_wp2_with fail
  refine (HR _).mono ?_; rintro e w' ⟨rfl, rfl⟩
  go_wp2_with fail
  go_loopg [5, 6, 7] R (fun g s5 s6 s7 wr => g ≤ R ∧ s5 = .int .i64 g ∧ findR s.data.toList R = findR s.data.toList g ∧ Below (w.alloc N0).heap.size (w.alloc N0) wr)
  case atStart => exact ⟨Nat.le_refl _, rfl, rfl, Below.refl _ _⟩
  case round =>
    obtain ⟨hk, rfl, hf, hb⟩ := hrel
    have HF := Lib.hid hf
    clear hf
    have hTr : Tabs wr := hT.below (Below.chain (below_a1 _ _) hb)
    obtain ⟨hc, hfz⟩ := bcell hb
    have hz : w.heap.size < wr.heap.size := by have := hb.size; simp at this; omega
    cases gk with
    | zero =>
      go_wp2_with fail
      exact ret_vnb rfl rfl rfl rfl rfl (((lies1 _ _ _ _ _).below hb).set _ _ _ _) ⟨by rw [HF.out]; rfl, below_set4 (Below.chain (below_a1 _ _) hb) (by omega) _ _ _ _⟩
    | succ k =>
      have i1 : (0 : Int) < ((k + 1 : Nat) : Int) := by omega
      have i2 : ((k + 1 : Nat) : Int) ≤ (s.size : Int) := by omega
      have RP := rp_any (s.extract 0 (k + 1)) (by simp; omega) wr hTr
      rw [ext_take0] at RP
      cases hv : rpSem (s.data.toList.take (k + 1)) with
      | none =>
        rw [hv] at RP
        simp only [rpTuple] at RP
        have HV := Lib.hid hv
        clear hv
        go_wp2_with fail
        refine RP.mono ?_; rintro e w1 ⟨rfl, hb1⟩
        have ch := Below.chain hb hb1
        obtain ⟨hc1, hf1⟩ := bcell ch
        clear RP hc hfz
        go_wp2_with fail
        go_roundg k
        case measure => omega
        case rel => exact ⟨by omega, by go_num, by rw [HF.out]; show (match rpSem (s.data.toList.take (k + 1)) with | some v => some (k + 1, v) | none => findR s.data.toList k) = _; rw [HV.out], Below.chain ch (below_a1 _ _)⟩
      | some v =>
        obtain ⟨vk, vn, vf⟩ := v
        rw [hv] at RP
        simp only [rpTuple] at RP
        have HV := Lib.hid hv
        clear hv
        go_wp2_with fail
        refine RP.mono ?_; rintro e w1 ⟨rfl, hb1⟩
        have ch := Below.chain hb hb1
        obtain ⟨hc1, hf1⟩ := bcell ch
        have hz1 : w.heap.size < w1.heap.size := by have := ch.size; simp at this; omega
        clear RP hc hfz
        go_wp2_with fail
        refine ret_vnb rfl rfl rfl rfl rfl ((((lies1 _ _ _ _ _).below ch).set _ _ _ _).alloc _) ⟨?_, (below_set4 (Below.chain (below_a1 _ _) ch) (by omega) _ _ _ _).alloc (by simp; omega) _⟩
        rw [HF.out]
        show _ = Ending.returned (vrTuple (match rpSem (s.data.toList.take (k + 1)) with | some v => some (k + 1, v) | none => findR s.data.toList k))
        rw [HV.out]
        rfl
end Go.Proofs.YtainigcchlgehaaGreatDoor
namespace Go.Proofs.YtainigcchlgehaaGreatDoor
open Go Go.RowKit
set_option linter.unusedVariables false
end Go.Proofs.YtainigcchlgehaaGreatDoor
namespace Go.Proofs.YtainigcchlgehaaGreatDoor
open Go Go.RowKit
set_option linter.unusedVariables false
theorem tl0 : (ByteArray.mk #[]).toList = [] := nil_list
theorem tl1 (a : UInt8) : (ByteArray.mk #[a]).toList = [a] := by rw [Lib.toList_data]
theorem tl2 (a b : UInt8) : (ByteArray.mk #[a, b]).toList = [a, b] := by rw [Lib.toList_data]
theorem right_w (n : Int) : rightB 2 n 0 ⟨#[]⟩ = true := by simp [rightB]
theorem shown_rd : findR [45, 49, 50, 32, 120] (runN 23 [45, 49, 50, 32, 120]) = some (3, 2, -12, 0) := by
  have e : runN 23 [45, 49, 50, 32, 120] = 3 := by decide
  have e2 : rpSem [45, 49, 50] = some (2, -12, 0) := by
    unfold rpSem
    have h1 : Lib.parseIntB 64 [45, 49, 50] = .ok (-12) := by decide
    have h2 : Lib.itoa (-12) = [45, 49, 50] := by
      unfold Lib.itoa
      rw [if_pos (by decide)]
      rw [show (-12 : Int).natAbs = 12 from rfl, Lib.decDigits, Lib.decDigits]
      decide
    rw [if_neg (by decide), if_neg (by decide), if_neg (by decide), h1]
    simp only [h2, if_true]
  rw [e]
  show (match rpSem [45, 49, 50] with | some v => some (3, v) | none => findR [45, 49, 50, 32, 120] 2) = _
  rw [e2]
end Go.Proofs.YtainigcchlgehaaGreatDoor


