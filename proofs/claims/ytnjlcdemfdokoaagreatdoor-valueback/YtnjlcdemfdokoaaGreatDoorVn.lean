import Derived.Test.YtnjlcdemfdokoaaGreatDoorVm
import Derived.Test.YtnjlcdemfdokoaaGreatDoorWq
import Derived.Test.YtnjlcdemfdokoaaGreatDoorVh
namespace Go.Proofs.YtnjlcdemfdokoaaGreatDoor
open Go Go.RowKit
set_option linter.unusedVariables false
theorem pint64_ok (t : ByteArray) (hmax : t.size ≤ 9223372036854775806) (v : Int) (h : Lib.parseIntB 64 t.data.toList = .ok v) (w : World) :
    Calls Tryz.prog 112 #[.string t, .int .i64 10, .int .i64 64] w fun e w' => e = .returned (.tuple #[.int .i64 v, .nilIface]) ∧ Below w.heap.size w w' :=
  (Tryz.strconv_ParseInt_10_at64_ok t hmax v h w).mono fun e w' ⟨he, hw⟩ => ⟨he, by
    rcases hw with rfl | ⟨t', rfl⟩
    · exact Below.refl _ _
    · exact Lib.bytesWorld_below _ _ _⟩
/-- an error of strconv's -/
def BadParse (w : World) (e : Ending) (w' : World) : Prop := ∃ (v : Int) (N : Nat), e = .returned (.tuple #[.int .i64 v, .iface 153 (.pointer (some ⟨N, 0, none⟩))]) ∧ Below w.heap.size w w'
theorem pint64_err (t : ByteArray) (hmax : t.size ≤ 281474976710656) (h : ∀ v, Lib.parseIntB 64 t.data.toList ≠ .ok v) (w : World) (hT : Tabs w) :
    Calls Tryz.prog 112 #[.string t, .int .i64 10, .int .i64 64] w (BadParse w) := by
  rcases hp : Lib.parseIntB 64 t.data.toList with v | _ | _
  · exact absurd hp (h v)
  · obtain ⟨te, pe, hv⟩ := hT.es
    exact (Tryz.strconv_ParseInt_10_at64_syntax t hmax hp (.iface te pe) w hv (Or.inr ⟨te, pe, rfl⟩)).mono fun e w' ⟨N, he, _, _, hb⟩ => ⟨0, N, he, hb⟩
  · obtain ⟨te, pe, hv⟩ := hT.er
    exact (Tryz.strconv_ParseInt_10_at64_range t hmax hp (.iface te pe) w hv (Or.inr ⟨te, pe, rfl⟩)).mono fun e w' ⟨N, he, _, _, hb⟩ => ⟨_, N, he, hb⟩
theorem fint_any (n : Int) (h0 : -9223372036854775808 ≤ n) (h1 : n ≤ 9223372036854775807) (w : World) (hT : Tabs w) :
    Calls Tryz.prog 61 #[.int .i64 n, .int .i64 10] w fun e w' => e = .returned (.string ⟨(Lib.itoa n).toArray⟩) ∧ Below w.heap.size w w' :=
  (Tryz.strconv_FormatInt_10 n h0 h1 w hT.p10).mono fun e w' ⟨he, k, os, hw⟩ => ⟨he, by rw [hw]; exact Lib.below_grow _ w (Nat.le_refl _) k os⟩
theorem lies1 (w : World) (v0 v1 v2 v3 : Value) : Lies (w.alloc (.cells #[v0, v1, v2, v3] 28)) w.heap.size v0 v1 v2 v3 := lies_new w v0 v1 v2 v3 _
theorem rp_null (s : ByteArray) (h1 : (s.toList == [110, 117, 108, 108]) = true) (w : World) (hT : Tabs w) :
    Calls Tryz.prog 70 #[.string s] w fun e w' => e = .returned (.tuple #[.agg #[.int .i64 0, .int .i64 0, .float .f64 0, .string ⟨#[]⟩], .bool true]) ∧ Below w.heap.size w w' := by
  have hsf := run_store_float
  go_enter Tryz.func70, Tryz.ntmps70
  go_wp2_with fail
  exact ret_ve rfl rfl rfl rfl (lies1 _ _ _ _ _) ⟨rfl, below_a1 _ _⟩
theorem rp_false (s : ByteArray) (h1 : (s.toList == [110, 117, 108, 108]) = false) (h2 : (s.toList == [102, 97, 108, 115, 101]) = true) (h3 : (s.toList == [116, 114, 117, 101]) = false) (w : World) (hT : Tabs w) :
    Calls Tryz.prog 70 #[.string s] w fun e w' => e = .returned (.tuple #[.agg #[.int .i64 1, .int .i64 0, .float .f64 0, .string ⟨#[]⟩], .bool true]) ∧ Below w.heap.size w w' := by
  have hsf := run_store_float
  go_enter Tryz.func70, Tryz.ntmps70
  go_wp2_with fail
  refine (truth_any false _).mono ?_; rintro e w1 ⟨rfl, hb1⟩
  have ch1 := hb1
  obtain ⟨hc1, hf1⟩ := bcell ch1
  go_wp2_with fail
  exact ret_ve rfl rfl rfl rfl (((lies1 _ _ _ _ _).below ch1).set _ _ _ _) ⟨rfl, below_set4 (Below.chain (below_a1 _ _) ch1) (by omega) _ _ _ _⟩
theorem rp_true (s : ByteArray) (h1 : (s.toList == [110, 117, 108, 108]) = false) (h2 : (s.toList == [102, 97, 108, 115, 101]) = false) (h3 : (s.toList == [116, 114, 117, 101]) = true) (w : World) (hT : Tabs w) :
    Calls Tryz.prog 70 #[.string s] w fun e w' => e = .returned (.tuple #[.agg #[.int .i64 1, .int .i64 1, .float .f64 0, .string ⟨#[]⟩], .bool true]) ∧ Below w.heap.size w w' := by
  have hsf := run_store_float
  go_enter Tryz.func70, Tryz.ntmps70
  go_wp2_with fail
  refine (truth_any true _).mono ?_; rintro e w1 ⟨rfl, hb1⟩
  have ch1 := hb1
  obtain ⟨hc1, hf1⟩ := bcell ch1
  go_wp2_with fail
  exact ret_ve rfl rfl rfl rfl (((lies1 _ _ _ _ _).below ch1).set _ _ _ _) ⟨rfl, below_set4 (Below.chain (below_a1 _ _) ch1) (by omega) _ _ _ _⟩
theorem rp_int (s : ByteArray) (h1 : (s.toList == [110, 117, 108, 108]) = false) (h2 : (s.toList == [102, 97, 108, 115, 101]) = false) (h3 : (s.toList == [116, 114, 117, 101]) = false) (v : Int) (CP : ∀ w, Tabs w → Calls Tryz.prog 112 #[.string s, .int .i64 10, .int .i64 64] w fun e w' => e = .returned (.tuple #[.int .i64 v, .nilIface]) ∧ Below w.heap.size w w') (t : List UInt8) (CF : ∀ w, Tabs w → Calls Tryz.prog 61 #[.int .i64 v, .int .i64 10] w fun e w' => e = .returned (.string ⟨t.toArray⟩) ∧ Below w.heap.size w w') (ht : (t == s.toList) = true) (w : World) (hT : Tabs w) :
    Calls Tryz.prog 70 #[.string s] w fun e w' => e = .returned (.tuple #[.agg #[.int .i64 2, .int .i64 v, .float .f64 0, .string ⟨#[]⟩], .bool true]) ∧ Below w.heap.size w w' := by
  have hsf := run_store_float
  go_enter Tryz.func70, Tryz.ntmps70
  go_wp2_with fail
  refine (CP _ (hT.below (below_a1 _ _))).mono ?_; rintro e w1 ⟨rfl, hb1⟩
  have ch1 := hb1
  obtain ⟨hc1, hf1⟩ := bcell ch1
  have hz1 : w.heap.size < w1.heap.size := by have := ch1.size; simp at this; omega
  go_wp2_with fail
  refine (CF _ (hT.below (Below.chain (below_a1 _ _) ch1))).mono ?_; rintro e w2 ⟨rfl, hb2⟩
  have ch2 := Below.chain ch1 hb2
  obtain ⟨hc2, hf2⟩ := bcell ch2
  have hz2 : w.heap.size < w2.heap.size := by have := ch2.size; simp at this; omega
  go_wp2_with fail
  refine (whole_any v _).mono ?_; rintro e w3 ⟨rfl, hb3⟩
  have ch3 := Below.chain ch2 hb3
  obtain ⟨hc3, hf3⟩ := bcell ch3
  go_wp2_with fail
  exact ret_ve rfl rfl rfl rfl (((lies1 _ _ _ _ _).below ch3).set _ _ _ _) ⟨rfl, below_set4 (Below.chain (below_a1 _ _) ch3) (by omega) _ _ _ _⟩
theorem rp_if (s : ByteArray) (h1 : (s.toList == [110, 117, 108, 108]) = false) (h2 : (s.toList == [102, 97, 108, 115, 101]) = false) (h3 : (s.toList == [116, 114, 117, 101]) = false) (v : Int) (CP : ∀ w, Tabs w → Calls Tryz.prog 112 #[.string s, .int .i64 10, .int .i64 64] w fun e w' => e = .returned (.tuple #[.int .i64 v, .nilIface]) ∧ Below w.heap.size w w') (t : List UInt8) (CF : ∀ w, Tabs w → Calls Tryz.prog 61 #[.int .i64 v, .int .i64 10] w fun e w' => e = .returned (.string ⟨t.toArray⟩) ∧ Below w.heap.size w w') (ht : (t == s.toList) = false) (f : Nat) (hf : f < 18446744073709551616) (CN : ∀ w, Tabs w → Calls Tryz.prog 113 #[.string s] w fun e w' => e = .returned (.tuple #[.float .f64 f, .int .i64 0]) ∧ Below w.heap.size w w') (w : World) (hT : Tabs w) :
    Calls Tryz.prog 70 #[.string s] w fun e w' => e = .returned (.tuple #[.agg #[.int .i64 3, .int .i64 0, .float .f64 (Flt.canon f), .string ⟨#[]⟩], .bool true]) ∧ Below w.heap.size w w' := by
  have hsf := run_store_float
  go_enter Tryz.func70, Tryz.ntmps70
  go_wp2_with fail
  refine (CP _ (hT.below (below_a1 _ _))).mono ?_; rintro e w1 ⟨rfl, hb1⟩
  have ch1 := hb1
  obtain ⟨hc1, hf1⟩ := bcell ch1
  have hz1 : w.heap.size < w1.heap.size := by have := ch1.size; simp at this; omega
  go_wp2_with fail
  refine (CF _ (hT.below (Below.chain (below_a1 _ _) ch1))).mono ?_; rintro e w2 ⟨rfl, hb2⟩
  have ch2 := Below.chain ch1 hb2
  obtain ⟨hc2, hf2⟩ := bcell ch2
  have hz2 : w.heap.size < w2.heap.size := by have := ch2.size; simp at this; omega
  go_wp2_with fail
  refine (CN _ (hT.below (Below.chain (below_a1 _ _) ch2))).mono ?_; rintro e w3 ⟨rfl, hb3⟩
  have ch3 := Below.chain ch2 hb3
  obtain ⟨hc3, hf3⟩ := bcell ch3
  have hz3 : w.heap.size < w3.heap.size := by have := ch3.size; simp at this; omega
  go_wp2_with fail
  refine (vfloat_any f hf _).mono ?_; rintro e w4 ⟨rfl, hb4⟩
  have ch4 := Below.chain ch3 hb4
  obtain ⟨hc4, hf4⟩ := bcell ch4
  go_wp2_with fail
  exact ret_ve rfl rfl rfl rfl (((lies1 _ _ _ _ _).below ch4).set _ _ _ _) ⟨rfl, below_set4 (Below.chain (below_a1 _ _) ch4) (by omega) _ _ _ _⟩
theorem rp_in (s : ByteArray) (h1 : (s.toList == [110, 117, 108, 108]) = false) (h2 : (s.toList == [102, 97, 108, 115, 101]) = false) (h3 : (s.toList == [116, 114, 117, 101]) = false) (v : Int) (CP : ∀ w, Tabs w → Calls Tryz.prog 112 #[.string s, .int .i64 10, .int .i64 64] w fun e w' => e = .returned (.tuple #[.int .i64 v, .nilIface]) ∧ Below w.heap.size w w') (t : List UInt8) (CF : ∀ w, Tabs w → Calls Tryz.prog 61 #[.int .i64 v, .int .i64 10] w fun e w' => e = .returned (.string ⟨t.toArray⟩) ∧ Below w.heap.size w w') (ht : (t == s.toList) = false) (CN : ∀ w, Tabs w → Calls Tryz.prog 113 #[.string s] w fun e w' => e = .returned (.tuple #[.float .f64 0, .int .i64 2]) ∧ Below w.heap.size w w') (w : World) (hT : Tabs w) :
    Calls Tryz.prog 70 #[.string s] w fun e w' => e = .returned (.tuple #[.agg #[.int .i64 0, .int .i64 0, .float .f64 0, .string ⟨#[]⟩], .bool false]) ∧ Below w.heap.size w w' := by
  have hsf := run_store_float
  go_enter Tryz.func70, Tryz.ntmps70
  go_wp2_with fail
  refine (CP _ (hT.below (below_a1 _ _))).mono ?_; rintro e w1 ⟨rfl, hb1⟩
  have ch1 := hb1
  obtain ⟨hc1, hf1⟩ := bcell ch1
  have hz1 : w.heap.size < w1.heap.size := by have := ch1.size; simp at this; omega
  go_wp2_with fail
  refine (CF _ (hT.below (Below.chain (below_a1 _ _) ch1))).mono ?_; rintro e w2 ⟨rfl, hb2⟩
  have ch2 := Below.chain ch1 hb2
  obtain ⟨hc2, hf2⟩ := bcell ch2
  have hz2 : w.heap.size < w2.heap.size := by have := ch2.size; simp at this; omega
  go_wp2_with fail
  refine (CN _ (hT.below (Below.chain (below_a1 _ _) ch2))).mono ?_; rintro e w3 ⟨rfl, hb3⟩
  have ch3 := Below.chain ch2 hb3
  obtain ⟨hc3, hf3⟩ := bcell ch3
  have hz3 : w.heap.size < w3.heap.size := by have := ch3.size; simp at this; omega
  go_wp2_with fail
  exact ret_ve rfl rfl rfl rfl (((lies1 _ _ _ _ _).below ch3).set _ _ _ _) ⟨rfl, below_set4 (Below.chain (below_a1 _ _) ch3) (by omega) _ _ _ _⟩
theorem rp_ef (s : ByteArray) (h1 : (s.toList == [110, 117, 108, 108]) = false) (h2 : (s.toList == [102, 97, 108, 115, 101]) = false) (h3 : (s.toList == [116, 114, 117, 101]) = false) (CP : ∀ w, Tabs w → Calls Tryz.prog 112 #[.string s, .int .i64 10, .int .i64 64] w (BadParse w)) (f : Nat) (hf : f < 18446744073709551616) (CN : ∀ w, Tabs w → Calls Tryz.prog 113 #[.string s] w fun e w' => e = .returned (.tuple #[.float .f64 f, .int .i64 0]) ∧ Below w.heap.size w w') (w : World) (hT : Tabs w) :
    Calls Tryz.prog 70 #[.string s] w fun e w' => e = .returned (.tuple #[.agg #[.int .i64 3, .int .i64 0, .float .f64 (Flt.canon f), .string ⟨#[]⟩], .bool true]) ∧ Below w.heap.size w w' := by
  have hsf := run_store_float
  go_enter Tryz.func70, Tryz.ntmps70
  go_wp2_with fail
  refine (CP _ (hT.below (below_a1 _ _))).mono ?_; rintro e w1 ⟨v, N, rfl, hb1⟩
  have ch1 := hb1
  obtain ⟨hc1, hf1⟩ := bcell ch1
  have hz1 : w.heap.size < w1.heap.size := by have := ch1.size; simp at this; omega
  go_wp2_with fail
  refine (CN _ (hT.below (Below.chain (below_a1 _ _) ch1))).mono ?_; rintro e w2 ⟨rfl, hb2⟩
  have ch2 := Below.chain ch1 hb2
  obtain ⟨hc2, hf2⟩ := bcell ch2
  have hz2 : w.heap.size < w2.heap.size := by have := ch2.size; simp at this; omega
  go_wp2_with fail
  refine (vfloat_any f hf _).mono ?_; rintro e w3 ⟨rfl, hb3⟩
  have ch3 := Below.chain ch2 hb3
  obtain ⟨hc3, hf3⟩ := bcell ch3
  go_wp2_with fail
  exact ret_ve rfl rfl rfl rfl (((lies1 _ _ _ _ _).below ch3).set _ _ _ _) ⟨rfl, below_set4 (Below.chain (below_a1 _ _) ch3) (by omega) _ _ _ _⟩
theorem rp_en (s : ByteArray) (h1 : (s.toList == [110, 117, 108, 108]) = false) (h2 : (s.toList == [102, 97, 108, 115, 101]) = false) (h3 : (s.toList == [116, 114, 117, 101]) = false) (CP : ∀ w, Tabs w → Calls Tryz.prog 112 #[.string s, .int .i64 10, .int .i64 64] w (BadParse w)) (CN : ∀ w, Tabs w → Calls Tryz.prog 113 #[.string s] w fun e w' => e = .returned (.tuple #[.float .f64 0, .int .i64 2]) ∧ Below w.heap.size w w') (w : World) (hT : Tabs w) :
    Calls Tryz.prog 70 #[.string s] w fun e w' => e = .returned (.tuple #[.agg #[.int .i64 0, .int .i64 0, .float .f64 0, .string ⟨#[]⟩], .bool false]) ∧ Below w.heap.size w w' := by
  have hsf := run_store_float
  go_enter Tryz.func70, Tryz.ntmps70
  go_wp2_with fail
  refine (CP _ (hT.below (below_a1 _ _))).mono ?_; rintro e w1 ⟨v, N, rfl, hb1⟩
  have ch1 := hb1
  obtain ⟨hc1, hf1⟩ := bcell ch1
  have hz1 : w.heap.size < w1.heap.size := by have := ch1.size; simp at this; omega
  go_wp2_with fail
  refine (CN _ (hT.below (Below.chain (below_a1 _ _) ch1))).mono ?_; rintro e w2 ⟨rfl, hb2⟩
  have ch2 := Below.chain ch1 hb2
  obtain ⟨hc2, hf2⟩ := bcell ch2
  have hz2 : w.heap.size < w2.heap.size := by have := ch2.size; simp at this; omega
  go_wp2_with fail
  exact ret_ve rfl rfl rfl rfl (((lies1 _ _ _ _ _).below ch2).set _ _ _ _) ⟨rfl, below_set4 (Below.chain (below_a1 _ _) ch2) (by omega) _ _ _ _⟩
/-- the value whose text it is, without quotes: kind, number, float -/
def rpSem (l : List UInt8) : Option (Int × Int × Nat) :=
  if l = [110, 117, 108, 108] then some (0, 0, 0) else if l = [102, 97, 108, 115, 101] then some (1, 0, 0) else if l = [116, 114, 117, 101] then some (1, 1, 0)
  else match Lib.parseIntB 64 l with
    | .ok v => if Lib.itoa v = l then some (2, v, 0) else (parseSem l).map fun f => (3, 0, f)
    | _ => (parseSem l).map fun f => (3, 0, f)
/-- a value, and whether it is one -/
def rpTuple : Option (Int × Int × Nat) → Value
  | some (k, n, f) => .tuple #[.agg #[.int .i64 k, .int .i64 n, .float .f64 f, .string ⟨#[]⟩], .bool true]
  | none => .tuple #[.agg #[.int .i64 0, .int .i64 0, .float .f64 0, .string ⟨#[]⟩], .bool false]
theorem pi64_le {l : List UInt8} {x : Int} (h : Lib.parseIntB 64 l = .ok x) : -9223372036854775808 ≤ x ∧ x ≤ 9223372036854775807 := by
  unfold Lib.parseIntB at h
  split at h
  · cases h
  · simp only [] at h
    split at h
    · cases h
    · cases h
    · rename_i u hu
      split at h
      · cases h
      · split at h
        · cases h
        · rename_i h1 h2
          injection h with h
          rw [← h]
          split
          · rename_i h3
            have : ¬ 2 ^ (64 - 1) < u := fun h4 => h2 ⟨h3, h4⟩
            have e : (2 : Nat) ^ (64 - 1) = 9223372036854775808 := by decide
            omega
          · rename_i h3
            have : ¬ 2 ^ (64 - 1) ≤ u := fun h4 => h1 ⟨h3, h4⟩
            have e : (2 : Nat) ^ (64 - 1) = 9223372036854775808 := by decide
            omega
theorem rp_any (s : ByteArray) (hs : s.size ≤ 281474976710656) (w : World) (hT : Tabs w) :
    Calls Tryz.prog 70 #[.string s] w fun e w' => e = .returned (rpTuple (rpSem s.data.toList)) ∧ Below w.heap.size w w' := by
  have el : s.toList = s.data.toList := Lib.toList_data s
  unfold rpSem
  by_cases h1 : s.data.toList = [110, 117, 108, 108]
  · rw [if_pos h1]
    exact rp_null s (by rw [el, h1]; rfl) w hT
  rw [if_neg h1]
  have g1 : (s.toList == [110, 117, 108, 108]) = false := by rw [el]; simpa using h1
  by_cases h2 : s.data.toList = [102, 97, 108, 115, 101]
  · rw [if_pos h2]
    exact rp_false s g1 (by rw [el, h2]; rfl) (by rw [el, h2]; rfl) w hT
  rw [if_neg h2]
  have g2 : (s.toList == [102, 97, 108, 115, 101]) = false := by rw [el]; simpa using h2
  by_cases h3 : s.data.toList = [116, 114, 117, 101]
  · rw [if_pos h3]
    exact rp_true s g1 g2 (by rw [el, h3]; rfl) w hT
  rw [if_neg h3]
  have g3 : (s.toList == [116, 114, 117, 101]) = false := by rw [el]; simpa using h3
  have CN := fun w hT => parse_any s hs w hT
  cases hp : Lib.parseIntB 64 s.data.toList with
  | ok v =>
    have hv := pi64_le hp
    have CP := fun w (_ : Tabs w) => pint64_ok s (by omega) v hp w
    have CF := fun w hT => fint_any v hv.1 hv.2 w hT
    by_cases ht : Lib.itoa v = s.data.toList
    · simp only [ht, if_true]
      rw [ht] at CF
      exact rp_int s g1 g2 g3 v CP _ CF (by rw [el]; simp) w hT
    · simp only [ht, if_false]
      have gt : (Lib.itoa v == s.toList) = false := by rw [el]; simpa using ht
      cases hq : parseSem s.data.toList with
      | none => rw [hq] at CN; exact rp_in s g1 g2 g3 v CP _ CF gt CN w hT
      | some f =>
        rw [hq] at CN
        obtain ⟨l1, _, l3⟩ := parseSem_some hq
        have r := rp_if s g1 g2 g3 v CP _ CF gt f l1 CN w hT
        rw [l3] at r
        exact r
  | «syntax» =>
    have CE := fun w hT => pint64_err s hs (by rw [hp]; intro v h; cases h) w hT
    simp only
    cases hq : parseSem s.data.toList with
    | none => rw [hq] at CN; exact rp_en s g1 g2 g3 CE CN w hT
    | some f =>
      rw [hq] at CN
      obtain ⟨l1, _, l3⟩ := parseSem_some hq
      have r := rp_ef s g1 g2 g3 CE f l1 CN w hT
      rw [l3] at r
      exact r
  | range =>
    have CE := fun w hT => pint64_err s hs (by rw [hp]; intro v h; cases h) w hT
    simp only
    cases hq : parseSem s.data.toList with
    | none => rw [hq] at CN; exact rp_en s g1 g2 g3 CE CN w hT
    | some f =>
      rw [hq] at CN
      obtain ⟨l1, _, l3⟩ := parseSem_some hq
      have r := rp_ef s g1 g2 g3 CE f l1 CN w hT
      rw [l3] at r
      exact r
end Go.Proofs.YtnjlcdemfdokoaaGreatDoor
