import Derived.Test.YtcbogapnhabhkaaPK
namespace Go.Proofs.Ytcbogapnhabhkaa
open Go Go.RowKit
set_option linter.unusedVariables false
theorem put_nil (n : Nat) (hn : n < 18446744073709551616) (w : World) :
    Calls Try.prog 11 #[.slice none 0 0, .int .u64 n] w fun e w' => ∃ v, e = .returned v ∧ Own w' w.heap.size v (numB n) ∧ Below w.heap.size w w' :=
  put_any (.slice none 0 0) [] n hn (by simp) w (Bs.nil _ _)
theorem n300 : numB 300 = [2, 1, 44] := by decide
theorem right_m1 : rightB 2 (-1) 0 ⟨#[]⟩ = true := by simp [rightB]
theorem row_m1 : rowV 2 (-1) 0 (⟨#[]⟩ : ByteArray).data.toList = [18, 0] := by decide
theorem read_m1 : valT (valR [18, 0]) 2 = .tuple #[.agg #[.int .i64 2, .int .i64 (-1), .float .f64 0, .string ⟨#[]⟩], .int .i64 2, .bool true] := by
  have : valR [18, 0] = some (⟨2, -1, 0, []⟩, []) := by rfl
  rw [this]; rfl
theorem get_300 : getT (numR [2, 1, 44, 7]) 4 = .tuple #[.int .u64 300, .int .i64 3, .bool true] := by
  have : numR [2, 1, 44, 7] = some (300, [7]) := by rfl
  rw [this]; rfl
theorem get_201 : getT (numR [2, 0, 1]) 3 = .tuple #[.int .u64 0, .int .i64 0, .bool false] := by
  have : numR [2, 0, 1] = none := by rfl
  rw [this]; rfl
set_option maxRecDepth 100000 in
theorem shown_any (w : World) : Calls Try.prog 10 #[] w fun e w' => e = .returned (.bool true) ∧ Below w.heap.size w w' := by
  have hsf := run_store_float
  have P1 := Lib.hid (put_nil 300 (by omega))
  rw [n300] at P1
  go_enter Try.func10, Try.ntmps10
  go_wp2_with fail
  refine (P1.out _).mono ?_; rintro e w1 ⟨v1, rfl, hO1, hb1⟩
  go_wp2_with fail
  refine (P1.out _).mono ?_; rintro e w2 ⟨v2, rfl, hO2, hb2⟩
  have c2 := Below.chain hb1 hb2
  have q1 := hO1.bs.below hb2
  have hO2' := hO2.below (below_a1 w2 (.cells #[.int .u8 7] 5))
  have hB7 : Bs _ (w2.alloc (.cells #[.int .u8 7] 5)) (.slice (some ⟨w2.heap.size, 0, none⟩) 1 1) [7] := bs1 7 rfl (by simp [go_sem])
  have hz2 := hb2.size
  have ca := below_a1 w2 (.cells #[.int .u8 7] 5)
  have hza : w1.heap.size ≤ (w2.alloc (.cells #[.int .u8 7] 5)).heap.size := by simp; omega
  go_wp2_with (at_builtin; refine wpList_append_bs rfl _ _ rfl rfl rfl hO2' hB7 (by simp) hza ?_; intro v3 w3 hO3 hg3)
  have hb3 : Below w1.heap.size w2 w3 := (ca.mono hz2).grown hg3 hza hO2'.row
  have c3 : Below w.heap.size w w3 := c2.trans (hb3.mono hb1.size)
  have q1 : Bs w1.heap.size w3 v1 [2, 1, 44] := q1.below hb3
  have G1 := get_any v3 _ w3 hO3.bs (by simp)
  have e1 : getT (numR ([2, 1, 44] ++ [7])) ([2, 1, 44] ++ [7] : List UInt8).length = .tuple #[.int .u64 300, .int .i64 3, .bool true] := get_300
  rw [e1] at G1
  refine G1.mono ?_; rintro e w4 ⟨rfl, hb4⟩
  have c4 := Below.chain c3 hb4
  have q4 : Bs w1.heap.size w4 v1 [2, 1, 44] := q1.below (hb4.mono (by have := hb3.size; omega))
  have hm : w1.heap.size ≤ w4.heap.size := by have := hb3.size; have := hb4.size; omega
  clear G1 e1 hg3 hO3 hO2' hB7 hb3 c2 hO1 hO2 hb2 ca hza hz2 q1 hb4 c3
  have hO5 := Own.lit w4 w4.heap.size [2, 0, 1] (Nat.le_refl _) (by simp) #[.int .u8 2, .int .u8 0, .int .u8 1] rfl
  have ca := below_a1 w4 (.cells #[.int .u8 2, .int .u8 0, .int .u8 1] 5)
  have G2 := Lib.hid (get_any _ _ _ hO5.bs (by simp))
  have e2 : getT (numR [2, 0, 1]) ([2, 0, 1] : List UInt8).length = .tuple #[.int .u64 0, .int .i64 0, .bool false] := get_201
  rw [e2] at G2
  clear e2 hO5
  go_wp2_with fail
  refine G2.out.mono ?_; rintro e w5 ⟨rfl, hb5⟩
  have d5 := Below.chain ca hb5
  have c5 := Below.chain c4 d5
  have q5 : Bs w1.heap.size w5 v1 [2, 1, 44] := q4.below (d5.mono hm)
  have hm5 : w1.heap.size ≤ w5.heap.size := by have := d5.size; omega
  clear G2 ca hb5 d5 q4 hm c4
  have hO6 : Bs _ (w5.alloc (.cells #[.int .u8 9] 5)) (.slice (some ⟨w5.heap.size, 0, none⟩) 1 1) [9] := bs1 9 rfl (by simp [go_sem])
  have ca := below_a1 w5 (.cells #[.int .u8 9] 5)
  have P2 := Lib.hid (putval_ok _ [9] 2 (-1) 0 ⟨#[]⟩ right_m1 (by omega) (by omega) (by omega) (by decide) (by simp) _ hO6)
  rw [row_m1] at P2
  clear hO6
  go_wp2_with fail
  refine P2.out.mono ?_; rintro e w6 ⟨v6, rfl, hO6, hb6⟩
  have d6 := Below.chain ca hb6
  have c6 := Below.chain c5 d6
  have q6 : Bs w1.heap.size w6 v1 [2, 1, 44] := q5.below (d6.mono hm5)
  have hm6 : w1.heap.size ≤ w6.heap.size := by have := d6.size; omega
  obtain ⟨a6, cp6, rfl⟩ := hO6.len
  have hB6 := hO6.bs
  obtain ⟨ao', cp', he, k2, k3, k4, -⟩ := id hB6
  cases he
  have hcp : (3 : Nat) ≤ cp6 := k2
  have hB7 := hB6.sliced 1 3 cp6 (by omega) (by simp) k2 (Nat.le_refl _)
  have e7 : (([9] ++ [18, 0] : List UInt8).take 3).drop 1 = [18, 0] := by decide
  rw [e7] at hB7
  have hsl : Go.sliced a6 1 3 cp6 1 = .slice (a6.map (fun x => x.add 1)) 2 (cp6 - 1) := by
    unfold Go.sliced; rw [if_neg (by omega)]
  rw [hsl] at hB7
  have V := Lib.hid (gval_any _ _ _ hB7 (by simp))
  have e8 : valT (valR [18, 0]) ([18, 0] : List UInt8).length = .tuple #[.agg #[.int .i64 2, .int .i64 (-1), .float .f64 0, .string ⟨#[]⟩], .int .i64 2, .bool true] := read_m1
  rw [e8] at V
  have h31 : ¬ cp6 = 1 := by omega
  clear e8 hsl hB7 e7 k2 k3 k4 hB6 hO6 P2 ca hb6 d6 q5 hm5 c5
  go_wp2_with fail
  refine V.out.mono ?_; rintro e w7 ⟨rfl, hb7⟩
  have c7 := Below.chain c6 hb7
  have q7 : Bs w1.heap.size w7 v1 [2, 1, 44] := q6.below (hb7.mono hm6)
  have q8 := q7.below ((below_a1 w7 (.cells #[.int .i64 2, .int .i64 (-1), .float .f64 0, .string ⟨#[]⟩] 29)).mono (by have := hb7.size; omega))
  have c8 := Below.chain c7 (below_a1 w7 (.cells #[.int .i64 2, .int .i64 (-1), .float .f64 0, .string ⟨#[]⟩] 29))
  have hS := run_string_bs q8
  have hq : ((⟨([2, 1, 44] : List UInt8).toArray⟩ : ByteArray).toList == [2, 1, 44]) = true := by rw [Lib.toList_data]; decide
  generalize (⟨([2, 1, 44] : List UInt8).toArray⟩ : ByteArray) = S at hS hq
  clear V hb7 c7 q7 q8 c6 q6 hm6
  go_wp2_with fail
  go_ret
  exact ⟨rfl, c8⟩
end Go.Proofs.Ytcbogapnhabhkaa
