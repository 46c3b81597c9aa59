/- The walk of the law ValueTexts. -/
import Derived.Test.YtnjlcdemfdokoaaGreatDoorBS
import Derived.Test.YtnjlcdemfdokoaaGreatDoorBE
namespace Go.Proofs.YtnjlcdemfdokoaaGreatDoor.ValueTexts
open Go Go.RowKit
set_option linter.unusedVariables false
set_option maxRecDepth 100000 in
set_option maxHeartbeats 1000000 in
theorem core (k n : Int) (f : Nat) (s S A : ByteArray) (m : Nat) (hm : min (S.size : Int) 100 = (m : Int)) (ml : m ≤ S.size) (hA : S.extract 0 m = A) (T : ByteArray) (E vk vn q : Int) (vf : Nat) (vt : ByteArray) (ok : Bool) (TX : ∀ w, Tabs w → Calls Tryz.prog 27 #[.agg #[.int .i64 k, .int .i64 n, .float .f64 f, .string (cut60 s)]] w fun e w' => e = .returned (.tuple #[.string T, .int .i64 E]) ∧ Below w.heap.size w w') (RX : ∀ w, Calls Tryz.prog 28 #[.agg #[.int .i64 k, .int .i64 n, .float .f64 f, .string (cut60 s)]] w fun e w' => e = .returned (.tuple #[.string T, .int .i64 E]) ∧ Below w.heap.size w w') (RD : ∀ w, Tabs w → Calls Tryz.prog 29 #[.string A] w fun e w' => e = .returned (.tuple #[.agg #[.int .i64 vk, .int .i64 vn, .float .f64 vf, .string vt], .int .i64 q, .bool ok]) ∧ Below w.heap.size w w') (RR : ∀ w, Calls Tryz.prog 30 #[.string A] w fun e w' => e = .returned (.tuple #[.agg #[.int .i64 vk, .int .i64 vn, .float .f64 vf, .string vt], .int .i64 q, .bool ok]) ∧ Below w.heap.size w w') (SM : ∀ w, Calls Tryz.prog 19 #[.agg #[.int .i64 vk, .int .i64 vn, .float .f64 vf, .string vt], .agg #[.int .i64 vk, .int .i64 vn, .float .f64 vf, .string vt]] w fun e w' => e = .returned (.bool true) ∧ Below w.heap.size w w') (w : World) (hT : Tabs w) :
    Calls Tryz.prog 6 #[.agg #[.int .i64 k, .int .i64 n, .int .u64 (f : Int), .string s], .string S] w fun e w' => e = .returned (.bool true) ∧ Below w.heap.size w w' := by
  cases ok
  all_goals
    have hsf := run_store_float
    have c0 : Below w.heap.size w (w.alloc (.cells #[.int .i64 k, .int .i64 n, .int .u64 (f : Int), .string s] 24)) := (Below.refl w.heap.size w).alloc (by simp) _
    have LB0_0 : Lies (w.alloc (.cells #[.int .i64 k, .int .i64 n, .int .u64 (f : Int), .string s] 24)) (w.heap.size) (.int .i64 k) (.int .i64 n) (.int .u64 (f : Int)) (.string s) := lies_at w (w.heap.size) (by simp) (.int .i64 k) (.int .i64 n) (.int .u64 (f : Int)) (.string s) 24
    go_enter Tryz.func6, Tryz.ntmps6
    go_wp2_with fail
    refine (shown_any _ (hT.below c0)).mono ?_; rintro e w1 ⟨rfl, hb1⟩
    have c1 := Below.chain c0 hb1
    have LB0_1 := LB0_0.below hb1
    have ⟨_, _, _, _⟩ := LB0_1
    go_wp2_with fail
    refine (of_any k n f s _).mono ?_; rintro e w2 ⟨rfl, hb2⟩
    have c2 := Below.chain c1 hb2
    have LB0_2 := LB0_1.below hb2
    have c3 := Below.chain c2 (below_a1 w2 (.cells #[.int .i64 k, .int .i64 n, .float .f64 f, .string (cut60 s)] 28))
    have LB0_3 := LB0_2.alloc (.cells #[.int .i64 k, .int .i64 n, .float .f64 f, .string (cut60 s)] 28)
    have Lx_3 := lies_new w2 (.int .i64 k) (.int .i64 n) (.float .f64 f) (.string (cut60 s)) 28
    have ⟨_, _, _, _⟩ := LB0_3
    have ⟨_, _, _, _⟩ := Lx_3
    go_wp2_with fail
    refine (TX _ (hT.below c3)).mono ?_; rintro e w4 ⟨rfl, hb4⟩
    have c4 := Below.chain c3 hb4
    have Lx_4 := Lx_3.below hb4
    have ⟨_, _, _, _⟩ := Lx_4
    go_wp2_with fail
    refine (RX _).mono ?_; rintro e w5 ⟨rfl, hb5⟩
    have c5 := Below.chain c4 hb5
    have Lx_5 := Lx_4.below hb5
    have ⟨_, _, _, _⟩ := Lx_5
    go_wp2_with fail
    refine (RD _ (hT.below c5)).mono ?_; rintro e w6 ⟨rfl, hb6⟩
    have c6 := Below.chain c5 hb6
    have Lx_6 := Lx_5.below hb6
    have c7 := Below.chain c6 (below_a1 w6 (.cells #[.int .i64 vk, .int .i64 vn, .float .f64 vf, .string vt] 28))
    have La_7 := lies_new w6 (.int .i64 vk) (.int .i64 vn) (.float .f64 vf) (.string vt) 28
    have ⟨_, _, _, _⟩ := La_7
    go_wp2_with fail
    refine (RR _).mono ?_; rintro e w8 ⟨rfl, hb8⟩
    have c8 := Below.chain c7 hb8
    have La_8 := La_7.below hb8
    have c9 := Below.chain c8 (below_a1 w8 (.cells #[.int .i64 vk, .int .i64 vn, .float .f64 vf, .string vt] 28))
    have La_9 := La_8.alloc (.cells #[.int .i64 vk, .int .i64 vn, .float .f64 vf, .string vt] 28)
    have Lb_9 := lies_new w8 (.int .i64 vk) (.int .i64 vn) (.float .f64 vf) (.string vt) 28
    have ⟨_, _, _, _⟩ := La_9
    have ⟨_, _, _, _⟩ := Lb_9
    go_wp2_with fail
    refine (SM _).mono ?_; rintro e w10 ⟨rfl, hb10⟩
    have c10 := Below.chain c9 hb10
    have La_10 := La_9.below hb10
    have Lb_10 := Lb_9.below hb10
    have ⟨_, _, _, _⟩ := La_10
    have ⟨_, _, _, _⟩ := Lb_10
    go_wp2_with fail
    go_ret
    exact ⟨rfl, c10⟩
theorem rpSem_lt {l : List UInt8} {k n : Int} {f : Nat} (h : rpSem l = some (k, n, f)) : f < 18446744073709551616 := by
  have hp : ∀ {g : Option (Int × Int × Nat)}, g = (parseSem l).map (fun f => ((3 : Int), (0 : Int), f)) → g = some (k, n, f) → f < 18446744073709551616 := fun {g} h1 h2 => by
    rw [h1] at h2
    cases hq : parseSem l with
    | none => rw [hq] at h2; cases h2
    | some x => rw [hq] at h2; simp at h2; obtain ⟨_, _, rfl⟩ := h2; exact (parseSem_some hq).1
  unfold rpSem at h
  split at h
  · simp at h; obtain ⟨_, _, rfl⟩ := h; decide
  split at h
  · simp at h; obtain ⟨_, _, rfl⟩ := h; decide
  split at h
  · simp at h; obtain ⟨_, _, rfl⟩ := h; decide
  split at h
  · split at h
    · simp at h; obtain ⟨_, _, rfl⟩ := h; decide
    · exact hp rfl h
  · exact hp rfl h
theorem vrd_lt {l : List UInt8} {n : Nat} {k m : Int} {f : Nat} {t : List UInt8} (h : vrdSem l = some (n, k, m, f, t)) : f < 18446744073709551616 := by
  unfold vrdSem at h
  split at h
  · cases hr : rq (l.length + 1) (l.drop 1) [] 1 with
    | none => rw [hr] at h; cases h
    | some p => rw [hr] at h; simp at h; obtain ⟨_, _, _, rfl, _⟩ := h; decide
  · cases hr : findR l (runN 23 l) with
    | none => rw [hr] at h; cases h
    | some p =>
      obtain ⟨m', k', n', f'⟩ := p
      rw [hr] at h; simp at h; obtain ⟨_, _, _, rfl, _⟩ := h
      exact rpSem_lt (findR_some l _ _ _ hr).2.2
theorem walk (k n : Int) (f : Nat) (s : ByteArray) (S : ByteArray) (_ : -9223372036854775808 ≤ k) (_ : k ≤ 9223372036854775807) (n1 : -9223372036854775808 ≤ n) (n2 : n ≤ 9223372036854775807) (hf : f < 18446744073709551616) (hs : s.size ≤ maxLen) (hS : S.size ≤ maxLen) (w : World) (hT : Tabs w) :
    Calls Tryz.prog 6 #[.agg #[.int .i64 k, .int .i64 n, .int .u64 (f : Int), .string s], .string S] w fun e w' => e = .returned (.bool true) ∧ Below w.heap.size w w' := by
  have hc60 : (cut60 s).size ≤ 60 := by unfold cut60; simp; omega
  have hA : (S.extract 0 (min S.size 100)).size ≤ 100 := by simp; omega
  have hTX : ∃ (T : ByteArray) (E : Int), (∀ w, Tabs w → Calls Tryz.prog 27 #[.agg #[.int .i64 k, .int .i64 n, .float .f64 f, .string (cut60 s)]] w fun e w' => e = .returned (.tuple #[.string T, .int .i64 E]) ∧ Below w.heap.size w w') ∧ (∀ w, Calls Tryz.prog 28 #[.agg #[.int .i64 k, .int .i64 n, .float .f64 f, .string (cut60 s)]] w fun e w' => e = .returned (.tuple #[.string T, .int .i64 E]) ∧ Below w.heap.size w w') := by
    cases hr : rightB k n f (cut60 s)
    · have R1 := right_any k n f hf (cut60 s)
      have R2 := rright_any k n f hf (cut60 s)
      rw [hr] at R1 R2
      exact ⟨_, _, fun w hT => tx_bad k n f (cut60 s) R1 w hT, fun w => rtv_bad k n f (cut60 s) R2 w⟩
    · exact ⟨_, _, fun w hT => text_right k n f (cut60 s) n1 n2 hf (by omega) hr w hT, fun w => rtxt_right k n f (cut60 s) n1 n2 hf (by omega) hr w⟩
  obtain ⟨T, E, TX, RX⟩ := hTX
  have RD := fun w hT => vread_any (S.extract 0 (min S.size 100)) (by omega) w hT
  have RR := rread_any (S.extract 0 (min S.size 100)) (by omega)
  cases hv : vrdSem (S.extract 0 (min S.size 100)).data.toList with
  | none =>
    rw [hv] at RD RR
    exact core k n f s S _ (min S.size 100) (by omega) (by omega) rfl T E 0 0 0 0 ⟨#[]⟩ false TX RX RD RR (same_self 0 0 0 (by decide) ⟨#[]⟩) w hT
  | some p =>
    obtain ⟨q, vk, vn, vf, vt⟩ := p
    rw [hv] at RD RR
    exact core k n f s S _ (min S.size 100) (by omega) (by omega) rfl T E vk vn (q : Int) vf ⟨vt.toArray⟩ true TX RX RD RR (same_self vk vn vf (vrd_lt hv) ⟨vt.toArray⟩) w hT
end Go.Proofs.YtnjlcdemfdokoaaGreatDoor.ValueTexts
