import Derived.Test.YtnjlcdemfdokoaaGreatDoorVd
namespace Go.Proofs.YtnjlcdemfdokoaaGreatDoor
open Go Go.RowKit
/-- how one text is to another one -/
def cmpS (s t : ByteArray) : Int := if Op.bytesLess s.toList t.toList = true then -1 else if s.toList = t.toList then 0 else 1
theorem isnans_any (s : ByteArray) (w : World) : Calls Tryz.prog 79 #[.string s] w fun e w' => e = .returned (.bool false) ∧ w = w' := by
  go_enter Tryz.func79, Tryz.ntmps79
  go_wp2_with fail
  go_ret
  refine ⟨?_, rfl⟩
  first | with_reducible rfl | simp
theorem cmps_core (s t : ByteArray) (a b : Bool) (ha : Op.bytesLess s.toList t.toList = a) (hb : (s.toList == t.toList) = b) (w : World) :
    Calls Tryz.prog 47 #[.string s, .string t] w fun e w' => e = .returned (.int .i64 (if a = true then -1 else if b = true then 0 else 1)) ∧ w = w' := by
  cases a <;> cases b
  all_goals
    go_enter Tryz.func47, Tryz.ntmps47
    go_wp2_with (go_at_call 79; refine (isnans_any _ _).mono ?_; rintro e w' ⟨rfl, rfl⟩)
    go_ret
    exact ⟨rfl, rfl⟩
theorem cmps_any (s t : ByteArray) (w : World) :
    Calls Tryz.prog 47 #[.string s, .string t] w fun e w' => e = .returned (.int .i64 (cmpS s t)) ∧ w = w' := by
  refine (cmps_core s t _ _ rfl rfl w).mono fun e w' h => ?_
  unfold cmpS
  simpa using h
/-- the first that is not 0 -/
def orI (a b c d : Int) : Int := if a = 0 then (if b = 0 then (if c = 0 then d else c) else b) else a
def at4 (a b c d : Int) (j : Nat) : Int := if j = 0 then a else if j = 1 then b else if j = 2 then c else d
theorem or_any (a b c d : Int) (g : Nat) (w : World) (hg : ∀ j, j < 4 → w.cell? ⟨g, j, none⟩ = some (.int .i64 (at4 a b c d j))) :
    Calls Tryz.prog 43 #[.slice (some ⟨g, 0, none⟩) 4 4] w fun e w' => e = .returned (.int .i64 (orI a b c d)) ∧ w = w' := by
  have HG := Lib.hid hg
  clear hg
  go_enter Tryz.func43, Tryz.ntmps43
  go_wp2_with fail
  go_loop [5, 8] (fun _ i => ∃ k : Nat, k ≤ 4 ∧ i = .int .i64 k ∧ ∀ m, m < k → at4 a b c d m = 0) (fun _ i => 4 - (intOf i).toNat)
  case atStart => exact ⟨0, Nat.zero_le _, rfl, fun m h => absurd h (Nat.not_lt_zero _)⟩
  case round =>
    obtain ⟨k, hk, rfl, hz⟩ := hrel
    have HZ := Lib.hid hz
    clear hz
    by_cases hlt : k < 4
    · have hc := HG.out k hlt
      have ik : (k : Int) < 4 := by omega
      by_cases h0 : at4 a b c d k = 0
      · rw [h0] at hc
        go_wp2_with fail
        go_round
        case rel => exact ⟨k + 1, by omega, by go_num, fun m hm => by
          by_cases e : m = k
          · rw [e]; exact h0
          · exact HZ.out m (by omega)⟩
        case measure => simp [intOf]; omega
      · have hx : (at4 a b c d k != 0) = true := by simpa using h0
        have hx' : (at4 a b c d k == 0) = false := by simpa using h0
        have HK := Lib.hid h0
        clear h0
        obtain ⟨z, ez⟩ : ∃ z, z = at4 a b c d k := ⟨_, rfl⟩
        rw [← ez] at hx hx' hc
        have HE := Lib.hid ez
        clear ez
        go_wp2_with fail
        go_ret
        refine ⟨ret_int ?_, rfl⟩
        rw [HE.out]
        have h := HZ.out
        have hn := HK.out
        clear HG
        unfold orI
        have e : k = 0 ∨ k = 1 ∨ k = 2 ∨ k = 3 := by omega
        rcases e with rfl | rfl | rfl | rfl
        · simp [at4] at hn ⊢; grind
        · have := h 0 (by omega); simp [at4] at hn this ⊢; grind
        · have := h 0 (by omega); have := h 1 (by omega); simp [at4] at *; grind
        · have := h 0 (by omega); have := h 1 (by omega); have := h 2 (by omega); simp [at4] at *; grind
    · have ik : ¬ (k : Int) < 4 := by omega
      have ik' : decide ((k : Int) < 4) = false := by simpa using ik
      go_wp2_with fail
      go_ret
      refine ⟨ret_int ?_, rfl⟩
      have h := HZ.out
      have h0 := h 0 (by omega); have h1 := h 1 (by omega); have h2 := h 2 (by omega); have h3 := h 3 (by omega)
      simp [at4] at h0 h1 h2 h3
      simp [orI, h0, h1, h2, h3]
theorem wp_region_tail {P : Program} {id : Nat} {Q : Exit → Act → World → Prop} {a : Act} {w : World} {l : List Oper} (n : Nat) (hm : P.follows .mixedOrders = true) (hB : Region.lexTailB .any l.toArray n = true)
    (h : wpStill P l.toArray w.drew (fun a' => wpList P l.toArray Q (l.drop n) a' w.drew) (l.take n) a) : (Code.region id l.toArray true).wp P Q a w := wp_region_still_tail n hm hB h
theorem flip {P : Program} {f : FuncId} {args : Array Value} {v : Value} (h : ∀ w : World, Calls P f args w fun e w' => e = .returned v ∧ w = w') (w : World) : Calls P f args w fun e w' => e = .returned v ∧ w' = w :=
  (h w).mono fun _ _ ⟨a, b⟩ => ⟨a, b.symm⟩
set_option maxRecDepth 100000 in
theorem less_any (k n k' n' : Int) (f f' : Nat) (hf : f < 18446744073709551616) (hf' : f' < 18446744073709551616) (s s' : ByteArray) (w : World) :
    Calls Tryz.prog 20 #[.agg #[.int .i64 k, .int .i64 n, .float .f64 f, .string s], .agg #[.int .i64 k', .int .i64 n', .float .f64 f', .string s']] w fun e w' => e = .returned (.bool (decide (orI (Lib.compareInt k k') (Flt.cmp3 n n') (Flt.cmp3 (Flt.kbits f : Nat) (Flt.kbits f' : Nat)) (cmpS s s') < 0))) ∧ Below w.heap.size w w' := by
  have C1 := fun W => Tryz.cmp_Compare_int k k' W
  have C2 := flip (cmpi_any n n')
  have C3 := flip (order_any f f' hf hf')
  have C4 := flip (cmps_any s s')
  clear hf hf'
  generalize hA : Lib.compareInt k k' = A at C1 ⊢
  generalize hB : Flt.cmp3 n n' = B at C2 ⊢
  generalize hC : Flt.cmp3 (Flt.kbits f : Nat) (Flt.kbits f' : Nat) = C at C3 ⊢
  generalize hD : cmpS s s' = D at C4 ⊢
  clear hA hB hC hD
  go_enter Tryz.func20, Tryz.ntmps20
  go_wp2_with fail
  refine wp_region_tail 20 (by kernel_rfl) (by kernel_rfl) ?_
  simp only [List.take_succ_cons, List.take_zero, List.drop_succ_cons, List.drop_zero]
  repeat still_step
  still_call (C1 _)
  repeat still_step
  still_call (C2 _)
  repeat still_step
  still_call (C3 _)
  repeat still_step
  still_call (C4 _)
  repeat still_step
  refine wpStill_nil ?_
  go_wp2_with fail
  refine (or_any A B C D _ _ ?_).mono ?_
  · intro j hj
    have e : j = 0 ∨ j = 1 ∨ j = 2 ∨ j = 3 := by omega
    rcases e with rfl | rfl | rfl | rfl <;> (simp only [at4]; go_simp)
  · rintro e w' ⟨rfl, rfl⟩
    go_wp2_with fail
    go_ret
    exact ⟨rfl, ((below_a2 _ _ _).alloc (by simp; omega) _).drew⟩
/-- which is ahead -/
def lessB (k n : Int) (f : Nat) (s : ByteArray) (k' n' : Int) (f' : Nat) (s' : ByteArray) : Bool :=
  if k = k' then (if n = n' then (if Flt.kbits f = Flt.kbits f' then Op.bytesLess s.toList s'.toList else decide (Flt.kbits f < Flt.kbits f')) else decide (n < n')) else decide (k < k')
theorem orI_less (k n : Int) (f : Nat) (s : ByteArray) (k' n' : Int) (f' : Nat) (s' : ByteArray) :
    decide (orI (Lib.compareInt k k') (Flt.cmp3 n n') (Flt.cmp3 (Flt.kbits f : Nat) (Flt.kbits f' : Nat)) (cmpS s s') < 0) = lessB k n f s k' n' f' s' := by
  unfold orI lessB Lib.compareInt Flt.cmp3 cmpS
  rw [Bool.eq_iff_iff]
  (repeat' split) <;> simp_all <;> omega
theorem rless_core (k n k' n' : Int) (f f' : Nat) (s s' : ByteArray) (C : Int) (C1 : ∀ w, Calls Tryz.prog 48 #[.float .f64 f, .float .f64 f'] w fun e w' => e = .returned (.int .i64 C) ∧ w = w') (a b c : Bool) (ha : (k == k') = a) (hb : (n == n') = b) (hc : (C == 0) = c) (w : World) :
    Calls Tryz.prog 21 #[.agg #[.int .i64 k, .int .i64 n, .float .f64 f, .string s], .agg #[.int .i64 k', .int .i64 n', .float .f64 f', .string s']] w fun e w' => e = .returned (.bool (if a = true then (if b = true then (if c = true then Op.bytesLess s.toList s'.toList else decide (C < 0)) else decide (n < n')) else decide (k < k'))) ∧ Below w.heap.size w w' := by
  have ha' : (k != k') = !a := by rw [← ha]; rfl
  have hb' : (n != n') = !b := by rw [← hb]; rfl
  have hc' : (C != 0) = !c := by rw [← hc]; rfl
  cases a
  · go_enter Tryz.func21, Tryz.ntmps21
    go_wp2_with fail
    go_ret
    exact ⟨rfl, below_a2 _ _ _⟩
  cases b
  · go_enter Tryz.func21, Tryz.ntmps21
    go_wp2_with fail
    go_ret
    exact ⟨rfl, below_a2 _ _ _⟩
  cases c
  · go_enter Tryz.func21, Tryz.ntmps21
    go_wp2_with (refine (C1 _).mono ?_; rintro e w' ⟨rfl, rfl⟩)
    go_ret
    exact ⟨rfl, below_a2 _ _ _⟩
  · go_enter Tryz.func21, Tryz.ntmps21
    go_wp2_with (refine (C1 _).mono ?_; rintro e w' ⟨rfl, rfl⟩)
    go_ret
    exact ⟨rfl, below_a2 _ _ _⟩
theorem rless_any (k n k' n' : Int) (f f' : Nat) (hf : f < 18446744073709551616) (hf' : f' < 18446744073709551616) (s s' : ByteArray) (w : World) :
    Calls Tryz.prog 21 #[.agg #[.int .i64 k, .int .i64 n, .float .f64 f, .string s], .agg #[.int .i64 k', .int .i64 n', .float .f64 f', .string s']] w fun e w' => e = .returned (.bool (lessB k n f s k' n' f' s')) ∧ Below w.heap.size w w' := by
  have hr := Flt.rord_eq f f' hf hf'
  refine (rless_core k n k' n' f f' s s' _ (rorder_any f f' hf hf') _ _ _ rfl rfl rfl w).mono fun e w' h => ret_bool' ?_ h
  rw [hr]
  unfold lessB Flt.cmp3
  rw [Bool.eq_iff_iff]
  (repeat' split) <;> simp_all <;> omega
theorem less_any' (k n k' n' : Int) (f f' : Nat) (hf : f < 18446744073709551616) (hf' : f' < 18446744073709551616) (s s' : ByteArray) (w : World) :
    Calls Tryz.prog 20 #[.agg #[.int .i64 k, .int .i64 n, .float .f64 f, .string s], .agg #[.int .i64 k', .int .i64 n', .float .f64 f', .string s']] w fun e w' => e = .returned (.bool (lessB k n f s k' n' f' s')) ∧ Below w.heap.size w w' :=
  (less_any k n k' n' f f' hf hf' s s' w).mono fun _ _ h => ret_bool' (orI_less ..) h
theorem lies_at (w : World) (g : Nat) (hg : g = w.heap.size) (a b c d : Value) (t : TypeId) : Lies (w.alloc (.cells #[a, b, c, d] t)) g a b c d := by subst hg; exact lies_new w a b c d t
theorem Lies.drew {w : World} {b : Nat} {v0 v1 v2 v3 : Value} (h : Lies w b v0 v1 v2 v3) : Lies w.drew b v0 v1 v2 v3 := h.drewN 1
/-- at most sixty bytes -/
def cut60 (s : ByteArray) : ByteArray := s.extract 0 (min s.size 60)
set_option maxRecDepth 100000 in
theorem of_core (k n : Int) (f m : Nat) (s : ByteArray) (hm : min (s.size : Int) 60 = (m : Int)) (hl : m ≤ s.size) (w : World) :
    Calls Tryz.prog 15 #[.agg #[.int .i64 k, .int .i64 n, .int .u64 (f : Int), .string s]] w fun e w' => e = .returned (.agg #[.int .i64 k, .int .i64 n, .float .f64 f, .string (s.extract 0 m)]) ∧ Below w.heap.size w w' := by
  have h1 := run_frombits
  have hsf := run_store_float
  go_enter Tryz.func15, Tryz.ntmps15
  go_wp2_with fail
  refine wp_region_tail 15 (by kernel_rfl) (by kernel_rfl) ?_
  simp only [List.take_succ_cons, List.take_zero, List.drop_succ_cons, List.drop_zero]
  repeat still_step
  refine wpStill_nil ?_
  go_wp2_with fail
  refine ret_v rfl rfl rfl (Lies.drew (lies_at _ _ (by simp) _ _ _ _ _)) ?_
  exact ⟨rfl, (below_a2 _ _ _).drew⟩
theorem of_any (k n : Int) (f : Nat) (s : ByteArray) (w : World) :
    Calls Tryz.prog 15 #[.agg #[.int .i64 k, .int .i64 n, .int .u64 (f : Int), .string s]] w fun e w' => e = .returned (.agg #[.int .i64 k, .int .i64 n, .float .f64 f, .string (cut60 s)]) ∧ Below w.heap.size w w' :=
  of_core k n f (min s.size 60) s (by omega) (by omega) w
end Go.Proofs.YtnjlcdemfdokoaaGreatDoor
