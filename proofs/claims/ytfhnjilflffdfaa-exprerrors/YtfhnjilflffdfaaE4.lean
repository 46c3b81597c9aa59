import Derived.Test.YtfhnjilflffdfaaE3
namespace Go.Proofs.Ytfhnjilflffdfaa
open Go Go.RowKit
set_option linter.unusedVariables false
/-- what the looking up of an operator hands back -/
def LooksO (op : ByteArray) (G1 G2 : Value) (known : Bool) : Prop := (G1.oneCell' = true ∧ G2.oneCell' = true) ∧ ∀ (b : Nat) (w : World), w.heap[b]? = some (.map ents_o 3) → (Instr.lookup 90 (.map (some b)) (.string op) true).run Try.prog w = .ok (.tuple #[.agg #[G1, G2], .bool known]) w
theorem LooksO.at {op : ByteArray} {G1 G2 : Value} {known : Bool} (h : LooksO op G1 G2 known) (w : World) (o1 o2 o3 : Obj) :
    (Instr.lookup 90 (.map (some (w.heap.size + 1 + 1 + 1))) (.string op) true).run Try.prog ((((w.alloc o1).alloc o2).alloc o3).alloc (.map ents_o 3)) = .ok (.tuple #[.agg #[G1, G2], .bool known]) ((((w.alloc o1).alloc o2).alloc o3).alloc (.map ents_o 3)) :=
  h.2 _ _ (by have := heap_alloc_new (((w.alloc o1).alloc o2).alloc o3) (.map ents_o 3); simpa using this)
theorem LooksO.store1 {op : ByteArray} {G1 G2 : Value} {known : Bool} (h : LooksO op G1 G2 known) (a : Addr) (m : Mode) (w : World) : (Go.store a G1 m).run Try.prog w = stored Try.prog w a G1 m := run_store Try.prog w a G1 m h.1.1
theorem LooksO.store2 {op : ByteArray} {G1 G2 : Value} {known : Bool} (h : LooksO op G1 G2 known) (a : Addr) (m : Mode) (w : World) : (Go.store a G2 m).run Try.prog w = stored Try.prog w a G2 m := run_store Try.prog w a G2 m h.1.2
/-- a float that is c, but for which nan -/
def FloatRet (c : Nat) (w : World) (e : Ending) (w' : World) : Prop := ∃ r, e = .returned (.float .f64 r) ∧ Flt.canon r = c ∧ r < 18446744073709551616 ∧ Below w.heap.size w w'
/-- a number that has no room -/
def BadInt (w : World) (e : Ending) (w' : World) : Prop := ∃ N : Int, e = .returned (.tuple #[.int .i64 N, .bool false]) ∧ w = w'
/-- a number as a float -/
def asF (k n : Int) (f : Nat) : Nat := if k = 2 then floatOfInt .f64 n else f
theorem asf_core (k n : Int) (f : Nat) (s : ByteArray) (a : Bool) (ha : (k == 2) = a) (w : World) :
    Calls Try.prog 58 #[.agg #[.int .i64 k, .int .i64 n, .float .f64 f, .string s]] w fun e w' => e = .returned (.float .f64 (if a = true then floatOfInt .f64 n else f)) ∧ Below w.heap.size w w' := by
  cases a
  all_goals
    go_enter Try.func58, Try.ntmps58
    go_wp2_with fail
    go_ret
    exact ⟨rfl, below_a1 _ _⟩
theorem asf_any (k n : Int) (f : Nat) (s : ByteArray) (w : World) :
    Calls Try.prog 58 #[.agg #[.int .i64 k, .int .i64 n, .float .f64 f, .string s]] w fun e w' => e = .returned (.float .f64 (asF k n f)) ∧ Below w.heap.size w w' := by
  have h := asf_core k n f s _ rfl w
  unfold asF
  simpa using h
set_option maxRecDepth 100000 in
theorem reck_unk (op : ByteArray) (G1 G2 : Value) (H : LooksO op G1 G2 false) (k n k' n' : Int) (f f' : Nat) (s s' : ByteArray) (w : World) :
    Calls Try.prog 51 #[.string op, .agg #[.int .i64 k, .int .i64 n, .float .f64 f, .string s], .agg #[.int .i64 k', .int .i64 n', .float .f64 f', .string s']] w fun e w' => e = .returned (.tuple #[.agg #[.int .i64 0, .int .i64 0, .float .f64 0, .string ⟨#[]⟩], .int .i64 1]) ∧ Below w.heap.size w w' := by
  have hsf := run_store_float
  have HL := H.at w
  have HS1 := H.store1
  have HS2 := H.store2
  clear H
  go_enter Try.func51, Try.ntmps51
  go_wp2_with fail
  refine (opers_any _).mono ?_; rintro e w' ⟨rfl, rfl⟩
  go_wp2_with fail
  exact ret_ve rfl rfl rfl rfl (null5 _ _ _ _ _ _ _ _ _) ⟨rfl, below_a5 _ _ _ _ _ _⟩
set_option maxRecDepth 100000 in
theorem reck_ra (op : ByteArray) (G1 G2 : Value) (H : LooksO op G1 G2 true) (k n k' n' : Int) (f f' : Nat) (s s' : ByteArray) (C1 : ∀ w, Calls Try.prog 29 #[.agg #[.int .i64 k, .int .i64 n, .float .f64 f, .string s]] w fun e w' => e = .returned (.bool false) ∧ Below w.heap.size w w') (w : World) :
    Calls Try.prog 51 #[.string op, .agg #[.int .i64 k, .int .i64 n, .float .f64 f, .string s], .agg #[.int .i64 k', .int .i64 n', .float .f64 f', .string s']] w fun e w' => e = .returned (.tuple #[.agg #[.int .i64 0, .int .i64 0, .float .f64 0, .string ⟨#[]⟩], .int .i64 1]) ∧ Below w.heap.size w w' := by
  have hsf := run_store_float
  have HL := H.at w
  have HS1 := H.store1
  have HS2 := H.store2
  clear H
  go_enter Try.func51, Try.ntmps51
  go_wp2_with fail
  refine (opers_any _).mono ?_; rintro e w' ⟨rfl, rfl⟩
  go_wp2_with fail
  refine (C1 _).mono ?_; rintro e w1 ⟨rfl, hb1⟩
  have ch1 := hb1
  obtain ⟨hc1, hf1⟩ := bcell ch1
  have hz1 : w.heap.size + 1 + 1 + 1 + 1 < w1.heap.size := by have := ch1.size; simp only [size5] at this; omega
  go_wp2_with fail
  exact ret_ve rfl rfl rfl rfl (((null5 _ _ _ _ _ _ _ _ _).below ch1).set _ _ _ _) ⟨rfl, below_set4 (Below.chain (below_a5 _ _ _ _ _ _) ch1) (by omega) _ _ _ _⟩
set_option maxRecDepth 100000 in
theorem reck_rb (op : ByteArray) (G1 G2 : Value) (H : LooksO op G1 G2 true) (k n k' n' : Int) (f f' : Nat) (s s' : ByteArray) (C1 : ∀ w, Calls Try.prog 29 #[.agg #[.int .i64 k, .int .i64 n, .float .f64 f, .string s]] w fun e w' => e = .returned (.bool true) ∧ Below w.heap.size w w') (C2 : ∀ w, Calls Try.prog 29 #[.agg #[.int .i64 k', .int .i64 n', .float .f64 f', .string s']] w fun e w' => e = .returned (.bool false) ∧ Below w.heap.size w w') (w : World) :
    Calls Try.prog 51 #[.string op, .agg #[.int .i64 k, .int .i64 n, .float .f64 f, .string s], .agg #[.int .i64 k', .int .i64 n', .float .f64 f', .string s']] w fun e w' => e = .returned (.tuple #[.agg #[.int .i64 0, .int .i64 0, .float .f64 0, .string ⟨#[]⟩], .int .i64 1]) ∧ Below w.heap.size w w' := by
  have hsf := run_store_float
  have HL := H.at w
  have HS1 := H.store1
  have HS2 := H.store2
  clear H
  go_enter Try.func51, Try.ntmps51
  go_wp2_with fail
  refine (opers_any _).mono ?_; rintro e w' ⟨rfl, rfl⟩
  go_wp2_with fail
  refine (C1 _).mono ?_; rintro e w1 ⟨rfl, hb1⟩
  have ch1 := hb1
  obtain ⟨hc1, hf1⟩ := bcell ch1
  have hz1 : w.heap.size + 1 + 1 + 1 + 1 < w1.heap.size := by have := ch1.size; simp only [size5] at this; omega
  go_wp2_with fail
  refine (C2 _).mono ?_; rintro e w2 ⟨rfl, hb2⟩
  have ch2 := Below.chain ch1 hb2
  obtain ⟨hc2, hf2⟩ := bcell ch2
  have hz2 : w.heap.size + 1 + 1 + 1 + 1 < w2.heap.size := by have := ch2.size; simp only [size5] at this; omega
  go_wp2_with fail
  exact ret_ve rfl rfl rfl rfl (((null5 _ _ _ _ _ _ _ _ _).below ch2).set _ _ _ _) ⟨rfl, below_set4 (Below.chain (below_a5 _ _ _ _ _ _) ch2) (by omega) _ _ _ _⟩
set_option maxRecDepth 100000 in
theorem reck_na (op : ByteArray) (G1 G2 : Value) (H : LooksO op G1 G2 true) (k n k' n' : Int) (f f' : Nat) (s s' : ByteArray) (C1 : ∀ w, Calls Try.prog 29 #[.agg #[.int .i64 k, .int .i64 n, .float .f64 f, .string s]] w fun e w' => e = .returned (.bool true) ∧ Below w.heap.size w w') (C2 : ∀ w, Calls Try.prog 29 #[.agg #[.int .i64 k', .int .i64 n', .float .f64 f', .string s']] w fun e w' => e = .returned (.bool true) ∧ Below w.heap.size w w') (h0 : (k == 0) = true) (w : World) :
    Calls Try.prog 51 #[.string op, .agg #[.int .i64 k, .int .i64 n, .float .f64 f, .string s], .agg #[.int .i64 k', .int .i64 n', .float .f64 f', .string s']] w fun e w' => e = .returned (.tuple #[.agg #[.int .i64 0, .int .i64 0, .float .f64 0, .string ⟨#[]⟩], .int .i64 0]) ∧ Below w.heap.size w w' := by
  have hsf := run_store_float
  have HL := H.at w
  have HS1 := H.store1
  have HS2 := H.store2
  clear H
  go_enter Try.func51, Try.ntmps51
  go_wp2_with fail
  refine (opers_any _).mono ?_; rintro e w' ⟨rfl, rfl⟩
  go_wp2_with fail
  refine (C1 _).mono ?_; rintro e w1 ⟨rfl, hb1⟩
  have ch1 := hb1
  obtain ⟨hc1, hf1⟩ := bcell ch1
  have hz1 : w.heap.size + 1 + 1 + 1 + 1 < w1.heap.size := by have := ch1.size; simp only [size5] at this; omega
  go_wp2_with fail
  refine (C2 _).mono ?_; rintro e w2 ⟨rfl, hb2⟩
  have ch2 := Below.chain ch1 hb2
  obtain ⟨hc2, hf2⟩ := bcell ch2
  have hz2 : w.heap.size + 1 + 1 + 1 + 1 < w2.heap.size := by have := ch2.size; simp only [size5] at this; omega
  go_wp2_with fail
  exact ret_ve rfl rfl rfl rfl (((null5 _ _ _ _ _ _ _ _ _).below ch2).set _ _ _ _) ⟨rfl, below_set4 (Below.chain (below_a5 _ _ _ _ _ _) ch2) (by omega) _ _ _ _⟩
set_option maxRecDepth 100000 in
theorem reck_nb (op : ByteArray) (G1 G2 : Value) (H : LooksO op G1 G2 true) (k n k' n' : Int) (f f' : Nat) (s s' : ByteArray) (C1 : ∀ w, Calls Try.prog 29 #[.agg #[.int .i64 k, .int .i64 n, .float .f64 f, .string s]] w fun e w' => e = .returned (.bool true) ∧ Below w.heap.size w w') (C2 : ∀ w, Calls Try.prog 29 #[.agg #[.int .i64 k', .int .i64 n', .float .f64 f', .string s']] w fun e w' => e = .returned (.bool true) ∧ Below w.heap.size w w') (h0 : (k == 0) = false) (h1 : (k' == 0) = true) (w : World) :
    Calls Try.prog 51 #[.string op, .agg #[.int .i64 k, .int .i64 n, .float .f64 f, .string s], .agg #[.int .i64 k', .int .i64 n', .float .f64 f', .string s']] w fun e w' => e = .returned (.tuple #[.agg #[.int .i64 0, .int .i64 0, .float .f64 0, .string ⟨#[]⟩], .int .i64 0]) ∧ Below w.heap.size w w' := by
  have hsf := run_store_float
  have HL := H.at w
  have HS1 := H.store1
  have HS2 := H.store2
  clear H
  go_enter Try.func51, Try.ntmps51
  go_wp2_with fail
  refine (opers_any _).mono ?_; rintro e w' ⟨rfl, rfl⟩
  go_wp2_with fail
  refine (C1 _).mono ?_; rintro e w1 ⟨rfl, hb1⟩
  have ch1 := hb1
  obtain ⟨hc1, hf1⟩ := bcell ch1
  have hz1 : w.heap.size + 1 + 1 + 1 + 1 < w1.heap.size := by have := ch1.size; simp only [size5] at this; omega
  go_wp2_with fail
  refine (C2 _).mono ?_; rintro e w2 ⟨rfl, hb2⟩
  have ch2 := Below.chain ch1 hb2
  obtain ⟨hc2, hf2⟩ := bcell ch2
  have hz2 : w.heap.size + 1 + 1 + 1 + 1 < w2.heap.size := by have := ch2.size; simp only [size5] at this; omega
  go_wp2_with fail
  exact ret_ve rfl rfl rfl rfl (((null5 _ _ _ _ _ _ _ _ _).below ch2).set _ _ _ _) ⟨rfl, below_set4 (Below.chain (below_a5 _ _ _ _ _ _) ch2) (by omega) _ _ _ _⟩
set_option maxRecDepth 100000 in
theorem reck_ta (op : ByteArray) (G1 G2 : Value) (H : LooksO op G1 G2 true) (k n k' n' : Int) (f f' : Nat) (s s' : ByteArray) (C1 : ∀ w, Calls Try.prog 29 #[.agg #[.int .i64 k, .int .i64 n, .float .f64 f, .string s]] w fun e w' => e = .returned (.bool true) ∧ Below w.heap.size w w') (C2 : ∀ w, Calls Try.prog 29 #[.agg #[.int .i64 k', .int .i64 n', .float .f64 f', .string s']] w fun e w' => e = .returned (.bool true) ∧ Below w.heap.size w w') (h0 : (k == 0) = false) (h1 : (k' == 0) = false) (C3 : ∀ w, Calls Try.prog 57 #[.agg #[.int .i64 k, .int .i64 n, .float .f64 f, .string s]] w fun e w' => e = .returned (.bool false) ∧ Below w.heap.size w w') (w : World) :
    Calls Try.prog 51 #[.string op, .agg #[.int .i64 k, .int .i64 n, .float .f64 f, .string s], .agg #[.int .i64 k', .int .i64 n', .float .f64 f', .string s']] w fun e w' => e = .returned (.tuple #[.agg #[.int .i64 0, .int .i64 0, .float .f64 0, .string ⟨#[]⟩], .int .i64 4]) ∧ Below w.heap.size w w' := by
  have hsf := run_store_float
  have HL := H.at w
  have HS1 := H.store1
  have HS2 := H.store2
  clear H
  go_enter Try.func51, Try.ntmps51
  go_wp2_with fail
  refine (opers_any _).mono ?_; rintro e w' ⟨rfl, rfl⟩
  go_wp2_with fail
  refine (C1 _).mono ?_; rintro e w1 ⟨rfl, hb1⟩
  have ch1 := hb1
  obtain ⟨hc1, hf1⟩ := bcell ch1
  have hz1 : w.heap.size + 1 + 1 + 1 + 1 < w1.heap.size := by have := ch1.size; simp only [size5] at this; omega
  go_wp2_with fail
  refine (C2 _).mono ?_; rintro e w2 ⟨rfl, hb2⟩
  have ch2 := Below.chain ch1 hb2
  obtain ⟨hc2, hf2⟩ := bcell ch2
  have hz2 : w.heap.size + 1 + 1 + 1 + 1 < w2.heap.size := by have := ch2.size; simp only [size5] at this; omega
  go_wp2_with fail
  refine (C3 _).mono ?_; rintro e w3 ⟨rfl, hb3⟩
  have ch3 := Below.chain ch2 hb3
  obtain ⟨hc3, hf3⟩ := bcell ch3
  have hz3 : w.heap.size + 1 + 1 + 1 + 1 < w3.heap.size := by have := ch3.size; simp only [size5] at this; omega
  go_wp2_with fail
  exact ret_ve rfl rfl rfl rfl (((null5 _ _ _ _ _ _ _ _ _).below ch3).set _ _ _ _) ⟨rfl, below_set4 (Below.chain (below_a5 _ _ _ _ _ _) ch3) (by omega) _ _ _ _⟩
set_option maxRecDepth 100000 in
theorem reck_tb (op : ByteArray) (G1 G2 : Value) (H : LooksO op G1 G2 true) (k n k' n' : Int) (f f' : Nat) (s s' : ByteArray) (C1 : ∀ w, Calls Try.prog 29 #[.agg #[.int .i64 k, .int .i64 n, .float .f64 f, .string s]] w fun e w' => e = .returned (.bool true) ∧ Below w.heap.size w w') (C2 : ∀ w, Calls Try.prog 29 #[.agg #[.int .i64 k', .int .i64 n', .float .f64 f', .string s']] w fun e w' => e = .returned (.bool true) ∧ Below w.heap.size w w') (h0 : (k == 0) = false) (h1 : (k' == 0) = false) (C3 : ∀ w, Calls Try.prog 57 #[.agg #[.int .i64 k, .int .i64 n, .float .f64 f, .string s]] w fun e w' => e = .returned (.bool true) ∧ Below w.heap.size w w') (C4 : ∀ w, Calls Try.prog 57 #[.agg #[.int .i64 k', .int .i64 n', .float .f64 f', .string s']] w fun e w' => e = .returned (.bool false) ∧ Below w.heap.size w w') (w : World) :
    Calls Try.prog 51 #[.string op, .agg #[.int .i64 k, .int .i64 n, .float .f64 f, .string s], .agg #[.int .i64 k', .int .i64 n', .float .f64 f', .string s']] w fun e w' => e = .returned (.tuple #[.agg #[.int .i64 0, .int .i64 0, .float .f64 0, .string ⟨#[]⟩], .int .i64 4]) ∧ Below w.heap.size w w' := by
  have hsf := run_store_float
  have HL := H.at w
  have HS1 := H.store1
  have HS2 := H.store2
  clear H
  go_enter Try.func51, Try.ntmps51
  go_wp2_with fail
  refine (opers_any _).mono ?_; rintro e w' ⟨rfl, rfl⟩
  go_wp2_with fail
  refine (C1 _).mono ?_; rintro e w1 ⟨rfl, hb1⟩
  have ch1 := hb1
  obtain ⟨hc1, hf1⟩ := bcell ch1
  have hz1 : w.heap.size + 1 + 1 + 1 + 1 < w1.heap.size := by have := ch1.size; simp only [size5] at this; omega
  go_wp2_with fail
  refine (C2 _).mono ?_; rintro e w2 ⟨rfl, hb2⟩
  have ch2 := Below.chain ch1 hb2
  obtain ⟨hc2, hf2⟩ := bcell ch2
  have hz2 : w.heap.size + 1 + 1 + 1 + 1 < w2.heap.size := by have := ch2.size; simp only [size5] at this; omega
  go_wp2_with fail
  refine (C3 _).mono ?_; rintro e w3 ⟨rfl, hb3⟩
  have ch3 := Below.chain ch2 hb3
  obtain ⟨hc3, hf3⟩ := bcell ch3
  have hz3 : w.heap.size + 1 + 1 + 1 + 1 < w3.heap.size := by have := ch3.size; simp only [size5] at this; omega
  go_wp2_with fail
  refine (C4 _).mono ?_; rintro e w4 ⟨rfl, hb4⟩
  have ch4 := Below.chain ch3 hb4
  obtain ⟨hc4, hf4⟩ := bcell ch4
  have hz4 : w.heap.size + 1 + 1 + 1 + 1 < w4.heap.size := by have := ch4.size; simp only [size5] at this; omega
  go_wp2_with fail
  exact ret_ve rfl rfl rfl rfl (((null5 _ _ _ _ _ _ _ _ _).below ch4).set _ _ _ _) ⟨rfl, below_set4 (Below.chain (below_a5 _ _ _ _ _ _) ch4) (by omega) _ _ _ _⟩
set_option maxRecDepth 100000 in
theorem reck_io (op : ByteArray) (G1 G2 : Value) (H : LooksO op G1 G2 true) (k n k' n' : Int) (f f' : Nat) (s s' : ByteArray) (C1 : ∀ w, Calls Try.prog 29 #[.agg #[.int .i64 k, .int .i64 n, .float .f64 f, .string s]] w fun e w' => e = .returned (.bool true) ∧ Below w.heap.size w w') (C2 : ∀ w, Calls Try.prog 29 #[.agg #[.int .i64 k', .int .i64 n', .float .f64 f', .string s']] w fun e w' => e = .returned (.bool true) ∧ Below w.heap.size w w') (h0 : (k == 0) = false) (h1 : (k' == 0) = false) (C3 : ∀ w, Calls Try.prog 57 #[.agg #[.int .i64 k, .int .i64 n, .float .f64 f, .string s]] w fun e w' => e = .returned (.bool true) ∧ Below w.heap.size w w') (C4 : ∀ w, Calls Try.prog 57 #[.agg #[.int .i64 k', .int .i64 n', .float .f64 f', .string s']] w fun e w' => e = .returned (.bool true) ∧ Below w.heap.size w w') (h3 : (k == 3) = false) (h4 : (k' == 3) = false) (g1 : Nat) (hG : G1 = .func (.func g1) #[] #[]) (HG : ∀ (x y : Int) (w : World), (callFunc g1 #[.int .i64 x, .int .i64 y]).run Try.prog w = .ok (.enter g1 #[.int .i64 x, .int .i64 y]) w) (CI : ∀ w, Calls Try.prog g1 #[.int .i64 n, .int .i64 n'] w (BadInt w)) (w : World) :
    Calls Try.prog 51 #[.string op, .agg #[.int .i64 k, .int .i64 n, .float .f64 f, .string s], .agg #[.int .i64 k', .int .i64 n', .float .f64 f', .string s']] w fun e w' => e = .returned (.tuple #[.agg #[.int .i64 0, .int .i64 0, .float .f64 0, .string ⟨#[]⟩], .int .i64 7]) ∧ Below w.heap.size w w' := by
  subst hG
  have hsf := run_store_float
  have HL := H.at w
  have HS1 := H.store1
  have HS2 := H.store2
  clear H
  go_enter Try.func51, Try.ntmps51
  go_wp2_with fail
  refine (opers_any _).mono ?_; rintro e w' ⟨rfl, rfl⟩
  go_wp2_with fail
  refine (C1 _).mono ?_; rintro e w1 ⟨rfl, hb1⟩
  have ch1 := hb1
  obtain ⟨hc1, hf1⟩ := bcell ch1
  have hz1 : w.heap.size + 1 + 1 + 1 + 1 < w1.heap.size := by have := ch1.size; simp only [size5] at this; omega
  go_wp2_with fail
  refine (C2 _).mono ?_; rintro e w2 ⟨rfl, hb2⟩
  have ch2 := Below.chain ch1 hb2
  obtain ⟨hc2, hf2⟩ := bcell ch2
  have hz2 : w.heap.size + 1 + 1 + 1 + 1 < w2.heap.size := by have := ch2.size; simp only [size5] at this; omega
  go_wp2_with fail
  refine (C3 _).mono ?_; rintro e w3 ⟨rfl, hb3⟩
  have ch3 := Below.chain ch2 hb3
  obtain ⟨hc3, hf3⟩ := bcell ch3
  have hz3 : w.heap.size + 1 + 1 + 1 + 1 < w3.heap.size := by have := ch3.size; simp only [size5] at this; omega
  go_wp2_with fail
  refine (C4 _).mono ?_; rintro e w4 ⟨rfl, hb4⟩
  have ch4 := Below.chain ch3 hb4
  obtain ⟨hc4, hf4⟩ := bcell ch4
  have hz4 : w.heap.size + 1 + 1 + 1 + 1 < w4.heap.size := by have := ch4.size; simp only [size5] at this; omega
  go_wp2_with fail
  refine (CI _).mono ?_; rintro e w' ⟨N, rfl, rfl⟩
  go_wp2_with fail
  exact ret_ve rfl rfl rfl rfl (((null5 _ _ _ _ _ _ _ _ _).below ch4).set _ _ _ _) ⟨rfl, below_set4 (Below.chain (below_a5 _ _ _ _ _ _) ch4) (by omega) _ _ _ _⟩
set_option maxRecDepth 100000 in
theorem reck_ii (op : ByteArray) (G1 G2 : Value) (H : LooksO op G1 G2 true) (k n k' n' : Int) (f f' : Nat) (s s' : ByteArray) (C1 : ∀ w, Calls Try.prog 29 #[.agg #[.int .i64 k, .int .i64 n, .float .f64 f, .string s]] w fun e w' => e = .returned (.bool true) ∧ Below w.heap.size w w') (C2 : ∀ w, Calls Try.prog 29 #[.agg #[.int .i64 k', .int .i64 n', .float .f64 f', .string s']] w fun e w' => e = .returned (.bool true) ∧ Below w.heap.size w w') (h0 : (k == 0) = false) (h1 : (k' == 0) = false) (C3 : ∀ w, Calls Try.prog 57 #[.agg #[.int .i64 k, .int .i64 n, .float .f64 f, .string s]] w fun e w' => e = .returned (.bool true) ∧ Below w.heap.size w w') (C4 : ∀ w, Calls Try.prog 57 #[.agg #[.int .i64 k', .int .i64 n', .float .f64 f', .string s']] w fun e w' => e = .returned (.bool true) ∧ Below w.heap.size w w') (h3 : (k == 3) = false) (h4 : (k' == 3) = false) (g1 : Nat) (hG : G1 = .func (.func g1) #[] #[]) (HG : ∀ (x y : Int) (w : World), (callFunc g1 #[.int .i64 x, .int .i64 y]).run Try.prog w = .ok (.enter g1 #[.int .i64 x, .int .i64 y]) w) (N : Int) (CI : ∀ w, Calls Try.prog g1 #[.int .i64 n, .int .i64 n'] w fun e w' => e = .returned (.tuple #[.int .i64 N, .bool true]) ∧ w = w') (w : World) :
    Calls Try.prog 51 #[.string op, .agg #[.int .i64 k, .int .i64 n, .float .f64 f, .string s], .agg #[.int .i64 k', .int .i64 n', .float .f64 f', .string s']] w fun e w' => e = .returned (.tuple #[.agg #[.int .i64 2, .int .i64 N, .float .f64 0, .string ⟨#[]⟩], .int .i64 0]) ∧ Below w.heap.size w w' := by
  subst hG
  have hsf := run_store_float
  have HL := H.at w
  have HS1 := H.store1
  have HS2 := H.store2
  clear H
  go_enter Try.func51, Try.ntmps51
  go_wp2_with fail
  refine (opers_any _).mono ?_; rintro e w' ⟨rfl, rfl⟩
  go_wp2_with fail
  refine (C1 _).mono ?_; rintro e w1 ⟨rfl, hb1⟩
  have ch1 := hb1
  obtain ⟨hc1, hf1⟩ := bcell ch1
  have hz1 : w.heap.size + 1 + 1 + 1 + 1 < w1.heap.size := by have := ch1.size; simp only [size5] at this; omega
  go_wp2_with fail
  refine (C2 _).mono ?_; rintro e w2 ⟨rfl, hb2⟩
  have ch2 := Below.chain ch1 hb2
  obtain ⟨hc2, hf2⟩ := bcell ch2
  have hz2 : w.heap.size + 1 + 1 + 1 + 1 < w2.heap.size := by have := ch2.size; simp only [size5] at this; omega
  go_wp2_with fail
  refine (C3 _).mono ?_; rintro e w3 ⟨rfl, hb3⟩
  have ch3 := Below.chain ch2 hb3
  obtain ⟨hc3, hf3⟩ := bcell ch3
  have hz3 : w.heap.size + 1 + 1 + 1 + 1 < w3.heap.size := by have := ch3.size; simp only [size5] at this; omega
  go_wp2_with fail
  refine (C4 _).mono ?_; rintro e w4 ⟨rfl, hb4⟩
  have ch4 := Below.chain ch3 hb4
  obtain ⟨hc4, hf4⟩ := bcell ch4
  have hz4 : w.heap.size + 1 + 1 + 1 + 1 < w4.heap.size := by have := ch4.size; simp only [size5] at this; omega
  go_wp2_with fail
  refine (CI _).mono ?_; rintro e w' ⟨rfl, rfl⟩
  go_wp2_with fail
  refine (whole_any N _).mono ?_; rintro e w5 ⟨rfl, hb5⟩
  have ch5 := Below.chain ch4 hb5
  obtain ⟨hc5, hf5⟩ := bcell ch5
  go_wp2_with fail
  exact ret_ve rfl rfl rfl rfl (((null5 _ _ _ _ _ _ _ _ _).below ch5).set _ _ _ _) ⟨rfl, below_set4 (Below.chain (below_a5 _ _ _ _ _ _) ch5) (by omega) _ _ _ _⟩
theorem keptF {w0 w1 : World} {a b c r : Nat} {F a0 a1 a2 a3 b0 b1 b2 b3 r0 r1 r2 r3 : Value} (h : w0.cell? ⟨c, 1, none⟩ = some F ∧ w0.cell? ⟨a, 0, none⟩ = some a0 ∧ w0.cell? ⟨a, 1, none⟩ = some a1 ∧ w0.cell? ⟨a, 2, none⟩ = some a2 ∧ w0.cell? ⟨a, 3, none⟩ = some a3 ∧ w0.cell? ⟨b, 0, none⟩ = some b0 ∧ w0.cell? ⟨b, 1, none⟩ = some b1 ∧ w0.cell? ⟨b, 2, none⟩ = some b2 ∧ w0.cell? ⟨b, 3, none⟩ = some b3 ∧ w0.cell? ⟨r, 0, none⟩ = some r0 ∧ w0.cell? ⟨r, 1, none⟩ = some r1 ∧ w0.cell? ⟨r, 2, none⟩ = some r2 ∧ w0.cell? ⟨r, 3, none⟩ = some r3 ∧ w0.frozen? ⟨r, 0, none⟩ = false ∧ w0.frozen? ⟨r, 1, none⟩ = false ∧ w0.frozen? ⟨r, 2, none⟩ = false ∧ w0.frozen? ⟨r, 3, none⟩ = false) (hb : Below w0.heap.size w0 w1) : w1.cell? ⟨c, 1, none⟩ = some F ∧ w1.cell? ⟨a, 0, none⟩ = some a0 ∧ w1.cell? ⟨a, 1, none⟩ = some a1 ∧ w1.cell? ⟨a, 2, none⟩ = some a2 ∧ w1.cell? ⟨a, 3, none⟩ = some a3 ∧ w1.cell? ⟨b, 0, none⟩ = some b0 ∧ w1.cell? ⟨b, 1, none⟩ = some b1 ∧ w1.cell? ⟨b, 2, none⟩ = some b2 ∧ w1.cell? ⟨b, 3, none⟩ = some b3 ∧ w1.cell? ⟨r, 0, none⟩ = some r0 ∧ w1.cell? ⟨r, 1, none⟩ = some r1 ∧ w1.cell? ⟨r, 2, none⟩ = some r2 ∧ w1.cell? ⟨r, 3, none⟩ = some r3 ∧ w1.frozen? ⟨r, 0, none⟩ = false ∧ w1.frozen? ⟨r, 1, none⟩ = false ∧ w1.frozen? ⟨r, 2, none⟩ = false ∧ w1.frozen? ⟨r, 3, none⟩ = false := by
  obtain ⟨h1, h2, h3, h4, h5, h6, h7, h8, h9, h10, h11, h12, h13, f0, f1, f2, f3⟩ := h
  have hr := block_lt_of_cell h10
  exact ⟨later_cell h1 ⟨w1, hb⟩, later_cell h2 ⟨w1, hb⟩, later_cell h3 ⟨w1, hb⟩, later_cell h4 ⟨w1, hb⟩, later_cell h5 ⟨w1, hb⟩, later_cell h6 ⟨w1, hb⟩, later_cell h7 ⟨w1, hb⟩, later_cell h8 ⟨w1, hb⟩, later_cell h9 ⟨w1, hb⟩, later_cell h10 ⟨w1, hb⟩, later_cell h11 ⟨w1, hb⟩, later_cell h12 ⟨w1, hb⟩, later_cell h13 ⟨w1, hb⟩,
    (hb.frozen (p := ⟨r, 0, none⟩) hr).trans f0, (hb.frozen (p := ⟨r, 1, none⟩) hr).trans f1, (hb.frozen (p := ⟨r, 2, none⟩) hr).trans f2, (hb.frozen (p := ⟨r, 3, none⟩) hr).trans f3⟩
theorem keptF9 {w0 w1 : World} {a b c : Nat} {F a0 a1 a2 a3 b0 b1 b2 b3 : Value} (h : w0.cell? ⟨c, 1, none⟩ = some F ∧ w0.cell? ⟨a, 0, none⟩ = some a0 ∧ w0.cell? ⟨a, 1, none⟩ = some a1 ∧ w0.cell? ⟨a, 2, none⟩ = some a2 ∧ w0.cell? ⟨a, 3, none⟩ = some a3 ∧ w0.cell? ⟨b, 0, none⟩ = some b0 ∧ w0.cell? ⟨b, 1, none⟩ = some b1 ∧ w0.cell? ⟨b, 2, none⟩ = some b2 ∧ w0.cell? ⟨b, 3, none⟩ = some b3) (hb : Below w0.heap.size w0 w1) : w1.cell? ⟨c, 1, none⟩ = some F ∧ w1.cell? ⟨a, 0, none⟩ = some a0 ∧ w1.cell? ⟨a, 1, none⟩ = some a1 ∧ w1.cell? ⟨a, 2, none⟩ = some a2 ∧ w1.cell? ⟨a, 3, none⟩ = some a3 ∧ w1.cell? ⟨b, 0, none⟩ = some b0 ∧ w1.cell? ⟨b, 1, none⟩ = some b1 ∧ w1.cell? ⟨b, 2, none⟩ = some b2 ∧ w1.cell? ⟨b, 3, none⟩ = some b3 := by
  obtain ⟨h1, h2, h3, h4, h5, h6, h7, h8, h9⟩ := h
  exact ⟨later_cell h1 ⟨w1, hb⟩, later_cell h2 ⟨w1, hb⟩, later_cell h3 ⟨w1, hb⟩, later_cell h4 ⟨w1, hb⟩, later_cell h5 ⟨w1, hb⟩, later_cell h6 ⟨w1, hb⟩, later_cell h7 ⟨w1, hb⟩, later_cell h8 ⟨w1, hb⟩, later_cell h9 ⟨w1, hb⟩⟩
theorem keptF9s {w0 : World} {a b c r : Nat} {F a0 a1 a2 a3 b0 b1 b2 b3 v0 v1 v2 v3 : Value} (h : w0.cell? ⟨c, 1, none⟩ = some F ∧ w0.cell? ⟨a, 0, none⟩ = some a0 ∧ w0.cell? ⟨a, 1, none⟩ = some a1 ∧ w0.cell? ⟨a, 2, none⟩ = some a2 ∧ w0.cell? ⟨a, 3, none⟩ = some a3 ∧ w0.cell? ⟨b, 0, none⟩ = some b0 ∧ w0.cell? ⟨b, 1, none⟩ = some b1 ∧ w0.cell? ⟨b, 2, none⟩ = some b2 ∧ w0.cell? ⟨b, 3, none⟩ = some b3) (ha : r ≠ a) (hb : r ≠ b) (hc : r ≠ c) : ((((w0.setCell ⟨r, 0, none⟩ v0).setCell ⟨r, 1, none⟩ v1).setCell ⟨r, 2, none⟩ v2).setCell ⟨r, 3, none⟩ v3).cell? ⟨c, 1, none⟩ = some F ∧ ((((w0.setCell ⟨r, 0, none⟩ v0).setCell ⟨r, 1, none⟩ v1).setCell ⟨r, 2, none⟩ v2).setCell ⟨r, 3, none⟩ v3).cell? ⟨a, 0, none⟩ = some a0 ∧ ((((w0.setCell ⟨r, 0, none⟩ v0).setCell ⟨r, 1, none⟩ v1).setCell ⟨r, 2, none⟩ v2).setCell ⟨r, 3, none⟩ v3).cell? ⟨a, 1, none⟩ = some a1 ∧ ((((w0.setCell ⟨r, 0, none⟩ v0).setCell ⟨r, 1, none⟩ v1).setCell ⟨r, 2, none⟩ v2).setCell ⟨r, 3, none⟩ v3).cell? ⟨a, 2, none⟩ = some a2 ∧ ((((w0.setCell ⟨r, 0, none⟩ v0).setCell ⟨r, 1, none⟩ v1).setCell ⟨r, 2, none⟩ v2).setCell ⟨r, 3, none⟩ v3).cell? ⟨a, 3, none⟩ = some a3 ∧ ((((w0.setCell ⟨r, 0, none⟩ v0).setCell ⟨r, 1, none⟩ v1).setCell ⟨r, 2, none⟩ v2).setCell ⟨r, 3, none⟩ v3).cell? ⟨b, 0, none⟩ = some b0 ∧ ((((w0.setCell ⟨r, 0, none⟩ v0).setCell ⟨r, 1, none⟩ v1).setCell ⟨r, 2, none⟩ v2).setCell ⟨r, 3, none⟩ v3).cell? ⟨b, 1, none⟩ = some b1 ∧ ((((w0.setCell ⟨r, 0, none⟩ v0).setCell ⟨r, 1, none⟩ v1).setCell ⟨r, 2, none⟩ v2).setCell ⟨r, 3, none⟩ v3).cell? ⟨b, 2, none⟩ = some b2 ∧ ((((w0.setCell ⟨r, 0, none⟩ v0).setCell ⟨r, 1, none⟩ v1).setCell ⟨r, 2, none⟩ v2).setCell ⟨r, 3, none⟩ v3).cell? ⟨b, 3, none⟩ = some b3 := by
  obtain ⟨h1, h2, h3, h4, h5, h6, h7, h8, h9⟩ := h
  exact ⟨setfar hc h1, setfar ha h2, setfar ha h3, setfar ha h4, setfar ha h5, setfar hb h6, setfar hb h7, setfar hb h8, setfar hb h9⟩
set_option maxRecDepth 100000 in
set_option maxHeartbeats 1000000 in
theorem reck_fa (op : ByteArray) (G1 G2 : Value) (H : LooksO op G1 G2 true) (k n k' n' : Int) (f f' : Nat) (s s' : ByteArray) (C1 : ∀ w, Calls Try.prog 29 #[.agg #[.int .i64 k, .int .i64 n, .float .f64 f, .string s]] w fun e w' => e = .returned (.bool true) ∧ Below w.heap.size w w') (C2 : ∀ w, Calls Try.prog 29 #[.agg #[.int .i64 k', .int .i64 n', .float .f64 f', .string s']] w fun e w' => e = .returned (.bool true) ∧ Below w.heap.size w w') (h0 : (k == 0) = false) (h1 : (k' == 0) = false) (C3 : ∀ w, Calls Try.prog 57 #[.agg #[.int .i64 k, .int .i64 n, .float .f64 f, .string s]] w fun e w' => e = .returned (.bool true) ∧ Below w.heap.size w w') (C4 : ∀ w, Calls Try.prog 57 #[.agg #[.int .i64 k', .int .i64 n', .float .f64 f', .string s']] w fun e w' => e = .returned (.bool true) ∧ Below w.heap.size w w') (h3 : (k == 3) = true) (g2 : Nat) (hG : G2 = .func (.func g2) #[] #[]) (HG : ∀ (x y : Nat) (w : World), (callFunc g2 #[.float .f64 x, .float .f64 y]).run Try.prog w = .ok (.enter g2 #[.float .f64 x, .float .f64 y]) w) (c x y : Nat) (hx : asF k n f = x) (hy : asF k' n' f' = y) (CF : ∀ w, Calls Try.prog g2 #[.float .f64 x, .float .f64 y] w (FloatRet c w)) (w : World) :
    Calls Try.prog 51 #[.string op, .agg #[.int .i64 k, .int .i64 n, .float .f64 f, .string s], .agg #[.int .i64 k', .int .i64 n', .float .f64 f', .string s']] w fun e w' => e = .returned (.tuple #[.agg #[.int .i64 3, .int .i64 0, .float .f64 c, .string ⟨#[]⟩], .int .i64 0]) ∧ Below w.heap.size w w' := by
  subst hG
  have C5 := asf_any k n f s
  have C6 := asf_any k' n' f' s'
  rw [hx] at C5
  rw [hy] at C6
  clear hx hy
  have hsf := run_store_float
  have HL := H.at w
  have HS1 := H.store1
  have HS2 := H.store2
  clear H
  go_enter Try.func51, Try.ntmps51
  go_wp2_with fail
  refine (opers_any _).mono ?_; rintro e w' ⟨rfl, rfl⟩
  go_wp2_with fail
  refine (C1 _).mono ?_; rintro e w1 ⟨rfl, hb1⟩
  have ch1 := hb1
  obtain ⟨hc1, hf1⟩ := bcell ch1
  have hz1 : w.heap.size + 1 + 1 + 1 + 1 < w1.heap.size := by have := ch1.size; simp only [size5] at this; omega
  go_wp2_with fail
  refine (C2 _).mono ?_; rintro e w2 ⟨rfl, hb2⟩
  have ch2 := Below.chain ch1 hb2
  obtain ⟨hc2, hf2⟩ := bcell ch2
  have hz2 : w.heap.size + 1 + 1 + 1 + 1 < w2.heap.size := by have := ch2.size; simp only [size5] at this; omega
  go_wp2_with fail
  refine (C3 _).mono ?_; rintro e w3 ⟨rfl, hb3⟩
  have ch3 := Below.chain ch2 hb3
  obtain ⟨hc3, hf3⟩ := bcell ch3
  have hz3 : w.heap.size + 1 + 1 + 1 + 1 < w3.heap.size := by have := ch3.size; simp only [size5] at this; omega
  go_wp2_with fail
  refine (C4 _).mono ?_; rintro e w4 ⟨rfl, hb4⟩
  have ch4 := Below.chain ch3 hb4
  obtain ⟨hc4, hf4⟩ := bcell ch4
  have hz4 : w.heap.size + 1 + 1 + 1 + 1 < w4.heap.size := by have := ch4.size; simp only [size5] at this; omega
  go_wp2_with fail
  have hS : w4.cell? ⟨w.heap.size + 1 + 1 + 1 + 1, 1, none⟩ = some (.func (.func g2) #[] #[]) ∧ w4.cell? ⟨w.heap.size, 0, none⟩ = some (.int .i64 k) ∧ w4.cell? ⟨w.heap.size, 1, none⟩ = some (.int .i64 n) ∧ w4.cell? ⟨w.heap.size, 2, none⟩ = some (.float .f64 f) ∧ w4.cell? ⟨w.heap.size, 3, none⟩ = some (.string s) ∧ w4.cell? ⟨w.heap.size + 1, 0, none⟩ = some (.int .i64 k') ∧ w4.cell? ⟨w.heap.size + 1, 1, none⟩ = some (.int .i64 n') ∧ w4.cell? ⟨w.heap.size + 1, 2, none⟩ = some (.float .f64 f') ∧ w4.cell? ⟨w.heap.size + 1, 3, none⟩ = some (.string s') ∧ w4.cell? ⟨w.heap.size + 1 + 1, 0, none⟩ = some (.int .i64 0) ∧ w4.cell? ⟨w.heap.size + 1 + 1, 1, none⟩ = some (.int .i64 0) ∧ w4.cell? ⟨w.heap.size + 1 + 1, 2, none⟩ = some (.float .f64 0) ∧ w4.cell? ⟨w.heap.size + 1 + 1, 3, none⟩ = some (.string ⟨#[]⟩) ∧ w4.frozen? ⟨w.heap.size + 1 + 1, 0, none⟩ = false ∧ w4.frozen? ⟨w.heap.size + 1 + 1, 1, none⟩ = false ∧ w4.frozen? ⟨w.heap.size + 1 + 1, 2, none⟩ = false ∧ w4.frozen? ⟨w.heap.size + 1 + 1, 3, none⟩ = false := by
    refine ⟨?_, ?_, ?_, ?_, ?_, ?_, ?_, ?_, ?_, ?_, ?_, ?_, ?_, ?_, ?_, ?_, ?_⟩ <;> go_simp
  have hN : w4.cell? ⟨w.heap.size + 1 + 1 + 1 + 1, 1, none⟩ = some (.func (.func g2) #[] #[]) ∧ w4.cell? ⟨w.heap.size, 0, none⟩ = some (.int .i64 k) ∧ w4.cell? ⟨w.heap.size, 1, none⟩ = some (.int .i64 n) ∧ w4.cell? ⟨w.heap.size, 2, none⟩ = some (.float .f64 f) ∧ w4.cell? ⟨w.heap.size, 3, none⟩ = some (.string s) ∧ w4.cell? ⟨w.heap.size + 1, 0, none⟩ = some (.int .i64 k') ∧ w4.cell? ⟨w.heap.size + 1, 1, none⟩ = some (.int .i64 n') ∧ w4.cell? ⟨w.heap.size + 1, 2, none⟩ = some (.float .f64 f') ∧ w4.cell? ⟨w.heap.size + 1, 3, none⟩ = some (.string s') := ⟨hS.1, hS.2.1, hS.2.2.1, hS.2.2.2.1, hS.2.2.2.2.1, hS.2.2.2.2.2.1, hS.2.2.2.2.2.2.1, hS.2.2.2.2.2.2.2.1, hS.2.2.2.2.2.2.2.2.1⟩
  have HS' := Lib.hid hS
  have HN := Lib.hid hN
  clear hc1 hf1 hc2 hf2 hS hN hc3 hf3 hc4 hf4
  go_region_held3 (fun W => W.cell? ⟨w.heap.size + 1 + 1 + 1 + 1, 1, none⟩ = some (.func (.func g2) #[] #[]) ∧ W.cell? ⟨w.heap.size, 0, none⟩ = some (.int .i64 k) ∧ W.cell? ⟨w.heap.size, 1, none⟩ = some (.int .i64 n) ∧ W.cell? ⟨w.heap.size, 2, none⟩ = some (.float .f64 f) ∧ W.cell? ⟨w.heap.size, 3, none⟩ = some (.string s) ∧ W.cell? ⟨w.heap.size + 1, 0, none⟩ = some (.int .i64 k') ∧ W.cell? ⟨w.heap.size + 1, 1, none⟩ = some (.int .i64 n') ∧ W.cell? ⟨w.heap.size + 1, 2, none⟩ = some (.float .f64 f') ∧ W.cell? ⟨w.heap.size + 1, 3, none⟩ = some (.string s')) (first | exact keptF9 HN.out (Below.refl _ _).drew | exact keptF9 HN.out hq1 | exact keptF9 HN.out hq2 | exact keptF9 HN.out hq3 | exact keptF9 HN.out hch | exact keptF9s (keptF9 HN.out hch) (by omega) (by omega) (by omega))
    (first | ((with_reducible refine (C6 _).mono ?_); rintro e wb ⟨rfl, hbb⟩; have hq2 := Below.chain hq1 hbb) | ((with_reducible refine (C5 _).mono ?_); rintro e wa ⟨rfl, hba⟩; have hq1 := Below.chain (Below.refl _ _).drew hba) | ((with_reducible refine (CF _).mono ?_); rintro e wc ⟨r, rfl, hr, hl, hbc⟩; have hq3 := Below.chain hq2 hbc; have C7 := vfloat_any r hl; rw [hr] at C7; clear hr hl) | ((with_reducible refine (C7 _).mono ?_); rintro e wt ⟨rfl, hbt⟩; have hch := Below.chain hq3 hbt; have hR := (keptF HS'.out hch).2.2.2.2.2.2.2.2.2; obtain ⟨r0, r1, r2, r3, f0, f1, f2, f3⟩ := hR))
  all_goals
    go_wp2_with fail
    exact ret_ve rfl rfl rfl rfl (Lies.set ⟨r0, r1, r2, r3⟩ _ _ _ _) ⟨rfl, below_set4 (Below.chain (Below.chain (below_a5 _ _ _ _ _ _) ch4) hch) (by omega) _ _ _ _⟩
set_option maxRecDepth 100000 in
set_option maxHeartbeats 1000000 in
theorem reck_fb (op : ByteArray) (G1 G2 : Value) (H : LooksO op G1 G2 true) (k n k' n' : Int) (f f' : Nat) (s s' : ByteArray) (C1 : ∀ w, Calls Try.prog 29 #[.agg #[.int .i64 k, .int .i64 n, .float .f64 f, .string s]] w fun e w' => e = .returned (.bool true) ∧ Below w.heap.size w w') (C2 : ∀ w, Calls Try.prog 29 #[.agg #[.int .i64 k', .int .i64 n', .float .f64 f', .string s']] w fun e w' => e = .returned (.bool true) ∧ Below w.heap.size w w') (h0 : (k == 0) = false) (h1 : (k' == 0) = false) (C3 : ∀ w, Calls Try.prog 57 #[.agg #[.int .i64 k, .int .i64 n, .float .f64 f, .string s]] w fun e w' => e = .returned (.bool true) ∧ Below w.heap.size w w') (C4 : ∀ w, Calls Try.prog 57 #[.agg #[.int .i64 k', .int .i64 n', .float .f64 f', .string s']] w fun e w' => e = .returned (.bool true) ∧ Below w.heap.size w w') (h3 : (k == 3) = false) (h4 : (k' == 3) = true) (g2 : Nat) (hG : G2 = .func (.func g2) #[] #[]) (HG : ∀ (x y : Nat) (w : World), (callFunc g2 #[.float .f64 x, .float .f64 y]).run Try.prog w = .ok (.enter g2 #[.float .f64 x, .float .f64 y]) w) (c x y : Nat) (hx : asF k n f = x) (hy : asF k' n' f' = y) (CF : ∀ w, Calls Try.prog g2 #[.float .f64 x, .float .f64 y] w (FloatRet c w)) (w : World) :
    Calls Try.prog 51 #[.string op, .agg #[.int .i64 k, .int .i64 n, .float .f64 f, .string s], .agg #[.int .i64 k', .int .i64 n', .float .f64 f', .string s']] w fun e w' => e = .returned (.tuple #[.agg #[.int .i64 3, .int .i64 0, .float .f64 c, .string ⟨#[]⟩], .int .i64 0]) ∧ Below w.heap.size w w' := by
  subst hG
  have C5 := asf_any k n f s
  have C6 := asf_any k' n' f' s'
  rw [hx] at C5
  rw [hy] at C6
  clear hx hy
  have hsf := run_store_float
  have HL := H.at w
  have HS1 := H.store1
  have HS2 := H.store2
  clear H
  go_enter Try.func51, Try.ntmps51
  go_wp2_with fail
  refine (opers_any _).mono ?_; rintro e w' ⟨rfl, rfl⟩
  go_wp2_with fail
  refine (C1 _).mono ?_; rintro e w1 ⟨rfl, hb1⟩
  have ch1 := hb1
  obtain ⟨hc1, hf1⟩ := bcell ch1
  have hz1 : w.heap.size + 1 + 1 + 1 + 1 < w1.heap.size := by have := ch1.size; simp only [size5] at this; omega
  go_wp2_with fail
  refine (C2 _).mono ?_; rintro e w2 ⟨rfl, hb2⟩
  have ch2 := Below.chain ch1 hb2
  obtain ⟨hc2, hf2⟩ := bcell ch2
  have hz2 : w.heap.size + 1 + 1 + 1 + 1 < w2.heap.size := by have := ch2.size; simp only [size5] at this; omega
  go_wp2_with fail
  refine (C3 _).mono ?_; rintro e w3 ⟨rfl, hb3⟩
  have ch3 := Below.chain ch2 hb3
  obtain ⟨hc3, hf3⟩ := bcell ch3
  have hz3 : w.heap.size + 1 + 1 + 1 + 1 < w3.heap.size := by have := ch3.size; simp only [size5] at this; omega
  go_wp2_with fail
  refine (C4 _).mono ?_; rintro e w4 ⟨rfl, hb4⟩
  have ch4 := Below.chain ch3 hb4
  obtain ⟨hc4, hf4⟩ := bcell ch4
  have hz4 : w.heap.size + 1 + 1 + 1 + 1 < w4.heap.size := by have := ch4.size; simp only [size5] at this; omega
  go_wp2_with fail
  have hS : w4.cell? ⟨w.heap.size + 1 + 1 + 1 + 1, 1, none⟩ = some (.func (.func g2) #[] #[]) ∧ w4.cell? ⟨w.heap.size, 0, none⟩ = some (.int .i64 k) ∧ w4.cell? ⟨w.heap.size, 1, none⟩ = some (.int .i64 n) ∧ w4.cell? ⟨w.heap.size, 2, none⟩ = some (.float .f64 f) ∧ w4.cell? ⟨w.heap.size, 3, none⟩ = some (.string s) ∧ w4.cell? ⟨w.heap.size + 1, 0, none⟩ = some (.int .i64 k') ∧ w4.cell? ⟨w.heap.size + 1, 1, none⟩ = some (.int .i64 n') ∧ w4.cell? ⟨w.heap.size + 1, 2, none⟩ = some (.float .f64 f') ∧ w4.cell? ⟨w.heap.size + 1, 3, none⟩ = some (.string s') ∧ w4.cell? ⟨w.heap.size + 1 + 1, 0, none⟩ = some (.int .i64 0) ∧ w4.cell? ⟨w.heap.size + 1 + 1, 1, none⟩ = some (.int .i64 0) ∧ w4.cell? ⟨w.heap.size + 1 + 1, 2, none⟩ = some (.float .f64 0) ∧ w4.cell? ⟨w.heap.size + 1 + 1, 3, none⟩ = some (.string ⟨#[]⟩) ∧ w4.frozen? ⟨w.heap.size + 1 + 1, 0, none⟩ = false ∧ w4.frozen? ⟨w.heap.size + 1 + 1, 1, none⟩ = false ∧ w4.frozen? ⟨w.heap.size + 1 + 1, 2, none⟩ = false ∧ w4.frozen? ⟨w.heap.size + 1 + 1, 3, none⟩ = false := by
    refine ⟨?_, ?_, ?_, ?_, ?_, ?_, ?_, ?_, ?_, ?_, ?_, ?_, ?_, ?_, ?_, ?_, ?_⟩ <;> go_simp
  have hN : w4.cell? ⟨w.heap.size + 1 + 1 + 1 + 1, 1, none⟩ = some (.func (.func g2) #[] #[]) ∧ w4.cell? ⟨w.heap.size, 0, none⟩ = some (.int .i64 k) ∧ w4.cell? ⟨w.heap.size, 1, none⟩ = some (.int .i64 n) ∧ w4.cell? ⟨w.heap.size, 2, none⟩ = some (.float .f64 f) ∧ w4.cell? ⟨w.heap.size, 3, none⟩ = some (.string s) ∧ w4.cell? ⟨w.heap.size + 1, 0, none⟩ = some (.int .i64 k') ∧ w4.cell? ⟨w.heap.size + 1, 1, none⟩ = some (.int .i64 n') ∧ w4.cell? ⟨w.heap.size + 1, 2, none⟩ = some (.float .f64 f') ∧ w4.cell? ⟨w.heap.size + 1, 3, none⟩ = some (.string s') := ⟨hS.1, hS.2.1, hS.2.2.1, hS.2.2.2.1, hS.2.2.2.2.1, hS.2.2.2.2.2.1, hS.2.2.2.2.2.2.1, hS.2.2.2.2.2.2.2.1, hS.2.2.2.2.2.2.2.2.1⟩
  have HS' := Lib.hid hS
  have HN := Lib.hid hN
  clear hc1 hf1 hc2 hf2 hS hN hc3 hf3 hc4 hf4
  go_region_held3 (fun W => W.cell? ⟨w.heap.size + 1 + 1 + 1 + 1, 1, none⟩ = some (.func (.func g2) #[] #[]) ∧ W.cell? ⟨w.heap.size, 0, none⟩ = some (.int .i64 k) ∧ W.cell? ⟨w.heap.size, 1, none⟩ = some (.int .i64 n) ∧ W.cell? ⟨w.heap.size, 2, none⟩ = some (.float .f64 f) ∧ W.cell? ⟨w.heap.size, 3, none⟩ = some (.string s) ∧ W.cell? ⟨w.heap.size + 1, 0, none⟩ = some (.int .i64 k') ∧ W.cell? ⟨w.heap.size + 1, 1, none⟩ = some (.int .i64 n') ∧ W.cell? ⟨w.heap.size + 1, 2, none⟩ = some (.float .f64 f') ∧ W.cell? ⟨w.heap.size + 1, 3, none⟩ = some (.string s')) (first | exact keptF9 HN.out (Below.refl _ _).drew | exact keptF9 HN.out hq1 | exact keptF9 HN.out hq2 | exact keptF9 HN.out hq3 | exact keptF9 HN.out hch | exact keptF9s (keptF9 HN.out hch) (by omega) (by omega) (by omega))
    (first | ((with_reducible refine (C6 _).mono ?_); rintro e wb ⟨rfl, hbb⟩; have hq2 := Below.chain hq1 hbb) | ((with_reducible refine (C5 _).mono ?_); rintro e wa ⟨rfl, hba⟩; have hq1 := Below.chain (Below.refl _ _).drew hba) | ((with_reducible refine (CF _).mono ?_); rintro e wc ⟨r, rfl, hr, hl, hbc⟩; have hq3 := Below.chain hq2 hbc; have C7 := vfloat_any r hl; rw [hr] at C7; clear hr hl) | ((with_reducible refine (C7 _).mono ?_); rintro e wt ⟨rfl, hbt⟩; have hch := Below.chain hq3 hbt; have hR := (keptF HS'.out hch).2.2.2.2.2.2.2.2.2; obtain ⟨r0, r1, r2, r3, f0, f1, f2, f3⟩ := hR))
  all_goals
    go_wp2_with fail
    exact ret_ve rfl rfl rfl rfl (Lies.set ⟨r0, r1, r2, r3⟩ _ _ _ _) ⟨rfl, below_set4 (Below.chain (Below.chain (below_a5 _ _ _ _ _ _) ch4) hch) (by omega) _ _ _ _⟩
end Go.Proofs.Ytfhnjilflffdfaa

namespace Go.Proofs.Ytfhnjilflffdfaa
open Go Go.RowKit
set_option linter.unusedVariables false
/-- has it room in 64 bits -/
def roomB (v : Int) : Bool := decide (-9223372036854775808 ≤ v ∧ v ≤ 9223372036854775807)
/-- v, and whether it has room -/
def IntRet (v : Int) (w : World) (e : Ending) (w' : World) : Prop := ∃ N, e = .returned (.tuple #[.int .i64 N, .bool (roomB v)]) ∧ (roomB v = true → N = v) ∧ w = w'
theorem intRet_mk {v N : Int} {b : Bool} {w : World} (h1 : b = roomB v) (h2 : roomB v = true → N = v) : IntRet v w (.returned (.tuple #[.int .i64 N, .bool b])) w := ⟨N, by rw [h1], h2, rfl⟩
theorem addi_any (a b : Int) (a1 : -9223372036854775808 ≤ a) (a2 : a ≤ 9223372036854775807) (b1 : -9223372036854775808 ≤ b) (b2 : b ≤ 9223372036854775807) (w : World) :
    Calls Try.prog 64 #[.int .i64 a, .int .i64 b] w (IntRet (a + b) w) := by
  have c : Calls Try.prog 64 #[.int .i64 a, .int .i64 b] w fun e w' => e = .returned (.tuple #[.int .i64 (wrap64 (a + b)), .bool (decide (a < wrap64 (a + b)) == decide (0 < b))]) ∧ w = w' := by
    clear a1 a2 b1 b2
    go_enter Try.func64, Try.ntmps64
    go_wp2_with fail
    go_ret2
    exact ⟨rfl, rfl⟩
  refine c.mono ?_
  rintro e w' ⟨rfl, rfl⟩
  refine intRet_mk ?_ ?_
  · unfold roomB wrap64; rw [Bool.eq_iff_iff, beq_iff_eq, Bool.eq_iff_iff]; simp only [decide_eq_true_eq]; omega
  · unfold roomB wrap64; simp only [decide_eq_true_eq]; omega
theorem subi_any (a b : Int) (a1 : -9223372036854775808 ≤ a) (a2 : a ≤ 9223372036854775807) (b1 : -9223372036854775808 ≤ b) (b2 : b ≤ 9223372036854775807) (w : World) :
    Calls Try.prog 66 #[.int .i64 a, .int .i64 b] w (IntRet (a - b) w) := by
  have c : Calls Try.prog 66 #[.int .i64 a, .int .i64 b] w fun e w' => e = .returned (.tuple #[.int .i64 (wrap64 (a - b)), .bool (decide (wrap64 (a - b) < a) == decide (0 < b))]) ∧ w = w' := by
    clear a1 a2 b1 b2
    go_enter Try.func66, Try.ntmps66
    go_wp2_with fail
    go_ret2
    exact ⟨rfl, rfl⟩
  refine c.mono ?_
  rintro e w' ⟨rfl, rfl⟩
  refine intRet_mk ?_ ?_
  · unfold roomB wrap64; rw [Bool.eq_iff_iff, beq_iff_eq, Bool.eq_iff_iff]; simp only [decide_eq_true_eq]; omega
  · unfold roomB wrap64; simp only [decide_eq_true_eq]; omega
theorem u64w (x : Int) : IntKind.u64.wrap x = x % 18446744073709551616 := by simp [IntKind.wrap, IntKind.bits, IntKind.signed]
theorem size_any (a : Int) (h1 : -9223372036854775808 ≤ a) (h2 : a ≤ 9223372036854775807) (w : World) :
    Calls Try.prog 81 #[.int .i64 a] w fun e w' => e = .returned (.int .u64 (a.natAbs : Nat)) ∧ w = w' := by
  by_cases h : a < 0
  · go_enter Try.func81, Try.ntmps81
    go_wp2_with fail
    go_ret
    refine ⟨ret_int ?_, rfl⟩
    rw [u64w, u64w]
    omega
  · have h' : decide (a < 0) = false := by simpa using h
    go_enter Try.func81, Try.ntmps81
    go_wp2_with fail
    go_ret
    refine ⟨ret_int ?_, rfl⟩
    show a = _
    omega
theorem times_core (a b v : Int) (x y hi lo m : Nat) (p q : Bool) (hp : decide (a < 0) = p) (hq : decide (b < 0) = q) (hhi : Hid (hi = m / 18446744073709551616)) (hlo : Hid (lo = m % 18446744073709551616)) (hv : Hid (v = if p = q then (m : Int) else -(m : Int)))
    (S1 : ∀ w, Calls Try.prog 81 #[.int .i64 a] w fun e w' => e = .returned (.int .u64 (x : Int)) ∧ w = w') (S2 : ∀ w, Calls Try.prog 81 #[.int .i64 b] w fun e w' => e = .returned (.int .u64 (y : Int)) ∧ w = w')
    (M : ∀ w, Calls Try.prog 80 #[.int .u64 (x : Int), .int .u64 (y : Int)] w fun e w' => e = .returned (.tuple #[.int .u64 (hi : Int), .int .u64 (lo : Int)]) ∧ w = w') (h0 : Bool) (h0' : ((hi : Int) == 0) = h0) (w : World) :
    Calls Try.prog 68 #[.int .i64 a, .int .i64 b] w (IntRet v w) := by
  have hh : h0 = decide (hi = 0) := by rw [← h0', Bool.eq_iff_iff]; simp
  have HH := Lib.hid hh
  clear hh
  cases p <;> cases q <;> cases h0
  all_goals
    go_enter Try.func68, Try.ntmps68
    go_wp2_with (first | ((with_reducible refine (S1 _).mono ?_); rintro e w' ⟨rfl, rfl⟩) | ((with_reducible refine (S2 _).mono ?_); rintro e w' ⟨rfl, rfl⟩) | ((with_reducible refine (M _).mono ?_); rintro e w' ⟨rfl, rfl⟩))
    go_ret2
    have e1 := hhi.out
    have e2 := hlo.out
    have e3 := hv.out
    have e4 := HH.out
    simp at e3 e4
    refine intRet_mk ?_ ?_
    · unfold roomB; rw [Bool.eq_iff_iff]; simp; omega
    · unfold roomB wrap64; simp [u64w]; omega
theorem times_any (a b : Int) (a1 : -9223372036854775808 ≤ a) (a2 : a ≤ 9223372036854775807) (b1 : -9223372036854775808 ≤ b) (b2 : b ≤ 9223372036854775807) (w : World) :
    Calls Try.prog 68 #[.int .i64 a, .int .i64 b] w (IntRet (a * b) w) := by
  have hm := fun W => Try.bits_Mul64 a.natAbs b.natAbs (by omega) (by omega) W
  refine times_core a b (a * b) a.natAbs b.natAbs _ _ (a.natAbs * b.natAbs) _ _ rfl rfl (Lib.hid rfl) (Lib.hid rfl) (Lib.hid ?_) (size_any a a1 a2) (size_any b b1 b2) (fun W => (hm W).mono fun _ _ ⟨x, y⟩ => ⟨x, y.symm⟩) _ rfl w
  by_cases ha : a < 0 <;> by_cases hb : b < 0
  · rw [if_pos (by simp [ha, hb])]
    obtain ⟨x, rfl⟩ : ∃ x : Nat, a = -(x : Int) := ⟨a.natAbs, by omega⟩
    obtain ⟨y, rfl⟩ : ∃ y : Nat, b = -(y : Int) := ⟨b.natAbs, by omega⟩
    simp [Int.neg_mul_neg]
  · rw [if_neg (by simp [ha]; omega)]
    obtain ⟨x, rfl⟩ : ∃ x : Nat, a = -(x : Int) := ⟨a.natAbs, by omega⟩
    obtain ⟨y, rfl⟩ : ∃ y : Nat, b = (y : Int) := ⟨b.natAbs, by omega⟩
    simp [Int.neg_mul]
  · rw [if_neg (by simp [hb]; omega)]
    obtain ⟨x, rfl⟩ : ∃ x : Nat, a = (x : Int) := ⟨a.natAbs, by omega⟩
    obtain ⟨y, rfl⟩ : ∃ y : Nat, b = -(y : Int) := ⟨b.natAbs, by omega⟩
    simp [Int.mul_neg]
  · rw [if_pos (by simp [ha, hb])]
    obtain ⟨x, rfl⟩ : ∃ x : Nat, a = (x : Int) := ⟨a.natAbs, by omega⟩
    obtain ⟨y, rfl⟩ : ∃ y : Nat, b = (y : Int) := ⟨b.natAbs, by omega⟩
    simp
/-- what two floats come to, all nans being one -/
def arC (op : BinOp) (x y : Nat) : Nat := match floatBits op .f64 x y with | some r => Flt.canon r | none => 9221120237041090561
theorem run_float_none (op : BinOp) (t : TypeId) (x y : Nat) (ho : op = .add ∨ op = .sub ∨ op = .mul) (h : floatBits op .f64 x y = none) (w : World) :
    ∃ r, (Flt.isNan r = true ∧ r < 18446744073709551616) ∧ (binOp op t (.float .f64 x) (.float .f64 y)).run Try.prog w = .ok (.float .f64 r) w.drew := by
  refine ⟨Question.cut (.nanBits .f64 x y) (w.tape w.drawn (.nanBits .f64 x y)), ?_, ?_⟩
  · generalize w.tape w.drawn (.nanBits .f64 x y) = t
    simp only [Question.cut]
    unfold Flt.isNan Flt.rung
    simp only [decide_eq_true_eq, Nat.reducePow, Nat.reduceSub]
    have hu : t % 2 < 2 := Nat.mod_lt _ (by decide)
    have hv : t / 2 % 4503599627370495 < 4503599627370495 := Nat.mod_lt _ (by decide)
    generalize t / 2 % 4503599627370495 = v at hv ⊢
    generalize t % 2 = u at hu ⊢
    have e : u = 0 ∨ u = 1 := by omega
    rcases e with rfl | rfl <;> omega
  · unfold floatBits at h
    rcases ho with rfl | rfl | rfl <;> simp only at h <;> simp [binOp, Op.floatArith, h, Question.forced]
theorem arith_any (op : BinOp) (g : Nat) (ho : op = .add ∨ op = .sub ∨ op = .mul) (x y : Nat)
    (H : ∀ (r : Nat) (w w' : World), (binOp op 22 (.float .f64 x) (.float .f64 y)).run Try.prog w = .ok (.float .f64 r) w' → Calls Try.prog g #[.float .f64 x, .float .f64 y] w fun e w'' => e = .returned (.float .f64 r) ∧ w' = w'') (w : World) :
    Calls Try.prog g #[.float .f64 x, .float .f64 y] w (FloatRet (arC op x y) w) := by
  unfold arC
  cases h : floatBits op .f64 x y with
  | some r =>
    refine (H r w w (run_float_arith (P := Try.prog) w op _ .f64 x y r h)).mono ?_
    rintro e w' ⟨rfl, rfl⟩
    have := floatBits_wf h
    exact ⟨r, rfl, rfl, by simpa [Lit.wf] using this, Below.refl _ _⟩
  | none =>
    obtain ⟨r, ⟨h1, h2⟩, h3⟩ := run_float_none op 22 x y ho h w
    refine (H r w w.drew h3).mono ?_
    rintro e w' ⟨rfl, rfl⟩
    exact ⟨r, rfl, Flt.canon_nan h1, h2, (Below.refl _ _).drew⟩
theorem addf_any (x y : Nat) (w : World) : Calls Try.prog 65 #[.float .f64 x, .float .f64 y] w (FloatRet (arC .add x y) w) := by
  refine arith_any .add _ (by simp) x y (fun r w w' h => ?_) w
  go_enter Try.func65, Try.ntmps65
  go_wp2_with fail
  go_ret
  exact ⟨rfl, rfl⟩
theorem subf_any (x y : Nat) (w : World) : Calls Try.prog 67 #[.float .f64 x, .float .f64 y] w (FloatRet (arC .sub x y) w) := by
  refine arith_any .sub _ (by simp) x y (fun r w w' h => ?_) w
  go_enter Try.func67, Try.ntmps67
  go_wp2_with fail
  go_ret
  exact ⟨rfl, rfl⟩
theorem mulf_any (x y : Nat) (w : World) : Calls Try.prog 69 #[.float .f64 x, .float .f64 y] w (FloatRet (arC .mul x y) w) := by
  refine arith_any .mul _ (by simp) x y (fun r w w' h => ?_) w
  go_enter Try.func69, Try.ntmps69
  go_wp2_with fail
  go_ret
  exact ⟨rfl, rfl⟩
end Go.Proofs.Ytfhnjilflffdfaa

namespace Go.Proofs.Ytfhnjilflffdfaa
open Go Go.RowKit
set_option linter.unusedVariables false
/-- which of the three signs; 0: none -/
def opO (s : ByteArray) : Nat := if s.toList = [43] then 1 else if s.toList = [45] then 2 else if s.toList = [42] then 3 else 0
def iop (i : Nat) (a b : Int) : Int := if i = 1 then a + b else if i = 2 then a - b else a * b
def fop (i : Nat) : BinOp := if i = 1 then .add else if i = 2 then .sub else .mul
/-- what Reckon tells: kind, number, float, error -/
def reckR (op : ByteArray) (k n : Int) (f : Nat) (s : ByteArray) (k' n' : Int) (f' : Nat) (s' : ByteArray) : Int × Int × Nat × Int :=
  if opO op = 0 ∨ rightB k n f s = false ∨ rightB k' n' f' s' = false then (0, 0, 0, 1) else if k = 0 ∨ k' = 0 then (0, 0, 0, 0) else if (numB k && numB k') = false then (0, 0, 0, 4)
  else if k = 3 ∨ k' = 3 then (3, 0, arC (fop (opO op)) (asF k n f) (asF k' n' f'), 0) else if roomB (iop (opO op) n n') = true then (2, iop (opO op) n n', 0, 0) else (0, 0, 0, 7)
structure SignO (op : ByteArray) (i g1 g2 : Nat) : Prop where
  ix : opO op = i
  look : LooksO op (.func (.func g1) #[] #[]) (.func (.func g2) #[] #[]) true
  call1 : ∀ (x y : Int) (w : World), (callFunc g1 #[.int .i64 x, .int .i64 y]).run Try.prog w = .ok (.enter g1 #[.int .i64 x, .int .i64 y]) w
  call2 : ∀ (x y : Nat) (w : World), (callFunc g2 #[.float .f64 x, .float .f64 y]).run Try.prog w = .ok (.enter g2 #[.float .f64 x, .float .f64 y]) w
  ints : ∀ (a b : Int), -9223372036854775808 ≤ a → a ≤ 9223372036854775807 → -9223372036854775808 ≤ b → b ≤ 9223372036854775807 → ∀ w : World, Calls Try.prog g1 #[.int .i64 a, .int .i64 b] w (IntRet (iop i a b) w)
  floats : ∀ (x y : Nat) (w : World), Calls Try.prog g2 #[.float .f64 x, .float .f64 y] w (FloatRet (arC (fop i) x y) w)
theorem signO1 : SignO ⟨#[43]⟩ 1 64 65 := ⟨by unfold opO; rw [Lib.toList_data]; rfl, ⟨⟨rfl, rfl⟩, fun b w h => look_o1 b w h⟩, fun x y w => by go_simp, fun x y w => by go_simp, fun a b a1 a2 b1 b2 w => addi_any a b a1 a2 b1 b2 w, addf_any⟩
theorem signO2 : SignO ⟨#[45]⟩ 2 66 67 := ⟨by unfold opO; rw [Lib.toList_data]; rfl, ⟨⟨rfl, rfl⟩, fun b w h => look_o2 b w h⟩, fun x y w => by go_simp, fun x y w => by go_simp, fun a b a1 a2 b1 b2 w => subi_any a b a1 a2 b1 b2 w, subf_any⟩
theorem signO3 : SignO ⟨#[42]⟩ 3 68 69 := ⟨by unfold opO; rw [Lib.toList_data]; rfl, ⟨⟨rfl, rfl⟩, fun b w h => look_o3 b w h⟩, fun x y w => by go_simp, fun x y w => by go_simp, fun a b a1 a2 b1 b2 w => times_any a b a1 a2 b1 b2 w, mulf_any⟩
theorem looksO0 {op : ByteArray} (h : opO op = 0) : LooksO op .nilFunc .nilFunc false := by
  have h1 : op.toList ≠ [43] := fun e => by simp [opO, e] at h
  have h2 : op.toList ≠ [45] := fun e => by simp [opO, e] at h
  have h3 : op.toList ≠ [42] := fun e => by simp [opO, e] at h
  exact ⟨⟨rfl, rfl⟩, fun b w h => look_o0 b w h op (ne_of h1) (ne_of h2) (ne_of h3)⟩
theorem signO_of (op : ByteArray) (h : opO op ≠ 0) : ∃ i g1 g2, SignO op i g1 g2 := by
  unfold opO at h
  by_cases h1 : op.toList = [43]
  · rw [str_of h1]; exact ⟨_, _, _, signO1⟩
  by_cases h2 : op.toList = [45]
  · rw [str_of h2]; exact ⟨_, _, _, signO2⟩
  by_cases h3 : op.toList = [42]
  · rw [str_of h3]; exact ⟨_, _, _, signO3⟩
  · rw [if_neg h1, if_neg h2, if_neg h3] at h
    exact absurd rfl h
theorem ret_vf' {k n k' n' e e' : Int} {g g' : Nat} (h : (k, n, g, e) = (k', n', g', e')) {w w' : World} {x : Ending} (hx : x = .returned (.tuple #[.agg #[.int .i64 k, .int .i64 n, .float .f64 g, .string ⟨#[]⟩], .int .i64 e]) ∧ Below w.heap.size w w') :
    x = .returned (.tuple #[.agg #[.int .i64 k', .int .i64 n', .float .f64 g', .string ⟨#[]⟩], .int .i64 e']) ∧ Below w.heap.size w w' := by
  simp only [Prod.mk.injEq] at h
  obtain ⟨rfl, rfl, rfl, rfl⟩ := h
  exact hx
theorem reck_any (op : ByteArray) (k n k' n' : Int) (f f' : Nat) (s s' : ByteArray) (n1 : -9223372036854775808 ≤ n) (n2 : n ≤ 9223372036854775807) (n1' : -9223372036854775808 ≤ n') (n2' : n' ≤ 9223372036854775807) (hf : f < 18446744073709551616) (hf' : f' < 18446744073709551616) (w : World) :
    Calls Try.prog 51 #[.string op, .agg #[.int .i64 k, .int .i64 n, .float .f64 f, .string s], .agg #[.int .i64 k', .int .i64 n', .float .f64 f', .string s']] w fun e w' => e = .returned (.tuple #[.agg #[.int .i64 (reckR op k n f s k' n' f' s').1, .int .i64 (reckR op k n f s k' n' f' s').2.1, .float .f64 (reckR op k n f s k' n' f' s').2.2.1, .string ⟨#[]⟩], .int .i64 (reckR op k n f s k' n' f' s').2.2.2]) ∧ Below w.heap.size w w' := by
  by_cases h0 : opO op = 0
  · refine (reck_unk op _ _ (looksO0 h0) k n k' n' f f' s s' w).mono fun e w' h => ret_vf' ?_ h
    simp [reckR, h0]
  obtain ⟨i, g1, g2, hs⟩ := signO_of op h0
  have R1 := right_any k n f hf s
  have R2 := right_any k' n' f' hf' s'
  rcases bool_cases (rightB k n f s) with ha | ha
  · rw [ha] at R1
    refine (reck_ra op _ _ hs.look k n k' n' f f' s s' R1 w).mono fun e w' h => ret_vf' ?_ h
    simp [reckR, ha]
  rcases bool_cases (rightB k' n' f' s') with hb | hb
  · rw [ha] at R1
    rw [hb] at R2
    refine (reck_rb op _ _ hs.look k n k' n' f f' s s' R1 R2 w).mono fun e w' h => ret_vf' ?_ h
    simp [reckR, hb]
  rw [ha] at R1
  rw [hb] at R2
  have c1 : ¬ (opO op = 0 ∨ rightB k n f s = false ∨ rightB k' n' f' s' = false) := by simp [h0, ha, hb]
  by_cases k0 : k = 0
  · refine (reck_na op _ _ hs.look k n k' n' f f' s s' R1 R2 (by simpa using k0) w).mono fun e w' h => ret_vf' ?_ h
    unfold reckR
    rw [if_neg c1, if_pos (Or.inl k0)]
  have k0' : (k == 0) = false := by simpa using k0
  by_cases l0 : k' = 0
  · refine (reck_nb op _ _ hs.look k n k' n' f f' s s' R1 R2 k0' (by simpa using l0) w).mono fun e w' h => ret_vf' ?_ h
    unfold reckR
    rw [if_neg c1, if_pos (Or.inr l0)]
  have l0' : (k' == 0) = false := by simpa using l0
  have c2 : ¬ (k = 0 ∨ k' = 0) := by simp [k0, l0]
  have N1 := isnum_any k n f s
  have N2 := isnum_any k' n' f' s'
  rcases bool_cases (numB k) with m1 | m1
  · rw [m1] at N1
    refine (reck_ta op _ _ hs.look k n k' n' f f' s s' R1 R2 k0' l0' N1 w).mono fun e w' h => ret_vf' ?_ h
    unfold reckR
    rw [if_neg c1, if_neg c2, if_pos (by simp [m1])]
  rcases bool_cases (numB k') with m2 | m2
  · rw [m1] at N1
    rw [m2] at N2
    refine (reck_tb op _ _ hs.look k n k' n' f f' s s' R1 R2 k0' l0' N1 N2 w).mono fun e w' h => ret_vf' ?_ h
    unfold reckR
    rw [if_neg c1, if_neg c2, if_pos (by simp [m2])]
  rw [m1] at N1
  rw [m2] at N2
  have c3 : ¬ ((numB k && numB k') = false) := by simp [m1, m2]
  by_cases f0 : k = 3
  · refine (reck_fa op _ _ hs.look k n k' n' f f' s s' R1 R2 k0' l0' N1 N2 (by simpa using f0) g2 rfl hs.call2 _ _ _ rfl rfl (hs.floats _ _) w).mono fun e w' h => ret_vf' ?_ h
    unfold reckR
    rw [if_neg c1, if_neg c2, if_neg c3, if_pos (Or.inl f0), hs.ix]
  have f0' : (k == 3) = false := by simpa using f0
  by_cases f1 : k' = 3
  · refine (reck_fb op _ _ hs.look k n k' n' f f' s s' R1 R2 k0' l0' N1 N2 f0' (by simpa using f1) g2 rfl hs.call2 _ _ _ rfl rfl (hs.floats _ _) w).mono fun e w' h => ret_vf' ?_ h
    unfold reckR
    rw [if_neg c1, if_neg c2, if_neg c3, if_pos (Or.inr f1), hs.ix]
  have f1' : (k' == 3) = false := by simpa using f1
  have c4 : ¬ (k = 3 ∨ k' = 3) := by simp [f0, f1]
  have HI := hs.ints n n' n1 n2 n1' n2'
  rcases bool_cases (roomB (iop i n n')) with r0 | r0
  · have HI' : ∀ w, Calls Try.prog g1 #[.int .i64 n, .int .i64 n'] w (BadInt w) := fun w => (HI w).mono fun e w' ⟨N, he, _, hw⟩ => ⟨N, by rw [he, r0], hw⟩
    refine (reck_io op _ _ hs.look k n k' n' f f' s s' R1 R2 k0' l0' N1 N2 f0' f1' g1 rfl hs.call1 HI' w).mono fun e w' h => ret_vf' ?_ h
    unfold reckR
    rw [if_neg c1, if_neg c2, if_neg c3, if_neg c4, hs.ix, if_neg (by simp [r0])]
  · have HI' : ∀ w, Calls Try.prog g1 #[.int .i64 n, .int .i64 n'] w fun e w' => e = .returned (.tuple #[.int .i64 (iop i n n'), .bool true]) ∧ w = w' := fun w => (HI w).mono fun e w' ⟨N, he, hN, hw⟩ => ⟨by rw [he, hN r0, r0], hw⟩
    refine (reck_ii op _ _ hs.look k n k' n' f f' s s' R1 R2 k0' l0' N1 N2 f0' f1' g1 rfl hs.call1 _ HI' w).mono fun e w' h => ret_vf' ?_ h
    unfold reckR
    rw [if_neg c1, if_neg c2, if_neg c3, if_neg c4, hs.ix, if_pos r0]
end Go.Proofs.Ytfhnjilflffdfaa

namespace Go.Proofs.Ytfhnjilflffdfaa
open Go Go.RowKit
set_option linter.unusedVariables false
theorem bl_irr : ∀ x : List UInt8, Op.bytesLess x x = false
  | [] => rfl
  | a :: x => by simp [Op.bytesLess, bl_irr x]
theorem bl_tri : ∀ x y : List UInt8, (Op.bytesLess x y = true ∧ Op.bytesLess y x = false ∧ x ≠ y) ∨ (Op.bytesLess x y = false ∧ Op.bytesLess y x = true ∧ x ≠ y) ∨ (Op.bytesLess x y = false ∧ Op.bytesLess y x = false ∧ x = y)
  | [], [] => by simp [Op.bytesLess]
  | [], _ :: _ => by simp [Op.bytesLess]
  | _ :: _, [] => by simp [Op.bytesLess]
  | a :: x, b :: y => by
    have h := bl_tri x y
    by_cases e : a = b
    · subst e
      simp [Op.bytesLess]
      rcases h with h | h | h <;> simp [h, bl_irr]
    · have e' : ¬ b = a := fun q => e q.symm
      simp [Op.bytesLess, e, e']
      have : a.toNat ≠ b.toNat := fun q => e (UInt8.toNat_inj.1 q)
      simp only [UInt8.lt_iff_toNat_lt, UInt8.le_iff_toNat_le]
      omega
theorem bl_trans : ∀ x y z : List UInt8, Op.bytesLess x y = true → Op.bytesLess y z = true → Op.bytesLess x z = true
  | x, [], z, h, _ => by cases x <;> simp [Op.bytesLess] at h
  | x, b :: y, [], _, h => by simp [Op.bytesLess] at h
  | [], b :: y, c :: z, _, _ => by simp [Op.bytesLess]
  | a :: x, b :: y, c :: z, h1, h2 => by
    have ih := bl_trans x y z
    simp only [Op.bytesLess, Bool.or_eq_true, Bool.and_eq_true, decide_eq_true_eq, beq_iff_eq] at h1 h2 ⊢
    rcases h1 with h1 | ⟨rfl, h1⟩
    · rcases h2 with h2 | ⟨rfl, h2⟩
      · left
        simp only [UInt8.lt_iff_toNat_lt] at *
        omega
      · left; exact h1
    · rcases h2 with h2 | ⟨rfl, h2⟩
      · left; exact h2
      · right; exact ⟨rfl, ih h1 h2⟩
theorem kb_inj {a b : Nat} (ha : a < 18446744073709551616) (hb : b < 18446744073709551616) (h : Flt.kbits a = Flt.kbits b) : Flt.canon a = Flt.canon b := by
  rw [← Flt.okb_kbits ha, ← Flt.okb_kbits hb, h]
theorem kb_eq {a b : Nat} (ha : a < 18446744073709551616) (hb : b < 18446744073709551616) : Flt.kbits a = Flt.kbits b ↔ Flt.canon a = Flt.canon b :=
  ⟨kb_inj ha hb, fun h => by rw [← Flt.kbits_canon a, ← Flt.kbits_canon b, h]⟩
/-- one of two is less, or they are the same -/
theorem less_tri (k n : Int) (f : Nat) (s : ByteArray) (k' n' : Int) (f' : Nat) (s' : ByteArray) (hf : f < 18446744073709551616) (hf' : f' < 18446744073709551616) :
    (lessB k n f s k' n' f' s' = true ∧ lessB k' n' f' s' k n f s = false ∧ idB k n (Flt.canon f) s k' n' (Flt.canon f') s' = false) ∨ (lessB k n f s k' n' f' s' = false ∧ lessB k' n' f' s' k n f s = true ∧ idB k n (Flt.canon f) s k' n' (Flt.canon f') s' = false) ∨ (lessB k n f s k' n' f' s' = false ∧ lessB k' n' f' s' k n f s = false ∧ idB k n (Flt.canon f) s k' n' (Flt.canon f') s' = true) := by
  have hk := kb_eq hf hf'
  have hs := bl_tri s.toList s'.toList
  unfold lessB idB
  by_cases e1 : k = k'
  · subst e1
    by_cases e2 : n = n'
    · subst e2
      by_cases e3 : Flt.kbits f = Flt.kbits f'
      · have e4 := hk.1 e3
        simp only [e3, e4, if_true, beq_self_eq_true, Bool.true_and]
        rcases hs with h | h | h <;> simp [h, bl_irr]
      · have e4 : ¬ Flt.canon f = Flt.canon f' := fun q => e3 (hk.2 q)
        have e3' : ¬ Flt.kbits f' = Flt.kbits f := fun q => e3 q.symm
        simp [e3, e3', e4]; omega
    · have e2' : ¬ n' = n := fun q => e2 q.symm
      simp [e2, e2']; omega
  · have e1' : ¬ k' = k := fun q => e1 q.symm
    simp [e1, e1']; omega
theorem less_irr (k n : Int) (f : Nat) (s : ByteArray) : lessB k n f s k n f s = false := by simp [lessB, bl_irr]
theorem less_trans (k n : Int) (f : Nat) (s : ByteArray) (k' n' : Int) (f' : Nat) (s' : ByteArray) (k'' n'' : Int) (f'' : Nat) (s'' : ByteArray) (h1 : lessB k n f s k' n' f' s' = true) (h2 : lessB k' n' f' s' k'' n'' f'' s'' = true) : lessB k n f s k'' n'' f'' s'' = true := by
  have ht := bl_trans s.toList s'.toList s''.toList
  unfold lessB at *
  (repeat' split at h1) <;> (repeat' split at h2) <;> (repeat' split) <;> simp_all <;> omega
end Go.Proofs.Ytfhnjilflffdfaa

