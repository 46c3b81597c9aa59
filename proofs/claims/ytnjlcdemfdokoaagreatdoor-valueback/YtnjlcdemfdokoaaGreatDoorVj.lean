import Derived.Test.YtnjlcdemfdokoaaGreatDoorVi
namespace Go.Proofs.YtnjlcdemfdokoaaGreatDoor
open Go Go.RowKit
/-- what the looking up of an operator hands back -/
def LooksO (op : ByteArray) (G1 G2 : Value) (known : Bool) : Prop := (G1.oneCell' = true ∧ G2.oneCell' = true) ∧ ∀ (b : Nat) (w : World), w.heap[b]? = some (.map ents_o 3) → (Instr.lookup 76 (.map (some b)) (.string op) true).run Tryz.prog w = .ok (.tuple #[.agg #[G1, G2], .bool known]) w
theorem LooksO.at {op : ByteArray} {G1 G2 : Value} {known : Bool} (h : LooksO op G1 G2 known) (w : World) (o1 o2 o3 : Obj) :
    (Instr.lookup 76 (.map (some (w.heap.size + 1 + 1 + 1))) (.string op) true).run Tryz.prog ((((w.alloc o1).alloc o2).alloc o3).alloc (.map ents_o 3)) = .ok (.tuple #[.agg #[G1, G2], .bool known]) ((((w.alloc o1).alloc o2).alloc o3).alloc (.map ents_o 3)) :=
  h.2 _ _ (by have := heap_alloc_new (((w.alloc o1).alloc o2).alloc o3) (.map ents_o 3); simpa using this)
theorem LooksO.store1 {op : ByteArray} {G1 G2 : Value} {known : Bool} (h : LooksO op G1 G2 known) (a : Addr) (m : Mode) (w : World) : (Go.store a G1 m).run Tryz.prog w = stored Tryz.prog w a G1 m := run_store Tryz.prog w a G1 m h.1.1
theorem LooksO.store2 {op : ByteArray} {G1 G2 : Value} {known : Bool} (h : LooksO op G1 G2 known) (a : Addr) (m : Mode) (w : World) : (Go.store a G2 m).run Tryz.prog w = stored Tryz.prog w a G2 m := run_store Tryz.prog w a G2 m h.1.2
/-- a float that is c, but for which nan -/
def FloatRet (c : Nat) (w : World) (e : Ending) (w' : World) : Prop := ∃ r, e = .returned (.float .f64 r) ∧ Flt.canon r = c ∧ r < 18446744073709551616 ∧ Below w.heap.size w w'
/-- a number that has no room -/
def BadInt (w : World) (e : Ending) (w' : World) : Prop := ∃ N : Int, e = .returned (.tuple #[.int .i64 N, .bool false]) ∧ w = w'
/-- a number as a float -/
def asF (k n : Int) (f : Nat) : Nat := if k = 2 then floatOfInt .f64 n else f
theorem asf_core (k n : Int) (f : Nat) (s : ByteArray) (a : Bool) (ha : (k == 2) = a) (w : World) :
    Calls Tryz.prog 57 #[.agg #[.int .i64 k, .int .i64 n, .float .f64 f, .string s]] w fun e w' => e = .returned (.float .f64 (if a = true then floatOfInt .f64 n else f)) ∧ Below w.heap.size w w' := by
  cases a
  all_goals
    go_enter Tryz.func57, Tryz.ntmps57
    go_wp2_with fail
    go_ret
    exact ⟨rfl, below_a1 _ _⟩
theorem asf_any (k n : Int) (f : Nat) (s : ByteArray) (w : World) :
    Calls Tryz.prog 57 #[.agg #[.int .i64 k, .int .i64 n, .float .f64 f, .string s]] w fun e w' => e = .returned (.float .f64 (asF k n f)) ∧ Below w.heap.size w w' := by
  have h := asf_core k n f s _ rfl w
  unfold asF
  simpa using h
set_option maxRecDepth 100000 in
theorem reck_unk (op : ByteArray) (G1 G2 : Value) (H : LooksO op G1 G2 false) (k n k' n' : Int) (f f' : Nat) (s s' : ByteArray) (w : World) :
    Calls Tryz.prog 25 #[.string op, .agg #[.int .i64 k, .int .i64 n, .float .f64 f, .string s], .agg #[.int .i64 k', .int .i64 n', .float .f64 f', .string s']] w fun e w' => e = .returned (.tuple #[.agg #[.int .i64 0, .int .i64 0, .float .f64 0, .string ⟨#[]⟩], .int .i64 1]) ∧ Below w.heap.size w w' := by
  have hsf := run_store_float
  have HL := H.at w
  have HS1 := H.store1
  have HS2 := H.store2
  clear H
  go_enter Tryz.func25, Tryz.ntmps25
  go_wp2_with fail
  refine (opers_any _).mono ?_; rintro e w' ⟨rfl, rfl⟩
  go_wp2_with fail
  exact ret_ve rfl rfl rfl rfl (null5 _ _ _ _ _ _ _ _ _) ⟨rfl, below_a5 _ _ _ _ _ _⟩
set_option maxRecDepth 100000 in
theorem reck_ra (op : ByteArray) (G1 G2 : Value) (H : LooksO op G1 G2 true) (k n k' n' : Int) (f f' : Nat) (s s' : ByteArray) (C1 : ∀ w, Calls Tryz.prog 16 #[.agg #[.int .i64 k, .int .i64 n, .float .f64 f, .string s]] w fun e w' => e = .returned (.bool false) ∧ Below w.heap.size w w') (w : World) :
    Calls Tryz.prog 25 #[.string op, .agg #[.int .i64 k, .int .i64 n, .float .f64 f, .string s], .agg #[.int .i64 k', .int .i64 n', .float .f64 f', .string s']] w fun e w' => e = .returned (.tuple #[.agg #[.int .i64 0, .int .i64 0, .float .f64 0, .string ⟨#[]⟩], .int .i64 1]) ∧ Below w.heap.size w w' := by
  have hsf := run_store_float
  have HL := H.at w
  have HS1 := H.store1
  have HS2 := H.store2
  clear H
  go_enter Tryz.func25, Tryz.ntmps25
  go_wp2_with fail
  refine (opers_any _).mono ?_; rintro e w' ⟨rfl, rfl⟩
  go_wp2_with fail
  refine (C1 _).mono ?_; rintro e w1 ⟨rfl, hb1⟩
  have ch1 := hb1
  obtain ⟨hc1, hf1⟩ := bcell ch1
  have hz1 : w.heap.size + 1 + 1 + 1 + 1 < w1.heap.size := by have := ch1.size; simp only [size5] at this; omega
  go_wp2_with fail
  exact ret_ve rfl rfl rfl rfl (((null5 _ _ _ _ _ _ _ _ _).below ch1).set _ _ _ _) ⟨rfl, below_set4 (Below.chain (below_a5 _ _ _ _ _ _) ch1) (by omega) _ _ _ _⟩
set_option maxRecDepth 100000 in
theorem reck_rb (op : ByteArray) (G1 G2 : Value) (H : LooksO op G1 G2 true) (k n k' n' : Int) (f f' : Nat) (s s' : ByteArray) (C1 : ∀ w, Calls Tryz.prog 16 #[.agg #[.int .i64 k, .int .i64 n, .float .f64 f, .string s]] w fun e w' => e = .returned (.bool true) ∧ Below w.heap.size w w') (C2 : ∀ w, Calls Tryz.prog 16 #[.agg #[.int .i64 k', .int .i64 n', .float .f64 f', .string s']] w fun e w' => e = .returned (.bool false) ∧ Below w.heap.size w w') (w : World) :
    Calls Tryz.prog 25 #[.string op, .agg #[.int .i64 k, .int .i64 n, .float .f64 f, .string s], .agg #[.int .i64 k', .int .i64 n', .float .f64 f', .string s']] w fun e w' => e = .returned (.tuple #[.agg #[.int .i64 0, .int .i64 0, .float .f64 0, .string ⟨#[]⟩], .int .i64 1]) ∧ Below w.heap.size w w' := by
  have hsf := run_store_float
  have HL := H.at w
  have HS1 := H.store1
  have HS2 := H.store2
  clear H
  go_enter Tryz.func25, Tryz.ntmps25
  go_wp2_with fail
  refine (opers_any _).mono ?_; rintro e w' ⟨rfl, rfl⟩
  go_wp2_with fail
  refine (C1 _).mono ?_; rintro e w1 ⟨rfl, hb1⟩
  have ch1 := hb1
  obtain ⟨hc1, hf1⟩ := bcell ch1
  have hz1 : w.heap.size + 1 + 1 + 1 + 1 < w1.heap.size := by have := ch1.size; simp only [size5] at this; omega
  go_wp2_with fail
  refine (C2 _).mono ?_; rintro e w2 ⟨rfl, hb2⟩
  have ch2 := Below.chain ch1 hb2
  obtain ⟨hc2, hf2⟩ := bcell ch2
  have hz2 : w.heap.size + 1 + 1 + 1 + 1 < w2.heap.size := by have := ch2.size; simp only [size5] at this; omega
  go_wp2_with fail
  exact ret_ve rfl rfl rfl rfl (((null5 _ _ _ _ _ _ _ _ _).below ch2).set _ _ _ _) ⟨rfl, below_set4 (Below.chain (below_a5 _ _ _ _ _ _) ch2) (by omega) _ _ _ _⟩
set_option maxRecDepth 100000 in
theorem reck_na (op : ByteArray) (G1 G2 : Value) (H : LooksO op G1 G2 true) (k n k' n' : Int) (f f' : Nat) (s s' : ByteArray) (C1 : ∀ w, Calls Tryz.prog 16 #[.agg #[.int .i64 k, .int .i64 n, .float .f64 f, .string s]] w fun e w' => e = .returned (.bool true) ∧ Below w.heap.size w w') (C2 : ∀ w, Calls Tryz.prog 16 #[.agg #[.int .i64 k', .int .i64 n', .float .f64 f', .string s']] w fun e w' => e = .returned (.bool true) ∧ Below w.heap.size w w') (h0 : (k == 0) = true) (w : World) :
    Calls Tryz.prog 25 #[.string op, .agg #[.int .i64 k, .int .i64 n, .float .f64 f, .string s], .agg #[.int .i64 k', .int .i64 n', .float .f64 f', .string s']] w fun e w' => e = .returned (.tuple #[.agg #[.int .i64 0, .int .i64 0, .float .f64 0, .string ⟨#[]⟩], .int .i64 0]) ∧ Below w.heap.size w w' := by
  have hsf := run_store_float
  have HL := H.at w
  have HS1 := H.store1
  have HS2 := H.store2
  clear H
  go_enter Tryz.func25, Tryz.ntmps25
  go_wp2_with fail
  refine (opers_any _).mono ?_; rintro e w' ⟨rfl, rfl⟩
  go_wp2_with fail
  refine (C1 _).mono ?_; rintro e w1 ⟨rfl, hb1⟩
  have ch1 := hb1
  obtain ⟨hc1, hf1⟩ := bcell ch1
  have hz1 : w.heap.size + 1 + 1 + 1 + 1 < w1.heap.size := by have := ch1.size; simp only [size5] at this; omega
  go_wp2_with fail
  refine (C2 _).mono ?_; rintro e w2 ⟨rfl, hb2⟩
  have ch2 := Below.chain ch1 hb2
  obtain ⟨hc2, hf2⟩ := bcell ch2
  have hz2 : w.heap.size + 1 + 1 + 1 + 1 < w2.heap.size := by have := ch2.size; simp only [size5] at this; omega
  go_wp2_with fail
  exact ret_ve rfl rfl rfl rfl (((null5 _ _ _ _ _ _ _ _ _).below ch2).set _ _ _ _) ⟨rfl, below_set4 (Below.chain (below_a5 _ _ _ _ _ _) ch2) (by omega) _ _ _ _⟩
set_option maxRecDepth 100000 in
theorem reck_nb (op : ByteArray) (G1 G2 : Value) (H : LooksO op G1 G2 true) (k n k' n' : Int) (f f' : Nat) (s s' : ByteArray) (C1 : ∀ w, Calls Tryz.prog 16 #[.agg #[.int .i64 k, .int .i64 n, .float .f64 f, .string s]] w fun e w' => e = .returned (.bool true) ∧ Below w.heap.size w w') (C2 : ∀ w, Calls Tryz.prog 16 #[.agg #[.int .i64 k', .int .i64 n', .float .f64 f', .string s']] w fun e w' => e = .returned (.bool true) ∧ Below w.heap.size w w') (h0 : (k == 0) = false) (h1 : (k' == 0) = true) (w : World) :
    Calls Tryz.prog 25 #[.string op, .agg #[.int .i64 k, .int .i64 n, .float .f64 f, .string s], .agg #[.int .i64 k', .int .i64 n', .float .f64 f', .string s']] w fun e w' => e = .returned (.tuple #[.agg #[.int .i64 0, .int .i64 0, .float .f64 0, .string ⟨#[]⟩], .int .i64 0]) ∧ Below w.heap.size w w' := by
  have hsf := run_store_float
  have HL := H.at w
  have HS1 := H.store1
  have HS2 := H.store2
  clear H
  go_enter Tryz.func25, Tryz.ntmps25
  go_wp2_with fail
  refine (opers_any _).mono ?_; rintro e w' ⟨rfl, rfl⟩
  go_wp2_with fail
  refine (C1 _).mono ?_; rintro e w1 ⟨rfl, hb1⟩
  have ch1 := hb1
  obtain ⟨hc1, hf1⟩ := bcell ch1
  have hz1 : w.heap.size + 1 + 1 + 1 + 1 < w1.heap.size := by have := ch1.size; simp only [size5] at this; omega
  go_wp2_with fail
  refine (C2 _).mono ?_; rintro e w2 ⟨rfl, hb2⟩
  have ch2 := Below.chain ch1 hb2
  obtain ⟨hc2, hf2⟩ := bcell ch2
  have hz2 : w.heap.size + 1 + 1 + 1 + 1 < w2.heap.size := by have := ch2.size; simp only [size5] at this; omega
  go_wp2_with fail
  exact ret_ve rfl rfl rfl rfl (((null5 _ _ _ _ _ _ _ _ _).below ch2).set _ _ _ _) ⟨rfl, below_set4 (Below.chain (below_a5 _ _ _ _ _ _) ch2) (by omega) _ _ _ _⟩
set_option maxRecDepth 100000 in
theorem reck_ta (op : ByteArray) (G1 G2 : Value) (H : LooksO op G1 G2 true) (k n k' n' : Int) (f f' : Nat) (s s' : ByteArray) (C1 : ∀ w, Calls Tryz.prog 16 #[.agg #[.int .i64 k, .int .i64 n, .float .f64 f, .string s]] w fun e w' => e = .returned (.bool true) ∧ Below w.heap.size w w') (C2 : ∀ w, Calls Tryz.prog 16 #[.agg #[.int .i64 k', .int .i64 n', .float .f64 f', .string s']] w fun e w' => e = .returned (.bool true) ∧ Below w.heap.size w w') (h0 : (k == 0) = false) (h1 : (k' == 0) = false) (C3 : ∀ w, Calls Tryz.prog 50 #[.agg #[.int .i64 k, .int .i64 n, .float .f64 f, .string s]] w fun e w' => e = .returned (.bool false) ∧ Below w.heap.size w w') (w : World) :
    Calls Tryz.prog 25 #[.string op, .agg #[.int .i64 k, .int .i64 n, .float .f64 f, .string s], .agg #[.int .i64 k', .int .i64 n', .float .f64 f', .string s']] w fun e w' => e = .returned (.tuple #[.agg #[.int .i64 0, .int .i64 0, .float .f64 0, .string ⟨#[]⟩], .int .i64 4]) ∧ Below w.heap.size w w' := by
  have hsf := run_store_float
  have HL := H.at w
  have HS1 := H.store1
  have HS2 := H.store2
  clear H
  go_enter Tryz.func25, Tryz.ntmps25
  go_wp2_with fail
  refine (opers_any _).mono ?_; rintro e w' ⟨rfl, rfl⟩
  go_wp2_with fail
  refine (C1 _).mono ?_; rintro e w1 ⟨rfl, hb1⟩
  have ch1 := hb1
  obtain ⟨hc1, hf1⟩ := bcell ch1
  have hz1 : w.heap.size + 1 + 1 + 1 + 1 < w1.heap.size := by have := ch1.size; simp only [size5] at this; omega
  go_wp2_with fail
  refine (C2 _).mono ?_; rintro e w2 ⟨rfl, hb2⟩
  have ch2 := Below.chain ch1 hb2
  obtain ⟨hc2, hf2⟩ := bcell ch2
  have hz2 : w.heap.size + 1 + 1 + 1 + 1 < w2.heap.size := by have := ch2.size; simp only [size5] at this; omega
  go_wp2_with fail
  refine (C3 _).mono ?_; rintro e w3 ⟨rfl, hb3⟩
  have ch3 := Below.chain ch2 hb3
  obtain ⟨hc3, hf3⟩ := bcell ch3
  have hz3 : w.heap.size + 1 + 1 + 1 + 1 < w3.heap.size := by have := ch3.size; simp only [size5] at this; omega
  go_wp2_with fail
  exact ret_ve rfl rfl rfl rfl (((null5 _ _ _ _ _ _ _ _ _).below ch3).set _ _ _ _) ⟨rfl, below_set4 (Below.chain (below_a5 _ _ _ _ _ _) ch3) (by omega) _ _ _ _⟩
set_option maxRecDepth 100000 in
theorem reck_tb (op : ByteArray) (G1 G2 : Value) (H : LooksO op G1 G2 true) (k n k' n' : Int) (f f' : Nat) (s s' : ByteArray) (C1 : ∀ w, Calls Tryz.prog 16 #[.agg #[.int .i64 k, .int .i64 n, .float .f64 f, .string s]] w fun e w' => e = .returned (.bool true) ∧ Below w.heap.size w w') (C2 : ∀ w, Calls Tryz.prog 16 #[.agg #[.int .i64 k', .int .i64 n', .float .f64 f', .string s']] w fun e w' => e = .returned (.bool true) ∧ Below w.heap.size w w') (h0 : (k == 0) = false) (h1 : (k' == 0) = false) (C3 : ∀ w, Calls Tryz.prog 50 #[.agg #[.int .i64 k, .int .i64 n, .float .f64 f, .string s]] w fun e w' => e = .returned (.bool true) ∧ Below w.heap.size w w') (C4 : ∀ w, Calls Tryz.prog 50 #[.agg #[.int .i64 k', .int .i64 n', .float .f64 f', .string s']] w fun e w' => e = .returned (.bool false) ∧ Below w.heap.size w w') (w : World) :
    Calls Tryz.prog 25 #[.string op, .agg #[.int .i64 k, .int .i64 n, .float .f64 f, .string s], .agg #[.int .i64 k', .int .i64 n', .float .f64 f', .string s']] w fun e w' => e = .returned (.tuple #[.agg #[.int .i64 0, .int .i64 0, .float .f64 0, .string ⟨#[]⟩], .int .i64 4]) ∧ Below w.heap.size w w' := by
  have hsf := run_store_float
  have HL := H.at w
  have HS1 := H.store1
  have HS2 := H.store2
  clear H
  go_enter Tryz.func25, Tryz.ntmps25
  go_wp2_with fail
  refine (opers_any _).mono ?_; rintro e w' ⟨rfl, rfl⟩
  go_wp2_with fail
  refine (C1 _).mono ?_; rintro e w1 ⟨rfl, hb1⟩
  have ch1 := hb1
  obtain ⟨hc1, hf1⟩ := bcell ch1
  have hz1 : w.heap.size + 1 + 1 + 1 + 1 < w1.heap.size := by have := ch1.size; simp only [size5] at this; omega
  go_wp2_with fail
  refine (C2 _).mono ?_; rintro e w2 ⟨rfl, hb2⟩
  have ch2 := Below.chain ch1 hb2
  obtain ⟨hc2, hf2⟩ := bcell ch2
  have hz2 : w.heap.size + 1 + 1 + 1 + 1 < w2.heap.size := by have := ch2.size; simp only [size5] at this; omega
  go_wp2_with fail
  refine (C3 _).mono ?_; rintro e w3 ⟨rfl, hb3⟩
  have ch3 := Below.chain ch2 hb3
  obtain ⟨hc3, hf3⟩ := bcell ch3
  have hz3 : w.heap.size + 1 + 1 + 1 + 1 < w3.heap.size := by have := ch3.size; simp only [size5] at this; omega
  go_wp2_with fail
  refine (C4 _).mono ?_; rintro e w4 ⟨rfl, hb4⟩
  have ch4 := Below.chain ch3 hb4
  obtain ⟨hc4, hf4⟩ := bcell ch4
  have hz4 : w.heap.size + 1 + 1 + 1 + 1 < w4.heap.size := by have := ch4.size; simp only [size5] at this; omega
  go_wp2_with fail
  exact ret_ve rfl rfl rfl rfl (((null5 _ _ _ _ _ _ _ _ _).below ch4).set _ _ _ _) ⟨rfl, below_set4 (Below.chain (below_a5 _ _ _ _ _ _) ch4) (by omega) _ _ _ _⟩
set_option maxRecDepth 100000 in
theorem reck_io (op : ByteArray) (G1 G2 : Value) (H : LooksO op G1 G2 true) (k n k' n' : Int) (f f' : Nat) (s s' : ByteArray) (C1 : ∀ w, Calls Tryz.prog 16 #[.agg #[.int .i64 k, .int .i64 n, .float .f64 f, .string s]] w fun e w' => e = .returned (.bool true) ∧ Below w.heap.size w w') (C2 : ∀ w, Calls Tryz.prog 16 #[.agg #[.int .i64 k', .int .i64 n', .float .f64 f', .string s']] w fun e w' => e = .returned (.bool true) ∧ Below w.heap.size w w') (h0 : (k == 0) = false) (h1 : (k' == 0) = false) (C3 : ∀ w, Calls Tryz.prog 50 #[.agg #[.int .i64 k, .int .i64 n, .float .f64 f, .string s]] w fun e w' => e = .returned (.bool true) ∧ Below w.heap.size w w') (C4 : ∀ w, Calls Tryz.prog 50 #[.agg #[.int .i64 k', .int .i64 n', .float .f64 f', .string s']] w fun e w' => e = .returned (.bool true) ∧ Below w.heap.size w w') (h3 : (k == 3) = false) (h4 : (k' == 3) = false) (g1 : Nat) (hG : G1 = .func (.func g1) #[] #[]) (HG : ∀ (x y : Int) (w : World), (callFunc g1 #[.int .i64 x, .int .i64 y]).run Tryz.prog w = .ok (.enter g1 #[.int .i64 x, .int .i64 y]) w) (CI : ∀ w, Calls Tryz.prog g1 #[.int .i64 n, .int .i64 n'] w (BadInt w)) (w : World) :
    Calls Tryz.prog 25 #[.string op, .agg #[.int .i64 k, .int .i64 n, .float .f64 f, .string s], .agg #[.int .i64 k', .int .i64 n', .float .f64 f', .string s']] w fun e w' => e = .returned (.tuple #[.agg #[.int .i64 0, .int .i64 0, .float .f64 0, .string ⟨#[]⟩], .int .i64 7]) ∧ Below w.heap.size w w' := by
  subst hG
  have hsf := run_store_float
  have HL := H.at w
  have HS1 := H.store1
  have HS2 := H.store2
  clear H
  go_enter Tryz.func25, Tryz.ntmps25
  go_wp2_with fail
  refine (opers_any _).mono ?_; rintro e w' ⟨rfl, rfl⟩
  go_wp2_with fail
  refine (C1 _).mono ?_; rintro e w1 ⟨rfl, hb1⟩
  have ch1 := hb1
  obtain ⟨hc1, hf1⟩ := bcell ch1
  have hz1 : w.heap.size + 1 + 1 + 1 + 1 < w1.heap.size := by have := ch1.size; simp only [size5] at this; omega
  go_wp2_with fail
  refine (C2 _).mono ?_; rintro e w2 ⟨rfl, hb2⟩
  have ch2 := Below.chain ch1 hb2
  obtain ⟨hc2, hf2⟩ := bcell ch2
  have hz2 : w.heap.size + 1 + 1 + 1 + 1 < w2.heap.size := by have := ch2.size; simp only [size5] at this; omega
  go_wp2_with fail
  refine (C3 _).mono ?_; rintro e w3 ⟨rfl, hb3⟩
  have ch3 := Below.chain ch2 hb3
  obtain ⟨hc3, hf3⟩ := bcell ch3
  have hz3 : w.heap.size + 1 + 1 + 1 + 1 < w3.heap.size := by have := ch3.size; simp only [size5] at this; omega
  go_wp2_with fail
  refine (C4 _).mono ?_; rintro e w4 ⟨rfl, hb4⟩
  have ch4 := Below.chain ch3 hb4
  obtain ⟨hc4, hf4⟩ := bcell ch4
  have hz4 : w.heap.size + 1 + 1 + 1 + 1 < w4.heap.size := by have := ch4.size; simp only [size5] at this; omega
  go_wp2_with fail
  refine (CI _).mono ?_; rintro e w' ⟨N, rfl, rfl⟩
  go_wp2_with fail
  exact ret_ve rfl rfl rfl rfl (((null5 _ _ _ _ _ _ _ _ _).below ch4).set _ _ _ _) ⟨rfl, below_set4 (Below.chain (below_a5 _ _ _ _ _ _) ch4) (by omega) _ _ _ _⟩
set_option maxRecDepth 100000 in
theorem reck_ii (op : ByteArray) (G1 G2 : Value) (H : LooksO op G1 G2 true) (k n k' n' : Int) (f f' : Nat) (s s' : ByteArray) (C1 : ∀ w, Calls Tryz.prog 16 #[.agg #[.int .i64 k, .int .i64 n, .float .f64 f, .string s]] w fun e w' => e = .returned (.bool true) ∧ Below w.heap.size w w') (C2 : ∀ w, Calls Tryz.prog 16 #[.agg #[.int .i64 k', .int .i64 n', .float .f64 f', .string s']] w fun e w' => e = .returned (.bool true) ∧ Below w.heap.size w w') (h0 : (k == 0) = false) (h1 : (k' == 0) = false) (C3 : ∀ w, Calls Tryz.prog 50 #[.agg #[.int .i64 k, .int .i64 n, .float .f64 f, .string s]] w fun e w' => e = .returned (.bool true) ∧ Below w.heap.size w w') (C4 : ∀ w, Calls Tryz.prog 50 #[.agg #[.int .i64 k', .int .i64 n', .float .f64 f', .string s']] w fun e w' => e = .returned (.bool true) ∧ Below w.heap.size w w') (h3 : (k == 3) = false) (h4 : (k' == 3) = false) (g1 : Nat) (hG : G1 = .func (.func g1) #[] #[]) (HG : ∀ (x y : Int) (w : World), (callFunc g1 #[.int .i64 x, .int .i64 y]).run Tryz.prog w = .ok (.enter g1 #[.int .i64 x, .int .i64 y]) w) (N : Int) (CI : ∀ w, Calls Tryz.prog g1 #[.int .i64 n, .int .i64 n'] w fun e w' => e = .returned (.tuple #[.int .i64 N, .bool true]) ∧ w = w') (w : World) :
    Calls Tryz.prog 25 #[.string op, .agg #[.int .i64 k, .int .i64 n, .float .f64 f, .string s], .agg #[.int .i64 k', .int .i64 n', .float .f64 f', .string s']] w fun e w' => e = .returned (.tuple #[.agg #[.int .i64 2, .int .i64 N, .float .f64 0, .string ⟨#[]⟩], .int .i64 0]) ∧ Below w.heap.size w w' := by
  subst hG
  have hsf := run_store_float
  have HL := H.at w
  have HS1 := H.store1
  have HS2 := H.store2
  clear H
  go_enter Tryz.func25, Tryz.ntmps25
  go_wp2_with fail
  refine (opers_any _).mono ?_; rintro e w' ⟨rfl, rfl⟩
  go_wp2_with fail
  refine (C1 _).mono ?_; rintro e w1 ⟨rfl, hb1⟩
  have ch1 := hb1
  obtain ⟨hc1, hf1⟩ := bcell ch1
  have hz1 : w.heap.size + 1 + 1 + 1 + 1 < w1.heap.size := by have := ch1.size; simp only [size5] at this; omega
  go_wp2_with fail
  refine (C2 _).mono ?_; rintro e w2 ⟨rfl, hb2⟩
  have ch2 := Below.chain ch1 hb2
  obtain ⟨hc2, hf2⟩ := bcell ch2
  have hz2 : w.heap.size + 1 + 1 + 1 + 1 < w2.heap.size := by have := ch2.size; simp only [size5] at this; omega
  go_wp2_with fail
  refine (C3 _).mono ?_; rintro e w3 ⟨rfl, hb3⟩
  have ch3 := Below.chain ch2 hb3
  obtain ⟨hc3, hf3⟩ := bcell ch3
  have hz3 : w.heap.size + 1 + 1 + 1 + 1 < w3.heap.size := by have := ch3.size; simp only [size5] at this; omega
  go_wp2_with fail
  refine (C4 _).mono ?_; rintro e w4 ⟨rfl, hb4⟩
  have ch4 := Below.chain ch3 hb4
  obtain ⟨hc4, hf4⟩ := bcell ch4
  have hz4 : w.heap.size + 1 + 1 + 1 + 1 < w4.heap.size := by have := ch4.size; simp only [size5] at this; omega
  go_wp2_with fail
  refine (CI _).mono ?_; rintro e w' ⟨rfl, rfl⟩
  go_wp2_with fail
  refine (whole_any N _).mono ?_; rintro e w5 ⟨rfl, hb5⟩
  have ch5 := Below.chain ch4 hb5
  obtain ⟨hc5, hf5⟩ := bcell ch5
  go_wp2_with fail
  exact ret_ve rfl rfl rfl rfl (((null5 _ _ _ _ _ _ _ _ _).below ch5).set _ _ _ _) ⟨rfl, below_set4 (Below.chain (below_a5 _ _ _ _ _ _) ch5) (by omega) _ _ _ _⟩
theorem keptF {w0 w1 : World} {a b c r : Nat} {F a0 a1 a2 a3 b0 b1 b2 b3 r0 r1 r2 r3 : Value} (h : w0.cell? ⟨c, 1, none⟩ = some F ∧ w0.cell? ⟨a, 0, none⟩ = some a0 ∧ w0.cell? ⟨a, 1, none⟩ = some a1 ∧ w0.cell? ⟨a, 2, none⟩ = some a2 ∧ w0.cell? ⟨a, 3, none⟩ = some a3 ∧ w0.cell? ⟨b, 0, none⟩ = some b0 ∧ w0.cell? ⟨b, 1, none⟩ = some b1 ∧ w0.cell? ⟨b, 2, none⟩ = some b2 ∧ w0.cell? ⟨b, 3, none⟩ = some b3 ∧ w0.cell? ⟨r, 0, none⟩ = some r0 ∧ w0.cell? ⟨r, 1, none⟩ = some r1 ∧ w0.cell? ⟨r, 2, none⟩ = some r2 ∧ w0.cell? ⟨r, 3, none⟩ = some r3 ∧ w0.frozen? ⟨r, 0, none⟩ = false ∧ w0.frozen? ⟨r, 1, none⟩ = false ∧ w0.frozen? ⟨r, 2, none⟩ = false ∧ w0.frozen? ⟨r, 3, none⟩ = false) (hb : Below w0.heap.size w0 w1) : w1.cell? ⟨c, 1, none⟩ = some F ∧ w1.cell? ⟨a, 0, none⟩ = some a0 ∧ w1.cell? ⟨a, 1, none⟩ = some a1 ∧ w1.cell? ⟨a, 2, none⟩ = some a2 ∧ w1.cell? ⟨a, 3, none⟩ = some a3 ∧ w1.cell? ⟨b, 0, none⟩ = some b0 ∧ w1.cell? ⟨b, 1, none⟩ = some b1 ∧ w1.cell? ⟨b, 2, none⟩ = some b2 ∧ w1.cell? ⟨b, 3, none⟩ = some b3 ∧ w1.cell? ⟨r, 0, none⟩ = some r0 ∧ w1.cell? ⟨r, 1, none⟩ = some r1 ∧ w1.cell? ⟨r, 2, none⟩ = some r2 ∧ w1.cell? ⟨r, 3, none⟩ = some r3 ∧ w1.frozen? ⟨r, 0, none⟩ = false ∧ w1.frozen? ⟨r, 1, none⟩ = false ∧ w1.frozen? ⟨r, 2, none⟩ = false ∧ w1.frozen? ⟨r, 3, none⟩ = false := by
  obtain ⟨h1, h2, h3, h4, h5, h6, h7, h8, h9, h10, h11, h12, h13, f0, f1, f2, f3⟩ := h
  have hr := Lib.lt_of_cell h10
  exact ⟨later_cell h1 ⟨w1, hb⟩, later_cell h2 ⟨w1, hb⟩, later_cell h3 ⟨w1, hb⟩, later_cell h4 ⟨w1, hb⟩, later_cell h5 ⟨w1, hb⟩, later_cell h6 ⟨w1, hb⟩, later_cell h7 ⟨w1, hb⟩, later_cell h8 ⟨w1, hb⟩, later_cell h9 ⟨w1, hb⟩, later_cell h10 ⟨w1, hb⟩, later_cell h11 ⟨w1, hb⟩, later_cell h12 ⟨w1, hb⟩, later_cell h13 ⟨w1, hb⟩,
    (hb.frozen (p := ⟨r, 0, none⟩) hr).trans f0, (hb.frozen (p := ⟨r, 1, none⟩) hr).trans f1, (hb.frozen (p := ⟨r, 2, none⟩) hr).trans f2, (hb.frozen (p := ⟨r, 3, none⟩) hr).trans f3⟩
theorem keptF9 {w0 w1 : World} {a b c : Nat} {F a0 a1 a2 a3 b0 b1 b2 b3 : Value} (h : w0.cell? ⟨c, 1, none⟩ = some F ∧ w0.cell? ⟨a, 0, none⟩ = some a0 ∧ w0.cell? ⟨a, 1, none⟩ = some a1 ∧ w0.cell? ⟨a, 2, none⟩ = some a2 ∧ w0.cell? ⟨a, 3, none⟩ = some a3 ∧ w0.cell? ⟨b, 0, none⟩ = some b0 ∧ w0.cell? ⟨b, 1, none⟩ = some b1 ∧ w0.cell? ⟨b, 2, none⟩ = some b2 ∧ w0.cell? ⟨b, 3, none⟩ = some b3) (hb : Below w0.heap.size w0 w1) : w1.cell? ⟨c, 1, none⟩ = some F ∧ w1.cell? ⟨a, 0, none⟩ = some a0 ∧ w1.cell? ⟨a, 1, none⟩ = some a1 ∧ w1.cell? ⟨a, 2, none⟩ = some a2 ∧ w1.cell? ⟨a, 3, none⟩ = some a3 ∧ w1.cell? ⟨b, 0, none⟩ = some b0 ∧ w1.cell? ⟨b, 1, none⟩ = some b1 ∧ w1.cell? ⟨b, 2, none⟩ = some b2 ∧ w1.cell? ⟨b, 3, none⟩ = some b3 := by
  obtain ⟨h1, h2, h3, h4, h5, h6, h7, h8, h9⟩ := h
  exact ⟨later_cell h1 ⟨w1, hb⟩, later_cell h2 ⟨w1, hb⟩, later_cell h3 ⟨w1, hb⟩, later_cell h4 ⟨w1, hb⟩, later_cell h5 ⟨w1, hb⟩, later_cell h6 ⟨w1, hb⟩, later_cell h7 ⟨w1, hb⟩, later_cell h8 ⟨w1, hb⟩, later_cell h9 ⟨w1, hb⟩⟩
theorem keptF9s {w0 : World} {a b c r : Nat} {F a0 a1 a2 a3 b0 b1 b2 b3 v0 v1 v2 v3 : Value} (h : w0.cell? ⟨c, 1, none⟩ = some F ∧ w0.cell? ⟨a, 0, none⟩ = some a0 ∧ w0.cell? ⟨a, 1, none⟩ = some a1 ∧ w0.cell? ⟨a, 2, none⟩ = some a2 ∧ w0.cell? ⟨a, 3, none⟩ = some a3 ∧ w0.cell? ⟨b, 0, none⟩ = some b0 ∧ w0.cell? ⟨b, 1, none⟩ = some b1 ∧ w0.cell? ⟨b, 2, none⟩ = some b2 ∧ w0.cell? ⟨b, 3, none⟩ = some b3) (ha : r ≠ a) (hb : r ≠ b) (hc : r ≠ c) : ((((w0.setCell ⟨r, 0, none⟩ v0).setCell ⟨r, 1, none⟩ v1).setCell ⟨r, 2, none⟩ v2).setCell ⟨r, 3, none⟩ v3).cell? ⟨c, 1, none⟩ = some F ∧ ((((w0.setCell ⟨r, 0, none⟩ v0).setCell ⟨r, 1, none⟩ v1).setCell ⟨r, 2, none⟩ v2).setCell ⟨r, 3, none⟩ v3).cell? ⟨a, 0, none⟩ = some a0 ∧ ((((w0.setCell ⟨r, 0, none⟩ v0).setCell ⟨r, 1, none⟩ v1).setCell ⟨r, 2, none⟩ v2).setCell ⟨r, 3, none⟩ v3).cell? ⟨a, 1, none⟩ = some a1 ∧ ((((w0.setCell ⟨r, 0, none⟩ v0).setCell ⟨r, 1, none⟩ v1).setCell ⟨r, 2, none⟩ v2).setCell ⟨r, 3, none⟩ v3).cell? ⟨a, 2, none⟩ = some a2 ∧ ((((w0.setCell ⟨r, 0, none⟩ v0).setCell ⟨r, 1, none⟩ v1).setCell ⟨r, 2, none⟩ v2).setCell ⟨r, 3, none⟩ v3).cell? ⟨a, 3, none⟩ = some a3 ∧ ((((w0.setCell ⟨r, 0, none⟩ v0).setCell ⟨r, 1, none⟩ v1).setCell ⟨r, 2, none⟩ v2).setCell ⟨r, 3, none⟩ v3).cell? ⟨b, 0, none⟩ = some b0 ∧ ((((w0.setCell ⟨r, 0, none⟩ v0).setCell ⟨r, 1, none⟩ v1).setCell ⟨r, 2, none⟩ v2).setCell ⟨r, 3, none⟩ v3).cell? ⟨b, 1, none⟩ = some b1 ∧ ((((w0.setCell ⟨r, 0, none⟩ v0).setCell ⟨r, 1, none⟩ v1).setCell ⟨r, 2, none⟩ v2).setCell ⟨r, 3, none⟩ v3).cell? ⟨b, 2, none⟩ = some b2 ∧ ((((w0.setCell ⟨r, 0, none⟩ v0).setCell ⟨r, 1, none⟩ v1).setCell ⟨r, 2, none⟩ v2).setCell ⟨r, 3, none⟩ v3).cell? ⟨b, 3, none⟩ = some b3 := by
  obtain ⟨h1, h2, h3, h4, h5, h6, h7, h8, h9⟩ := h
  exact ⟨setfar hc h1, setfar ha h2, setfar ha h3, setfar ha h4, setfar ha h5, setfar hb h6, setfar hb h7, setfar hb h8, setfar hb h9⟩
set_option maxRecDepth 100000 in
set_option maxHeartbeats 1000000 in
theorem reck_fa (op : ByteArray) (G1 G2 : Value) (H : LooksO op G1 G2 true) (k n k' n' : Int) (f f' : Nat) (s s' : ByteArray) (C1 : ∀ w, Calls Tryz.prog 16 #[.agg #[.int .i64 k, .int .i64 n, .float .f64 f, .string s]] w fun e w' => e = .returned (.bool true) ∧ Below w.heap.size w w') (C2 : ∀ w, Calls Tryz.prog 16 #[.agg #[.int .i64 k', .int .i64 n', .float .f64 f', .string s']] w fun e w' => e = .returned (.bool true) ∧ Below w.heap.size w w') (h0 : (k == 0) = false) (h1 : (k' == 0) = false) (C3 : ∀ w, Calls Tryz.prog 50 #[.agg #[.int .i64 k, .int .i64 n, .float .f64 f, .string s]] w fun e w' => e = .returned (.bool true) ∧ Below w.heap.size w w') (C4 : ∀ w, Calls Tryz.prog 50 #[.agg #[.int .i64 k', .int .i64 n', .float .f64 f', .string s']] w fun e w' => e = .returned (.bool true) ∧ Below w.heap.size w w') (h3 : (k == 3) = true) (g2 : Nat) (hG : G2 = .func (.func g2) #[] #[]) (HG : ∀ (x y : Nat) (w : World), (callFunc g2 #[.float .f64 x, .float .f64 y]).run Tryz.prog w = .ok (.enter g2 #[.float .f64 x, .float .f64 y]) w) (c x y : Nat) (hx : asF k n f = x) (hy : asF k' n' f' = y) (CF : ∀ w, Calls Tryz.prog g2 #[.float .f64 x, .float .f64 y] w (FloatRet c w)) (w : World) :
    Calls Tryz.prog 25 #[.string op, .agg #[.int .i64 k, .int .i64 n, .float .f64 f, .string s], .agg #[.int .i64 k', .int .i64 n', .float .f64 f', .string s']] w fun e w' => e = .returned (.tuple #[.agg #[.int .i64 3, .int .i64 0, .float .f64 c, .string ⟨#[]⟩], .int .i64 0]) ∧ Below w.heap.size w w' := by
  subst hG
  have C5 := asf_any k n f s
  have C6 := asf_any k' n' f' s'
  rw [hx] at C5
  rw [hy] at C6
  clear hx hy
  have hsf := run_store_float
  have HL := H.at w
  have HS1 := H.store1
  have HS2 := H.store2
  clear H
  go_enter Tryz.func25, Tryz.ntmps25
  go_wp2_with fail
  refine (opers_any _).mono ?_; rintro e w' ⟨rfl, rfl⟩
  go_wp2_with fail
  refine (C1 _).mono ?_; rintro e w1 ⟨rfl, hb1⟩
  have ch1 := hb1
  obtain ⟨hc1, hf1⟩ := bcell ch1
  have hz1 : w.heap.size + 1 + 1 + 1 + 1 < w1.heap.size := by have := ch1.size; simp only [size5] at this; omega
  go_wp2_with fail
  refine (C2 _).mono ?_; rintro e w2 ⟨rfl, hb2⟩
  have ch2 := Below.chain ch1 hb2
  obtain ⟨hc2, hf2⟩ := bcell ch2
  have hz2 : w.heap.size + 1 + 1 + 1 + 1 < w2.heap.size := by have := ch2.size; simp only [size5] at this; omega
  go_wp2_with fail
  refine (C3 _).mono ?_; rintro e w3 ⟨rfl, hb3⟩
  have ch3 := Below.chain ch2 hb3
  obtain ⟨hc3, hf3⟩ := bcell ch3
  have hz3 : w.heap.size + 1 + 1 + 1 + 1 < w3.heap.size := by have := ch3.size; simp only [size5] at this; omega
  go_wp2_with fail
  refine (C4 _).mono ?_; rintro e w4 ⟨rfl, hb4⟩
  have ch4 := Below.chain ch3 hb4
  obtain ⟨hc4, hf4⟩ := bcell ch4
  have hz4 : w.heap.size + 1 + 1 + 1 + 1 < w4.heap.size := by have := ch4.size; simp only [size5] at this; omega
  go_wp2_with fail
  have hS : w4.cell? ⟨w.heap.size + 1 + 1 + 1 + 1, 1, none⟩ = some (.func (.func g2) #[] #[]) ∧ w4.cell? ⟨w.heap.size, 0, none⟩ = some (.int .i64 k) ∧ w4.cell? ⟨w.heap.size, 1, none⟩ = some (.int .i64 n) ∧ w4.cell? ⟨w.heap.size, 2, none⟩ = some (.float .f64 f) ∧ w4.cell? ⟨w.heap.size, 3, none⟩ = some (.string s) ∧ w4.cell? ⟨w.heap.size + 1, 0, none⟩ = some (.int .i64 k') ∧ w4.cell? ⟨w.heap.size + 1, 1, none⟩ = some (.int .i64 n') ∧ w4.cell? ⟨w.heap.size + 1, 2, none⟩ = some (.float .f64 f') ∧ w4.cell? ⟨w.heap.size + 1, 3, none⟩ = some (.string s') ∧ w4.cell? ⟨w.heap.size + 1 + 1, 0, none⟩ = some (.int .i64 0) ∧ w4.cell? ⟨w.heap.size + 1 + 1, 1, none⟩ = some (.int .i64 0) ∧ w4.cell? ⟨w.heap.size + 1 + 1, 2, none⟩ = some (.float .f64 0) ∧ w4.cell? ⟨w.heap.size + 1 + 1, 3, none⟩ = some (.string ⟨#[]⟩) ∧ w4.frozen? ⟨w.heap.size + 1 + 1, 0, none⟩ = false ∧ w4.frozen? ⟨w.heap.size + 1 + 1, 1, none⟩ = false ∧ w4.frozen? ⟨w.heap.size + 1 + 1, 2, none⟩ = false ∧ w4.frozen? ⟨w.heap.size + 1 + 1, 3, none⟩ = false := by
    refine ⟨?_, ?_, ?_, ?_, ?_, ?_, ?_, ?_, ?_, ?_, ?_, ?_, ?_, ?_, ?_, ?_, ?_⟩ <;> go_simp
  have hN : w4.cell? ⟨w.heap.size + 1 + 1 + 1 + 1, 1, none⟩ = some (.func (.func g2) #[] #[]) ∧ w4.cell? ⟨w.heap.size, 0, none⟩ = some (.int .i64 k) ∧ w4.cell? ⟨w.heap.size, 1, none⟩ = some (.int .i64 n) ∧ w4.cell? ⟨w.heap.size, 2, none⟩ = some (.float .f64 f) ∧ w4.cell? ⟨w.heap.size, 3, none⟩ = some (.string s) ∧ w4.cell? ⟨w.heap.size + 1, 0, none⟩ = some (.int .i64 k') ∧ w4.cell? ⟨w.heap.size + 1, 1, none⟩ = some (.int .i64 n') ∧ w4.cell? ⟨w.heap.size + 1, 2, none⟩ = some (.float .f64 f') ∧ w4.cell? ⟨w.heap.size + 1, 3, none⟩ = some (.string s') := ⟨hS.1, hS.2.1, hS.2.2.1, hS.2.2.2.1, hS.2.2.2.2.1, hS.2.2.2.2.2.1, hS.2.2.2.2.2.2.1, hS.2.2.2.2.2.2.2.1, hS.2.2.2.2.2.2.2.2.1⟩
  have HS' := Lib.hid hS
  have HN := Lib.hid hN
  clear hc1 hf1 hc2 hf2 hS hN hc3 hf3 hc4 hf4
  go_region_held3 (fun W => W.cell? ⟨w.heap.size + 1 + 1 + 1 + 1, 1, none⟩ = some (.func (.func g2) #[] #[]) ∧ W.cell? ⟨w.heap.size, 0, none⟩ = some (.int .i64 k) ∧ W.cell? ⟨w.heap.size, 1, none⟩ = some (.int .i64 n) ∧ W.cell? ⟨w.heap.size, 2, none⟩ = some (.float .f64 f) ∧ W.cell? ⟨w.heap.size, 3, none⟩ = some (.string s) ∧ W.cell? ⟨w.heap.size + 1, 0, none⟩ = some (.int .i64 k') ∧ W.cell? ⟨w.heap.size + 1, 1, none⟩ = some (.int .i64 n') ∧ W.cell? ⟨w.heap.size + 1, 2, none⟩ = some (.float .f64 f') ∧ W.cell? ⟨w.heap.size + 1, 3, none⟩ = some (.string s')) (first | exact keptF9 HN.out (Below.refl _ _).drew | exact keptF9 HN.out hq1 | exact keptF9 HN.out hq2 | exact keptF9 HN.out hq3 | exact keptF9 HN.out hch | exact keptF9s (keptF9 HN.out hch) (by omega) (by omega) (by omega))
    (first | ((with_reducible refine (C6 _).mono ?_); rintro e wb ⟨rfl, hbb⟩; have hq2 := Below.chain hq1 hbb) | ((with_reducible refine (C5 _).mono ?_); rintro e wa ⟨rfl, hba⟩; have hq1 := Below.chain (Below.refl _ _).drew hba) | ((with_reducible refine (CF _).mono ?_); rintro e wc ⟨r, rfl, hr, hl, hbc⟩; have hq3 := Below.chain hq2 hbc; have C7 := vfloat_any r hl; rw [hr] at C7; clear hr hl) | ((with_reducible refine (C7 _).mono ?_); rintro e wt ⟨rfl, hbt⟩; have hch := Below.chain hq3 hbt; have hR := (keptF HS'.out hch).2.2.2.2.2.2.2.2.2; obtain ⟨r0, r1, r2, r3, f0, f1, f2, f3⟩ := hR))
  all_goals
    go_wp2_with fail
    exact ret_ve rfl rfl rfl rfl (Lies.set ⟨r0, r1, r2, r3⟩ _ _ _ _) ⟨rfl, below_set4 (Below.chain (Below.chain (below_a5 _ _ _ _ _ _) ch4) hch) (by omega) _ _ _ _⟩
set_option maxRecDepth 100000 in
set_option maxHeartbeats 1000000 in
theorem reck_fb (op : ByteArray) (G1 G2 : Value) (H : LooksO op G1 G2 true) (k n k' n' : Int) (f f' : Nat) (s s' : ByteArray) (C1 : ∀ w, Calls Tryz.prog 16 #[.agg #[.int .i64 k, .int .i64 n, .float .f64 f, .string s]] w fun e w' => e = .returned (.bool true) ∧ Below w.heap.size w w') (C2 : ∀ w, Calls Tryz.prog 16 #[.agg #[.int .i64 k', .int .i64 n', .float .f64 f', .string s']] w fun e w' => e = .returned (.bool true) ∧ Below w.heap.size w w') (h0 : (k == 0) = false) (h1 : (k' == 0) = false) (C3 : ∀ w, Calls Tryz.prog 50 #[.agg #[.int .i64 k, .int .i64 n, .float .f64 f, .string s]] w fun e w' => e = .returned (.bool true) ∧ Below w.heap.size w w') (C4 : ∀ w, Calls Tryz.prog 50 #[.agg #[.int .i64 k', .int .i64 n', .float .f64 f', .string s']] w fun e w' => e = .returned (.bool true) ∧ Below w.heap.size w w') (h3 : (k == 3) = false) (h4 : (k' == 3) = true) (g2 : Nat) (hG : G2 = .func (.func g2) #[] #[]) (HG : ∀ (x y : Nat) (w : World), (callFunc g2 #[.float .f64 x, .float .f64 y]).run Tryz.prog w = .ok (.enter g2 #[.float .f64 x, .float .f64 y]) w) (c x y : Nat) (hx : asF k n f = x) (hy : asF k' n' f' = y) (CF : ∀ w, Calls Tryz.prog g2 #[.float .f64 x, .float .f64 y] w (FloatRet c w)) (w : World) :
    Calls Tryz.prog 25 #[.string op, .agg #[.int .i64 k, .int .i64 n, .float .f64 f, .string s], .agg #[.int .i64 k', .int .i64 n', .float .f64 f', .string s']] w fun e w' => e = .returned (.tuple #[.agg #[.int .i64 3, .int .i64 0, .float .f64 c, .string ⟨#[]⟩], .int .i64 0]) ∧ Below w.heap.size w w' := by
  subst hG
  have C5 := asf_any k n f s
  have C6 := asf_any k' n' f' s'
  rw [hx] at C5
  rw [hy] at C6
  clear hx hy
  have hsf := run_store_float
  have HL := H.at w
  have HS1 := H.store1
  have HS2 := H.store2
  clear H
  go_enter Tryz.func25, Tryz.ntmps25
  go_wp2_with fail
  refine (opers_any _).mono ?_; rintro e w' ⟨rfl, rfl⟩
  go_wp2_with fail
  refine (C1 _).mono ?_; rintro e w1 ⟨rfl, hb1⟩
  have ch1 := hb1
  obtain ⟨hc1, hf1⟩ := bcell ch1
  have hz1 : w.heap.size + 1 + 1 + 1 + 1 < w1.heap.size := by have := ch1.size; simp only [size5] at this; omega
  go_wp2_with fail
  refine (C2 _).mono ?_; rintro e w2 ⟨rfl, hb2⟩
  have ch2 := Below.chain ch1 hb2
  obtain ⟨hc2, hf2⟩ := bcell ch2
  have hz2 : w.heap.size + 1 + 1 + 1 + 1 < w2.heap.size := by have := ch2.size; simp only [size5] at this; omega
  go_wp2_with fail
  refine (C3 _).mono ?_; rintro e w3 ⟨rfl, hb3⟩
  have ch3 := Below.chain ch2 hb3
  obtain ⟨hc3, hf3⟩ := bcell ch3
  have hz3 : w.heap.size + 1 + 1 + 1 + 1 < w3.heap.size := by have := ch3.size; simp only [size5] at this; omega
  go_wp2_with fail
  refine (C4 _).mono ?_; rintro e w4 ⟨rfl, hb4⟩
  have ch4 := Below.chain ch3 hb4
  obtain ⟨hc4, hf4⟩ := bcell ch4
  have hz4 : w.heap.size + 1 + 1 + 1 + 1 < w4.heap.size := by have := ch4.size; simp only [size5] at this; omega
  go_wp2_with fail
  have hS : w4.cell? ⟨w.heap.size + 1 + 1 + 1 + 1, 1, none⟩ = some (.func (.func g2) #[] #[]) ∧ w4.cell? ⟨w.heap.size, 0, none⟩ = some (.int .i64 k) ∧ w4.cell? ⟨w.heap.size, 1, none⟩ = some (.int .i64 n) ∧ w4.cell? ⟨w.heap.size, 2, none⟩ = some (.float .f64 f) ∧ w4.cell? ⟨w.heap.size, 3, none⟩ = some (.string s) ∧ w4.cell? ⟨w.heap.size + 1, 0, none⟩ = some (.int .i64 k') ∧ w4.cell? ⟨w.heap.size + 1, 1, none⟩ = some (.int .i64 n') ∧ w4.cell? ⟨w.heap.size + 1, 2, none⟩ = some (.float .f64 f') ∧ w4.cell? ⟨w.heap.size + 1, 3, none⟩ = some (.string s') ∧ w4.cell? ⟨w.heap.size + 1 + 1, 0, none⟩ = some (.int .i64 0) ∧ w4.cell? ⟨w.heap.size + 1 + 1, 1, none⟩ = some (.int .i64 0) ∧ w4.cell? ⟨w.heap.size + 1 + 1, 2, none⟩ = some (.float .f64 0) ∧ w4.cell? ⟨w.heap.size + 1 + 1, 3, none⟩ = some (.string ⟨#[]⟩) ∧ w4.frozen? ⟨w.heap.size + 1 + 1, 0, none⟩ = false ∧ w4.frozen? ⟨w.heap.size + 1 + 1, 1, none⟩ = false ∧ w4.frozen? ⟨w.heap.size + 1 + 1, 2, none⟩ = false ∧ w4.frozen? ⟨w.heap.size + 1 + 1, 3, none⟩ = false := by
    refine ⟨?_, ?_, ?_, ?_, ?_, ?_, ?_, ?_, ?_, ?_, ?_, ?_, ?_, ?_, ?_, ?_, ?_⟩ <;> go_simp
  have hN : w4.cell? ⟨w.heap.size + 1 + 1 + 1 + 1, 1, none⟩ = some (.func (.func g2) #[] #[]) ∧ w4.cell? ⟨w.heap.size, 0, none⟩ = some (.int .i64 k) ∧ w4.cell? ⟨w.heap.size, 1, none⟩ = some (.int .i64 n) ∧ w4.cell? ⟨w.heap.size, 2, none⟩ = some (.float .f64 f) ∧ w4.cell? ⟨w.heap.size, 3, none⟩ = some (.string s) ∧ w4.cell? ⟨w.heap.size + 1, 0, none⟩ = some (.int .i64 k') ∧ w4.cell? ⟨w.heap.size + 1, 1, none⟩ = some (.int .i64 n') ∧ w4.cell? ⟨w.heap.size + 1, 2, none⟩ = some (.float .f64 f') ∧ w4.cell? ⟨w.heap.size + 1, 3, none⟩ = some (.string s') := ⟨hS.1, hS.2.1, hS.2.2.1, hS.2.2.2.1, hS.2.2.2.2.1, hS.2.2.2.2.2.1, hS.2.2.2.2.2.2.1, hS.2.2.2.2.2.2.2.1, hS.2.2.2.2.2.2.2.2.1⟩
  have HS' := Lib.hid hS
  have HN := Lib.hid hN
  clear hc1 hf1 hc2 hf2 hS hN hc3 hf3 hc4 hf4
  go_region_held3 (fun W => W.cell? ⟨w.heap.size + 1 + 1 + 1 + 1, 1, none⟩ = some (.func (.func g2) #[] #[]) ∧ W.cell? ⟨w.heap.size, 0, none⟩ = some (.int .i64 k) ∧ W.cell? ⟨w.heap.size, 1, none⟩ = some (.int .i64 n) ∧ W.cell? ⟨w.heap.size, 2, none⟩ = some (.float .f64 f) ∧ W.cell? ⟨w.heap.size, 3, none⟩ = some (.string s) ∧ W.cell? ⟨w.heap.size + 1, 0, none⟩ = some (.int .i64 k') ∧ W.cell? ⟨w.heap.size + 1, 1, none⟩ = some (.int .i64 n') ∧ W.cell? ⟨w.heap.size + 1, 2, none⟩ = some (.float .f64 f') ∧ W.cell? ⟨w.heap.size + 1, 3, none⟩ = some (.string s')) (first | exact keptF9 HN.out (Below.refl _ _).drew | exact keptF9 HN.out hq1 | exact keptF9 HN.out hq2 | exact keptF9 HN.out hq3 | exact keptF9 HN.out hch | exact keptF9s (keptF9 HN.out hch) (by omega) (by omega) (by omega))
    (first | ((with_reducible refine (C6 _).mono ?_); rintro e wb ⟨rfl, hbb⟩; have hq2 := Below.chain hq1 hbb) | ((with_reducible refine (C5 _).mono ?_); rintro e wa ⟨rfl, hba⟩; have hq1 := Below.chain (Below.refl _ _).drew hba) | ((with_reducible refine (CF _).mono ?_); rintro e wc ⟨r, rfl, hr, hl, hbc⟩; have hq3 := Below.chain hq2 hbc; have C7 := vfloat_any r hl; rw [hr] at C7; clear hr hl) | ((with_reducible refine (C7 _).mono ?_); rintro e wt ⟨rfl, hbt⟩; have hch := Below.chain hq3 hbt; have hR := (keptF HS'.out hch).2.2.2.2.2.2.2.2.2; obtain ⟨r0, r1, r2, r3, f0, f1, f2, f3⟩ := hR))
  all_goals
    go_wp2_with fail
    exact ret_ve rfl rfl rfl rfl (Lies.set ⟨r0, r1, r2, r3⟩ _ _ _ _) ⟨rfl, below_set4 (Below.chain (Below.chain (below_a5 _ _ _ _ _ _) ch4) hch) (by omega) _ _ _ _⟩
end Go.Proofs.YtnjlcdemfdokoaaGreatDoor
