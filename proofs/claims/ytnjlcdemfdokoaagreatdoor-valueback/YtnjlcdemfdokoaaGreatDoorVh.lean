import Derived.Test.YtnjlcdemfdokoaaGreatDoorVg
import Derived.Test.YtnjlcdemfdokoaaGreatDoorWra
import Derived.Deep.RegionHeld3
namespace Go.Proofs.YtnjlcdemfdokoaaGreatDoor
open Go Go.RowKit
/-- what the looking up of an operator hands back -/
def Looks (op : ByteArray) (F : Value) (known : Bool) : Prop := F.oneCell' = true ∧ ∀ (b : Nat) (w : World), w.heap[b]? = some (.map ents_c 6) → (Instr.lookup 65 (.map (some b)) (.string op) true).run Tryz.prog w = .ok (.tuple #[.agg #[F], .bool known]) w
theorem Looks.at {op : ByteArray} {F : Value} {known : Bool} (h : Looks op F known) (w : World) (o1 o2 o3 : Obj) :
    (Instr.lookup 65 (.map (some (w.heap.size + 1 + 1 + 1))) (.string op) true).run Tryz.prog ((((w.alloc o1).alloc o2).alloc o3).alloc (.map ents_c 6)) = .ok (.tuple #[.agg #[F], .bool known]) ((((w.alloc o1).alloc o2).alloc o3).alloc (.map ents_c 6)) :=
  h.2 _ _ (by have := heap_alloc_new (((w.alloc o1).alloc o2).alloc o3) (.map ents_c 6); simpa using this)
theorem Looks.store {op : ByteArray} {F : Value} {known : Bool} (h : Looks op F known) (a : Addr) (m : Mode) (w : World) : (Go.store a F m).run Tryz.prog w = stored Tryz.prog w a F m := run_store Tryz.prog w a F m h.1
theorem Lies.set {w : World} {b : Nat} {u0 u1 u2 u3 : Value} (h : Lies w b u0 u1 u2 u3) (v0 v1 v2 v3 : Value) :
    Lies ((((w.setCell ⟨b, 0, none⟩ v0).setCell ⟨b, 1, none⟩ v1).setCell ⟨b, 2, none⟩ v2).setCell ⟨b, 3, none⟩ v3) b v0 v1 v2 v3 := by
  obtain ⟨h0, h1, h2, h3⟩ := h
  refine ⟨?_, ?_, ?_, ?_⟩ <;> go_simp
theorem below_set4 {n : Nat} {w w' : World} {b : Nat} (h : Below n w w') (hb : n ≤ b) (v0 v1 v2 v3 : Value) :
    Below n w ((((w'.setCell ⟨b, 0, none⟩ v0).setCell ⟨b, 1, none⟩ v1).setCell ⟨b, 2, none⟩ v2).setCell ⟨b, 3, none⟩ v3) := (((h.setCell hb _).setCell hb _).setCell hb _).setCell hb _
theorem below_a5 (w : World) (o1 o2 o3 o4 o5 : Obj) : Below w.heap.size w (((((w.alloc o1).alloc o2).alloc o3).alloc o4).alloc o5) := (((below_a2 w o1 o2).alloc (by simp; omega) o3).alloc (by simp; omega) o4).alloc (by simp; omega) o5
theorem null5 (w : World) (o1 o2 o4 o5 : Obj) (v0 v1 v2 v3 : Value) : Lies (((((w.alloc o1).alloc o2).alloc (.cells #[v0, v1, v2, v3] 28)).alloc o4).alloc o5) (w.heap.size + 1 + 1) v0 v1 v2 v3 := ((lies_at ((w.alloc o1).alloc o2) _ (by simp) v0 v1 v2 v3 _).alloc _).alloc _
theorem size5 (w : World) (o1 o2 o3 o4 o5 : Obj) : (((((w.alloc o1).alloc o2).alloc o3).alloc o4).alloc o5).heap.size = w.heap.size + 1 + 1 + 1 + 1 + 1 := by simp
theorem keptS {w0 w1 : World} {a b c r : Nat} {F a0 a1 a2 a3 b0 b1 b2 b3 r0 r1 r2 r3 : Value} (h : w0.cell? ⟨c, 0, none⟩ = some F ∧ w0.cell? ⟨a, 0, none⟩ = some a0 ∧ w0.cell? ⟨a, 1, none⟩ = some a1 ∧ w0.cell? ⟨a, 2, none⟩ = some a2 ∧ w0.cell? ⟨a, 3, none⟩ = some a3 ∧ w0.cell? ⟨b, 0, none⟩ = some b0 ∧ w0.cell? ⟨b, 1, none⟩ = some b1 ∧ w0.cell? ⟨b, 2, none⟩ = some b2 ∧ w0.cell? ⟨b, 3, none⟩ = some b3 ∧ w0.cell? ⟨r, 0, none⟩ = some r0 ∧ w0.cell? ⟨r, 1, none⟩ = some r1 ∧ w0.cell? ⟨r, 2, none⟩ = some r2 ∧ w0.cell? ⟨r, 3, none⟩ = some r3 ∧ w0.frozen? ⟨r, 0, none⟩ = false ∧ w0.frozen? ⟨r, 1, none⟩ = false ∧ w0.frozen? ⟨r, 2, none⟩ = false ∧ w0.frozen? ⟨r, 3, none⟩ = false) (hb : Below w0.heap.size w0 w1) : w1.cell? ⟨c, 0, none⟩ = some F ∧ w1.cell? ⟨a, 0, none⟩ = some a0 ∧ w1.cell? ⟨a, 1, none⟩ = some a1 ∧ w1.cell? ⟨a, 2, none⟩ = some a2 ∧ w1.cell? ⟨a, 3, none⟩ = some a3 ∧ w1.cell? ⟨b, 0, none⟩ = some b0 ∧ w1.cell? ⟨b, 1, none⟩ = some b1 ∧ w1.cell? ⟨b, 2, none⟩ = some b2 ∧ w1.cell? ⟨b, 3, none⟩ = some b3 ∧ w1.cell? ⟨r, 0, none⟩ = some r0 ∧ w1.cell? ⟨r, 1, none⟩ = some r1 ∧ w1.cell? ⟨r, 2, none⟩ = some r2 ∧ w1.cell? ⟨r, 3, none⟩ = some r3 ∧ w1.frozen? ⟨r, 0, none⟩ = false ∧ w1.frozen? ⟨r, 1, none⟩ = false ∧ w1.frozen? ⟨r, 2, none⟩ = false ∧ w1.frozen? ⟨r, 3, none⟩ = false := by
  obtain ⟨h1, h2, h3, h4, h5, h6, h7, h8, h9, h10, h11, h12, h13, f0, f1, f2, f3⟩ := h
  have hr := Lib.lt_of_cell h10
  exact ⟨later_cell h1 ⟨w1, hb⟩, later_cell h2 ⟨w1, hb⟩, later_cell h3 ⟨w1, hb⟩, later_cell h4 ⟨w1, hb⟩, later_cell h5 ⟨w1, hb⟩, later_cell h6 ⟨w1, hb⟩, later_cell h7 ⟨w1, hb⟩, later_cell h8 ⟨w1, hb⟩, later_cell h9 ⟨w1, hb⟩, later_cell h10 ⟨w1, hb⟩, later_cell h11 ⟨w1, hb⟩, later_cell h12 ⟨w1, hb⟩, later_cell h13 ⟨w1, hb⟩,
    (hb.frozen (p := ⟨r, 0, none⟩) hr).trans f0, (hb.frozen (p := ⟨r, 1, none⟩) hr).trans f1, (hb.frozen (p := ⟨r, 2, none⟩) hr).trans f2, (hb.frozen (p := ⟨r, 3, none⟩) hr).trans f3⟩
theorem kept9 {w0 w1 : World} {a b c : Nat} {F a0 a1 a2 a3 b0 b1 b2 b3 : Value} (h : w0.cell? ⟨c, 0, none⟩ = some F ∧ w0.cell? ⟨a, 0, none⟩ = some a0 ∧ w0.cell? ⟨a, 1, none⟩ = some a1 ∧ w0.cell? ⟨a, 2, none⟩ = some a2 ∧ w0.cell? ⟨a, 3, none⟩ = some a3 ∧ w0.cell? ⟨b, 0, none⟩ = some b0 ∧ w0.cell? ⟨b, 1, none⟩ = some b1 ∧ w0.cell? ⟨b, 2, none⟩ = some b2 ∧ w0.cell? ⟨b, 3, none⟩ = some b3) (hb : Below w0.heap.size w0 w1) : w1.cell? ⟨c, 0, none⟩ = some F ∧ w1.cell? ⟨a, 0, none⟩ = some a0 ∧ w1.cell? ⟨a, 1, none⟩ = some a1 ∧ w1.cell? ⟨a, 2, none⟩ = some a2 ∧ w1.cell? ⟨a, 3, none⟩ = some a3 ∧ w1.cell? ⟨b, 0, none⟩ = some b0 ∧ w1.cell? ⟨b, 1, none⟩ = some b1 ∧ w1.cell? ⟨b, 2, none⟩ = some b2 ∧ w1.cell? ⟨b, 3, none⟩ = some b3 := by
  obtain ⟨h1, h2, h3, h4, h5, h6, h7, h8, h9⟩ := h
  exact ⟨later_cell h1 ⟨w1, hb⟩, later_cell h2 ⟨w1, hb⟩, later_cell h3 ⟨w1, hb⟩, later_cell h4 ⟨w1, hb⟩, later_cell h5 ⟨w1, hb⟩, later_cell h6 ⟨w1, hb⟩, later_cell h7 ⟨w1, hb⟩, later_cell h8 ⟨w1, hb⟩, later_cell h9 ⟨w1, hb⟩⟩
theorem setfar {w : World} {r b i : Nat} {v v0 v1 v2 v3 : Value} (hn : r ≠ b) (h : w.cell? ⟨b, i, none⟩ = some v) : ((((w.setCell ⟨r, 0, none⟩ v0).setCell ⟨r, 1, none⟩ v1).setCell ⟨r, 2, none⟩ v2).setCell ⟨r, 3, none⟩ v3).cell? ⟨b, i, none⟩ = some v := by
  rw [World.cell?_setCell_far _ _ _ _ hn, World.cell?_setCell_far _ _ _ _ hn, World.cell?_setCell_far _ _ _ _ hn, World.cell?_setCell_far _ _ _ _ hn]; exact h
theorem kept9s {w0 : World} {a b c r : Nat} {F a0 a1 a2 a3 b0 b1 b2 b3 v0 v1 v2 v3 : Value} (h : w0.cell? ⟨c, 0, none⟩ = some F ∧ w0.cell? ⟨a, 0, none⟩ = some a0 ∧ w0.cell? ⟨a, 1, none⟩ = some a1 ∧ w0.cell? ⟨a, 2, none⟩ = some a2 ∧ w0.cell? ⟨a, 3, none⟩ = some a3 ∧ w0.cell? ⟨b, 0, none⟩ = some b0 ∧ w0.cell? ⟨b, 1, none⟩ = some b1 ∧ w0.cell? ⟨b, 2, none⟩ = some b2 ∧ w0.cell? ⟨b, 3, none⟩ = some b3) (ha : r ≠ a) (hb : r ≠ b) (hc : r ≠ c) : ((((w0.setCell ⟨r, 0, none⟩ v0).setCell ⟨r, 1, none⟩ v1).setCell ⟨r, 2, none⟩ v2).setCell ⟨r, 3, none⟩ v3).cell? ⟨c, 0, none⟩ = some F ∧ ((((w0.setCell ⟨r, 0, none⟩ v0).setCell ⟨r, 1, none⟩ v1).setCell ⟨r, 2, none⟩ v2).setCell ⟨r, 3, none⟩ v3).cell? ⟨a, 0, none⟩ = some a0 ∧ ((((w0.setCell ⟨r, 0, none⟩ v0).setCell ⟨r, 1, none⟩ v1).setCell ⟨r, 2, none⟩ v2).setCell ⟨r, 3, none⟩ v3).cell? ⟨a, 1, none⟩ = some a1 ∧ ((((w0.setCell ⟨r, 0, none⟩ v0).setCell ⟨r, 1, none⟩ v1).setCell ⟨r, 2, none⟩ v2).setCell ⟨r, 3, none⟩ v3).cell? ⟨a, 2, none⟩ = some a2 ∧ ((((w0.setCell ⟨r, 0, none⟩ v0).setCell ⟨r, 1, none⟩ v1).setCell ⟨r, 2, none⟩ v2).setCell ⟨r, 3, none⟩ v3).cell? ⟨a, 3, none⟩ = some a3 ∧ ((((w0.setCell ⟨r, 0, none⟩ v0).setCell ⟨r, 1, none⟩ v1).setCell ⟨r, 2, none⟩ v2).setCell ⟨r, 3, none⟩ v3).cell? ⟨b, 0, none⟩ = some b0 ∧ ((((w0.setCell ⟨r, 0, none⟩ v0).setCell ⟨r, 1, none⟩ v1).setCell ⟨r, 2, none⟩ v2).setCell ⟨r, 3, none⟩ v3).cell? ⟨b, 1, none⟩ = some b1 ∧ ((((w0.setCell ⟨r, 0, none⟩ v0).setCell ⟨r, 1, none⟩ v1).setCell ⟨r, 2, none⟩ v2).setCell ⟨r, 3, none⟩ v3).cell? ⟨b, 2, none⟩ = some b2 ∧ ((((w0.setCell ⟨r, 0, none⟩ v0).setCell ⟨r, 1, none⟩ v1).setCell ⟨r, 2, none⟩ v2).setCell ⟨r, 3, none⟩ v3).cell? ⟨b, 3, none⟩ = some b3 := by
  obtain ⟨h1, h2, h3, h4, h5, h6, h7, h8, h9⟩ := h
  exact ⟨setfar hc h1, setfar ha h2, setfar ha h3, setfar ha h4, setfar ha h5, setfar hb h6, setfar hb h7, setfar hb h8, setfar hb h9⟩
set_option maxRecDepth 100000 in
theorem test_unk (op : ByteArray) (F : Value) (H : Looks op F false) (k n k' n' : Int) (f f' : Nat) (s s' : ByteArray) (w : World) :
    Calls Tryz.prog 23 #[.string op, .agg #[.int .i64 k, .int .i64 n, .float .f64 f, .string s], .agg #[.int .i64 k', .int .i64 n', .float .f64 f', .string s']] w fun e w' => e = .returned (.tuple #[.agg #[.int .i64 0, .int .i64 0, .float .f64 0, .string ⟨#[]⟩], .int .i64 1]) ∧ Below w.heap.size w w' := by
  have hsf := run_store_float
  have HL := H.at w
  have HS := H.store
  clear H
  go_enter Tryz.func23, Tryz.ntmps23
  go_wp2_with fail
  refine (comps_any _).mono ?_; rintro e w' ⟨rfl, rfl⟩
  go_wp2_with fail
  exact ret_ve rfl rfl rfl rfl (null5 _ _ _ _ _ _ _ _ _) ⟨rfl, below_a5 _ _ _ _ _ _⟩
set_option maxRecDepth 100000 in
theorem test_ra (op : ByteArray) (F : Value) (H : Looks op F true) (k n k' n' : Int) (f f' : Nat) (s s' : ByteArray) (C1 : ∀ w, Calls Tryz.prog 16 #[.agg #[.int .i64 k, .int .i64 n, .float .f64 f, .string s]] w fun e w' => e = .returned (.bool false) ∧ Below w.heap.size w w') (w : World) :
    Calls Tryz.prog 23 #[.string op, .agg #[.int .i64 k, .int .i64 n, .float .f64 f, .string s], .agg #[.int .i64 k', .int .i64 n', .float .f64 f', .string s']] w fun e w' => e = .returned (.tuple #[.agg #[.int .i64 0, .int .i64 0, .float .f64 0, .string ⟨#[]⟩], .int .i64 1]) ∧ Below w.heap.size w w' := by
  have hsf := run_store_float
  have HL := H.at w
  have HS := H.store
  clear H
  go_enter Tryz.func23, Tryz.ntmps23
  go_wp2_with fail
  refine (comps_any _).mono ?_; rintro e w' ⟨rfl, rfl⟩
  go_wp2_with fail
  refine (C1 _).mono ?_; rintro e w1 ⟨rfl, hb1⟩
  have ch1 := hb1
  obtain ⟨hc1, hf1⟩ := bcell ch1
  have hz1 : w.heap.size + 1 + 1 + 1 + 1 < w1.heap.size := by have := ch1.size; simp only [size5] at this; omega
  go_wp2_with fail
  exact ret_ve rfl rfl rfl rfl (((null5 _ _ _ _ _ _ _ _ _).below ch1).set _ _ _ _) ⟨rfl, below_set4 (Below.chain (below_a5 _ _ _ _ _ _) ch1) (by omega) _ _ _ _⟩
set_option maxRecDepth 100000 in
theorem test_rb (op : ByteArray) (F : Value) (H : Looks op F true) (k n k' n' : Int) (f f' : Nat) (s s' : ByteArray) (C1 : ∀ w, Calls Tryz.prog 16 #[.agg #[.int .i64 k, .int .i64 n, .float .f64 f, .string s]] w fun e w' => e = .returned (.bool true) ∧ Below w.heap.size w w') (C2 : ∀ w, Calls Tryz.prog 16 #[.agg #[.int .i64 k', .int .i64 n', .float .f64 f', .string s']] w fun e w' => e = .returned (.bool false) ∧ Below w.heap.size w w') (w : World) :
    Calls Tryz.prog 23 #[.string op, .agg #[.int .i64 k, .int .i64 n, .float .f64 f, .string s], .agg #[.int .i64 k', .int .i64 n', .float .f64 f', .string s']] w fun e w' => e = .returned (.tuple #[.agg #[.int .i64 0, .int .i64 0, .float .f64 0, .string ⟨#[]⟩], .int .i64 1]) ∧ Below w.heap.size w w' := by
  have hsf := run_store_float
  have HL := H.at w
  have HS := H.store
  clear H
  go_enter Tryz.func23, Tryz.ntmps23
  go_wp2_with fail
  refine (comps_any _).mono ?_; rintro e w' ⟨rfl, rfl⟩
  go_wp2_with fail
  refine (C1 _).mono ?_; rintro e w1 ⟨rfl, hb1⟩
  have ch1 := hb1
  obtain ⟨hc1, hf1⟩ := bcell ch1
  have hz1 : w.heap.size + 1 + 1 + 1 + 1 < w1.heap.size := by have := ch1.size; simp only [size5] at this; omega
  go_wp2_with fail
  refine (C2 _).mono ?_; rintro e w2 ⟨rfl, hb2⟩
  have ch2 := Below.chain ch1 hb2
  obtain ⟨hc2, hf2⟩ := bcell ch2
  have hz2 : w.heap.size + 1 + 1 + 1 + 1 < w2.heap.size := by have := ch2.size; simp only [size5] at this; omega
  go_wp2_with fail
  exact ret_ve rfl rfl rfl rfl (((null5 _ _ _ _ _ _ _ _ _).below ch2).set _ _ _ _) ⟨rfl, below_set4 (Below.chain (below_a5 _ _ _ _ _ _) ch2) (by omega) _ _ _ _⟩
set_option maxRecDepth 100000 in
theorem test_na (op : ByteArray) (F : Value) (H : Looks op F true) (k n k' n' : Int) (f f' : Nat) (s s' : ByteArray) (C1 : ∀ w, Calls Tryz.prog 16 #[.agg #[.int .i64 k, .int .i64 n, .float .f64 f, .string s]] w fun e w' => e = .returned (.bool true) ∧ Below w.heap.size w w') (C2 : ∀ w, Calls Tryz.prog 16 #[.agg #[.int .i64 k', .int .i64 n', .float .f64 f', .string s']] w fun e w' => e = .returned (.bool true) ∧ Below w.heap.size w w') (h0 : (k == 0) = true) (w : World) :
    Calls Tryz.prog 23 #[.string op, .agg #[.int .i64 k, .int .i64 n, .float .f64 f, .string s], .agg #[.int .i64 k', .int .i64 n', .float .f64 f', .string s']] w fun e w' => e = .returned (.tuple #[.agg #[.int .i64 0, .int .i64 0, .float .f64 0, .string ⟨#[]⟩], .int .i64 0]) ∧ Below w.heap.size w w' := by
  have hsf := run_store_float
  have HL := H.at w
  have HS := H.store
  clear H
  go_enter Tryz.func23, Tryz.ntmps23
  go_wp2_with fail
  refine (comps_any _).mono ?_; rintro e w' ⟨rfl, rfl⟩
  go_wp2_with fail
  refine (C1 _).mono ?_; rintro e w1 ⟨rfl, hb1⟩
  have ch1 := hb1
  obtain ⟨hc1, hf1⟩ := bcell ch1
  have hz1 : w.heap.size + 1 + 1 + 1 + 1 < w1.heap.size := by have := ch1.size; simp only [size5] at this; omega
  go_wp2_with fail
  refine (C2 _).mono ?_; rintro e w2 ⟨rfl, hb2⟩
  have ch2 := Below.chain ch1 hb2
  obtain ⟨hc2, hf2⟩ := bcell ch2
  have hz2 : w.heap.size + 1 + 1 + 1 + 1 < w2.heap.size := by have := ch2.size; simp only [size5] at this; omega
  go_wp2_with fail
  exact ret_ve rfl rfl rfl rfl (((null5 _ _ _ _ _ _ _ _ _).below ch2).set _ _ _ _) ⟨rfl, below_set4 (Below.chain (below_a5 _ _ _ _ _ _) ch2) (by omega) _ _ _ _⟩
set_option maxRecDepth 100000 in
theorem test_nb (op : ByteArray) (F : Value) (H : Looks op F true) (k n k' n' : Int) (f f' : Nat) (s s' : ByteArray) (C1 : ∀ w, Calls Tryz.prog 16 #[.agg #[.int .i64 k, .int .i64 n, .float .f64 f, .string s]] w fun e w' => e = .returned (.bool true) ∧ Below w.heap.size w w') (C2 : ∀ w, Calls Tryz.prog 16 #[.agg #[.int .i64 k', .int .i64 n', .float .f64 f', .string s']] w fun e w' => e = .returned (.bool true) ∧ Below w.heap.size w w') (h0 : (k == 0) = false) (h1 : (k' == 0) = true) (w : World) :
    Calls Tryz.prog 23 #[.string op, .agg #[.int .i64 k, .int .i64 n, .float .f64 f, .string s], .agg #[.int .i64 k', .int .i64 n', .float .f64 f', .string s']] w fun e w' => e = .returned (.tuple #[.agg #[.int .i64 0, .int .i64 0, .float .f64 0, .string ⟨#[]⟩], .int .i64 0]) ∧ Below w.heap.size w w' := by
  have hsf := run_store_float
  have HL := H.at w
  have HS := H.store
  clear H
  go_enter Tryz.func23, Tryz.ntmps23
  go_wp2_with fail
  refine (comps_any _).mono ?_; rintro e w' ⟨rfl, rfl⟩
  go_wp2_with fail
  refine (C1 _).mono ?_; rintro e w1 ⟨rfl, hb1⟩
  have ch1 := hb1
  obtain ⟨hc1, hf1⟩ := bcell ch1
  have hz1 : w.heap.size + 1 + 1 + 1 + 1 < w1.heap.size := by have := ch1.size; simp only [size5] at this; omega
  go_wp2_with fail
  refine (C2 _).mono ?_; rintro e w2 ⟨rfl, hb2⟩
  have ch2 := Below.chain ch1 hb2
  obtain ⟨hc2, hf2⟩ := bcell ch2
  have hz2 : w.heap.size + 1 + 1 + 1 + 1 < w2.heap.size := by have := ch2.size; simp only [size5] at this; omega
  go_wp2_with fail
  exact ret_ve rfl rfl rfl rfl (((null5 _ _ _ _ _ _ _ _ _).below ch2).set _ _ _ _) ⟨rfl, below_set4 (Below.chain (below_a5 _ _ _ _ _ _) ch2) (by omega) _ _ _ _⟩
set_option maxRecDepth 100000 in
theorem test_ta (op : ByteArray) (F : Value) (H : Looks op F true) (k n k' n' : Int) (f f' : Nat) (s s' : ByteArray) (C1 : ∀ w, Calls Tryz.prog 16 #[.agg #[.int .i64 k, .int .i64 n, .float .f64 f, .string s]] w fun e w' => e = .returned (.bool true) ∧ Below w.heap.size w w') (C2 : ∀ w, Calls Tryz.prog 16 #[.agg #[.int .i64 k', .int .i64 n', .float .f64 f', .string s']] w fun e w' => e = .returned (.bool true) ∧ Below w.heap.size w w') (h0 : (k == 0) = false) (h1 : (k' == 0) = false) (h2 : (k != k') = true) (C3 : ∀ w, Calls Tryz.prog 50 #[.agg #[.int .i64 k, .int .i64 n, .float .f64 f, .string s]] w fun e w' => e = .returned (.bool false) ∧ Below w.heap.size w w') (w : World) :
    Calls Tryz.prog 23 #[.string op, .agg #[.int .i64 k, .int .i64 n, .float .f64 f, .string s], .agg #[.int .i64 k', .int .i64 n', .float .f64 f', .string s']] w fun e w' => e = .returned (.tuple #[.agg #[.int .i64 0, .int .i64 0, .float .f64 0, .string ⟨#[]⟩], .int .i64 4]) ∧ Below w.heap.size w w' := by
  have hsf := run_store_float
  have HL := H.at w
  have HS := H.store
  clear H
  go_enter Tryz.func23, Tryz.ntmps23
  go_wp2_with fail
  refine (comps_any _).mono ?_; rintro e w' ⟨rfl, rfl⟩
  go_wp2_with fail
  refine (C1 _).mono ?_; rintro e w1 ⟨rfl, hb1⟩
  have ch1 := hb1
  obtain ⟨hc1, hf1⟩ := bcell ch1
  have hz1 : w.heap.size + 1 + 1 + 1 + 1 < w1.heap.size := by have := ch1.size; simp only [size5] at this; omega
  go_wp2_with fail
  refine (C2 _).mono ?_; rintro e w2 ⟨rfl, hb2⟩
  have ch2 := Below.chain ch1 hb2
  obtain ⟨hc2, hf2⟩ := bcell ch2
  have hz2 : w.heap.size + 1 + 1 + 1 + 1 < w2.heap.size := by have := ch2.size; simp only [size5] at this; omega
  go_wp2_with fail
  refine (C3 _).mono ?_; rintro e w3 ⟨rfl, hb3⟩
  have ch3 := Below.chain ch2 hb3
  obtain ⟨hc3, hf3⟩ := bcell ch3
  have hz3 : w.heap.size + 1 + 1 + 1 + 1 < w3.heap.size := by have := ch3.size; simp only [size5] at this; omega
  go_wp2_with fail
  exact ret_ve rfl rfl rfl rfl (((null5 _ _ _ _ _ _ _ _ _).below ch3).set _ _ _ _) ⟨rfl, below_set4 (Below.chain (below_a5 _ _ _ _ _ _) ch3) (by omega) _ _ _ _⟩
set_option maxRecDepth 100000 in
theorem test_tb (op : ByteArray) (F : Value) (H : Looks op F true) (k n k' n' : Int) (f f' : Nat) (s s' : ByteArray) (C1 : ∀ w, Calls Tryz.prog 16 #[.agg #[.int .i64 k, .int .i64 n, .float .f64 f, .string s]] w fun e w' => e = .returned (.bool true) ∧ Below w.heap.size w w') (C2 : ∀ w, Calls Tryz.prog 16 #[.agg #[.int .i64 k', .int .i64 n', .float .f64 f', .string s']] w fun e w' => e = .returned (.bool true) ∧ Below w.heap.size w w') (h0 : (k == 0) = false) (h1 : (k' == 0) = false) (h2 : (k != k') = true) (C3 : ∀ w, Calls Tryz.prog 50 #[.agg #[.int .i64 k, .int .i64 n, .float .f64 f, .string s]] w fun e w' => e = .returned (.bool true) ∧ Below w.heap.size w w') (C4 : ∀ w, Calls Tryz.prog 50 #[.agg #[.int .i64 k', .int .i64 n', .float .f64 f', .string s']] w fun e w' => e = .returned (.bool false) ∧ Below w.heap.size w w') (w : World) :
    Calls Tryz.prog 23 #[.string op, .agg #[.int .i64 k, .int .i64 n, .float .f64 f, .string s], .agg #[.int .i64 k', .int .i64 n', .float .f64 f', .string s']] w fun e w' => e = .returned (.tuple #[.agg #[.int .i64 0, .int .i64 0, .float .f64 0, .string ⟨#[]⟩], .int .i64 4]) ∧ Below w.heap.size w w' := by
  have hsf := run_store_float
  have HL := H.at w
  have HS := H.store
  clear H
  go_enter Tryz.func23, Tryz.ntmps23
  go_wp2_with fail
  refine (comps_any _).mono ?_; rintro e w' ⟨rfl, rfl⟩
  go_wp2_with fail
  refine (C1 _).mono ?_; rintro e w1 ⟨rfl, hb1⟩
  have ch1 := hb1
  obtain ⟨hc1, hf1⟩ := bcell ch1
  have hz1 : w.heap.size + 1 + 1 + 1 + 1 < w1.heap.size := by have := ch1.size; simp only [size5] at this; omega
  go_wp2_with fail
  refine (C2 _).mono ?_; rintro e w2 ⟨rfl, hb2⟩
  have ch2 := Below.chain ch1 hb2
  obtain ⟨hc2, hf2⟩ := bcell ch2
  have hz2 : w.heap.size + 1 + 1 + 1 + 1 < w2.heap.size := by have := ch2.size; simp only [size5] at this; omega
  go_wp2_with fail
  refine (C3 _).mono ?_; rintro e w3 ⟨rfl, hb3⟩
  have ch3 := Below.chain ch2 hb3
  obtain ⟨hc3, hf3⟩ := bcell ch3
  have hz3 : w.heap.size + 1 + 1 + 1 + 1 < w3.heap.size := by have := ch3.size; simp only [size5] at this; omega
  go_wp2_with fail
  refine (C4 _).mono ?_; rintro e w4 ⟨rfl, hb4⟩
  have ch4 := Below.chain ch3 hb4
  obtain ⟨hc4, hf4⟩ := bcell ch4
  have hz4 : w.heap.size + 1 + 1 + 1 + 1 < w4.heap.size := by have := ch4.size; simp only [size5] at this; omega
  go_wp2_with fail
  exact ret_ve rfl rfl rfl rfl (((null5 _ _ _ _ _ _ _ _ _).below ch4).set _ _ _ _) ⟨rfl, below_set4 (Below.chain (below_a5 _ _ _ _ _ _) ch4) (by omega) _ _ _ _⟩
set_option maxRecDepth 100000 in
theorem test_fe (op : ByteArray) (g : Nat) (H : Looks op (.func (.func g) #[] #[]) true) (k n k' n' : Int) (f f' : Nat) (s s' : ByteArray) (C1 : ∀ w, Calls Tryz.prog 16 #[.agg #[.int .i64 k, .int .i64 n, .float .f64 f, .string s]] w fun e w' => e = .returned (.bool true) ∧ Below w.heap.size w w') (C2 : ∀ w, Calls Tryz.prog 16 #[.agg #[.int .i64 k', .int .i64 n', .float .f64 f', .string s']] w fun e w' => e = .returned (.bool true) ∧ Below w.heap.size w w') (h0 : (k == 0) = false) (h1 : (k' == 0) = false) (h2 : (k != k') = false) (HG : ∀ (x : Int) (w : World), (callFunc g #[.int .i64 x]).run Tryz.prog w = .ok (.enter g #[.int .i64 x]) w) (o : Int) (B : Bool) (C5 : ∀ w, Calls Tryz.prog 51 #[.agg #[.int .i64 k, .int .i64 n, .float .f64 f, .string s], .agg #[.int .i64 k', .int .i64 n', .float .f64 f', .string s']] w fun e w' => e = .returned (.int .i64 o) ∧ Below w.heap.size w w') (C6 : ∀ w, Calls Tryz.prog g #[.int .i64 o] w fun e w' => e = .returned (.bool B) ∧ w = w') (w : World) :
    Calls Tryz.prog 23 #[.string op, .agg #[.int .i64 k, .int .i64 n, .float .f64 f, .string s], .agg #[.int .i64 k', .int .i64 n', .float .f64 f', .string s']] w fun e w' => e = .returned (.tuple #[.agg #[.int .i64 1, .int .i64 (b01 B), .float .f64 0, .string ⟨#[]⟩], .int .i64 0]) ∧ Below w.heap.size w w' := by
  have hsf := run_store_float
  have HL := H.at w
  have HS := H.store
  clear H
  go_enter Tryz.func23, Tryz.ntmps23
  go_wp2_with fail
  refine (comps_any _).mono ?_; rintro e w' ⟨rfl, rfl⟩
  go_wp2_with fail
  refine (C1 _).mono ?_; rintro e w1 ⟨rfl, hb1⟩
  have ch1 := hb1
  obtain ⟨hc1, hf1⟩ := bcell ch1
  have hz1 : w.heap.size + 1 + 1 + 1 + 1 < w1.heap.size := by have := ch1.size; simp only [size5] at this; omega
  go_wp2_with fail
  refine (C2 _).mono ?_; rintro e w2 ⟨rfl, hb2⟩
  have ch2 := Below.chain ch1 hb2
  obtain ⟨hc2, hf2⟩ := bcell ch2
  have hz2 : w.heap.size + 1 + 1 + 1 + 1 < w2.heap.size := by have := ch2.size; simp only [size5] at this; omega
  go_wp2_with fail
  have hS : w2.cell? ⟨w.heap.size + 1 + 1 + 1 + 1, 0, none⟩ = some (.func (.func g) #[] #[]) ∧ w2.cell? ⟨w.heap.size, 0, none⟩ = some (.int .i64 k) ∧ w2.cell? ⟨w.heap.size, 1, none⟩ = some (.int .i64 n) ∧ w2.cell? ⟨w.heap.size, 2, none⟩ = some (.float .f64 f) ∧ w2.cell? ⟨w.heap.size, 3, none⟩ = some (.string s) ∧ w2.cell? ⟨w.heap.size + 1, 0, none⟩ = some (.int .i64 k') ∧ w2.cell? ⟨w.heap.size + 1, 1, none⟩ = some (.int .i64 n') ∧ w2.cell? ⟨w.heap.size + 1, 2, none⟩ = some (.float .f64 f') ∧ w2.cell? ⟨w.heap.size + 1, 3, none⟩ = some (.string s') ∧ w2.cell? ⟨w.heap.size + 1 + 1, 0, none⟩ = some (.int .i64 0) ∧ w2.cell? ⟨w.heap.size + 1 + 1, 1, none⟩ = some (.int .i64 0) ∧ w2.cell? ⟨w.heap.size + 1 + 1, 2, none⟩ = some (.float .f64 0) ∧ w2.cell? ⟨w.heap.size + 1 + 1, 3, none⟩ = some (.string ⟨#[]⟩) ∧ w2.frozen? ⟨w.heap.size + 1 + 1, 0, none⟩ = false ∧ w2.frozen? ⟨w.heap.size + 1 + 1, 1, none⟩ = false ∧ w2.frozen? ⟨w.heap.size + 1 + 1, 2, none⟩ = false ∧ w2.frozen? ⟨w.heap.size + 1 + 1, 3, none⟩ = false := by
    refine ⟨?_, ?_, ?_, ?_, ?_, ?_, ?_, ?_, ?_, ?_, ?_, ?_, ?_, ?_, ?_, ?_, ?_⟩ <;> go_simp
  have hN : w2.cell? ⟨w.heap.size + 1 + 1 + 1 + 1, 0, none⟩ = some (.func (.func g) #[] #[]) ∧ w2.cell? ⟨w.heap.size, 0, none⟩ = some (.int .i64 k) ∧ w2.cell? ⟨w.heap.size, 1, none⟩ = some (.int .i64 n) ∧ w2.cell? ⟨w.heap.size, 2, none⟩ = some (.float .f64 f) ∧ w2.cell? ⟨w.heap.size, 3, none⟩ = some (.string s) ∧ w2.cell? ⟨w.heap.size + 1, 0, none⟩ = some (.int .i64 k') ∧ w2.cell? ⟨w.heap.size + 1, 1, none⟩ = some (.int .i64 n') ∧ w2.cell? ⟨w.heap.size + 1, 2, none⟩ = some (.float .f64 f') ∧ w2.cell? ⟨w.heap.size + 1, 3, none⟩ = some (.string s') := ⟨hS.1, hS.2.1, hS.2.2.1, hS.2.2.2.1, hS.2.2.2.2.1, hS.2.2.2.2.2.1, hS.2.2.2.2.2.2.1, hS.2.2.2.2.2.2.2.1, hS.2.2.2.2.2.2.2.2.1⟩
  have HS' := Lib.hid hS
  have HN := Lib.hid hN
  have C7 := truth_any B
  clear hc1 hf1 hc2 hf2 hS hN 
  go_region_held3 (fun W => W.cell? ⟨w.heap.size + 1 + 1 + 1 + 1, 0, none⟩ = some (.func (.func g) #[] #[]) ∧ W.cell? ⟨w.heap.size, 0, none⟩ = some (.int .i64 k) ∧ W.cell? ⟨w.heap.size, 1, none⟩ = some (.int .i64 n) ∧ W.cell? ⟨w.heap.size, 2, none⟩ = some (.float .f64 f) ∧ W.cell? ⟨w.heap.size, 3, none⟩ = some (.string s) ∧ W.cell? ⟨w.heap.size + 1, 0, none⟩ = some (.int .i64 k') ∧ W.cell? ⟨w.heap.size + 1, 1, none⟩ = some (.int .i64 n') ∧ W.cell? ⟨w.heap.size + 1, 2, none⟩ = some (.float .f64 f') ∧ W.cell? ⟨w.heap.size + 1, 3, none⟩ = some (.string s')) (first | exact kept9 HN.out (Below.refl _ _).drew | exact kept9 HN.out (Below.chain (Below.refl _ _).drew hba) | exact kept9 HN.out hch | exact kept9s (kept9 HN.out hch) (by omega) (by omega) (by omega))
    (first | ((with_reducible refine (C5 _).mono ?_); rintro e wa ⟨rfl, hba⟩) | ((with_reducible refine (C6 _).mono ?_); rintro e wb ⟨rfl, rfl⟩) | ((with_reducible refine (C7 _).mono ?_); rintro e wt ⟨rfl, hbt⟩; have hch := Below.chain (Below.chain (Below.refl _ _).drew hba) hbt; have hR := (keptS HS'.out hch).2.2.2.2.2.2.2.2.2; obtain ⟨r0, r1, r2, r3, f0, f1, f2, f3⟩ := hR))
  all_goals
    go_wp2_with fail
    exact ret_ve rfl rfl rfl rfl (Lies.set ⟨r0, r1, r2, r3⟩ _ _ _ _) ⟨rfl, below_set4 (Below.chain (Below.chain (below_a5 _ _ _ _ _ _) ch2) hch) (by omega) _ _ _ _⟩
set_option maxRecDepth 100000 in
theorem test_fn (op : ByteArray) (g : Nat) (H : Looks op (.func (.func g) #[] #[]) true) (k n k' n' : Int) (f f' : Nat) (s s' : ByteArray) (C1 : ∀ w, Calls Tryz.prog 16 #[.agg #[.int .i64 k, .int .i64 n, .float .f64 f, .string s]] w fun e w' => e = .returned (.bool true) ∧ Below w.heap.size w w') (C2 : ∀ w, Calls Tryz.prog 16 #[.agg #[.int .i64 k', .int .i64 n', .float .f64 f', .string s']] w fun e w' => e = .returned (.bool true) ∧ Below w.heap.size w w') (h0 : (k == 0) = false) (h1 : (k' == 0) = false) (h2 : (k != k') = true) (C3 : ∀ w, Calls Tryz.prog 50 #[.agg #[.int .i64 k, .int .i64 n, .float .f64 f, .string s]] w fun e w' => e = .returned (.bool true) ∧ Below w.heap.size w w') (C4 : ∀ w, Calls Tryz.prog 50 #[.agg #[.int .i64 k', .int .i64 n', .float .f64 f', .string s']] w fun e w' => e = .returned (.bool true) ∧ Below w.heap.size w w') (HG : ∀ (x : Int) (w : World), (callFunc g #[.int .i64 x]).run Tryz.prog w = .ok (.enter g #[.int .i64 x]) w) (o : Int) (B : Bool) (C5 : ∀ w, Calls Tryz.prog 51 #[.agg #[.int .i64 k, .int .i64 n, .float .f64 f, .string s], .agg #[.int .i64 k', .int .i64 n', .float .f64 f', .string s']] w fun e w' => e = .returned (.int .i64 o) ∧ Below w.heap.size w w') (C6 : ∀ w, Calls Tryz.prog g #[.int .i64 o] w fun e w' => e = .returned (.bool B) ∧ w = w') (w : World) :
    Calls Tryz.prog 23 #[.string op, .agg #[.int .i64 k, .int .i64 n, .float .f64 f, .string s], .agg #[.int .i64 k', .int .i64 n', .float .f64 f', .string s']] w fun e w' => e = .returned (.tuple #[.agg #[.int .i64 1, .int .i64 (b01 B), .float .f64 0, .string ⟨#[]⟩], .int .i64 0]) ∧ Below w.heap.size w w' := by
  have hsf := run_store_float
  have HL := H.at w
  have HS := H.store
  clear H
  go_enter Tryz.func23, Tryz.ntmps23
  go_wp2_with fail
  refine (comps_any _).mono ?_; rintro e w' ⟨rfl, rfl⟩
  go_wp2_with fail
  refine (C1 _).mono ?_; rintro e w1 ⟨rfl, hb1⟩
  have ch1 := hb1
  obtain ⟨hc1, hf1⟩ := bcell ch1
  have hz1 : w.heap.size + 1 + 1 + 1 + 1 < w1.heap.size := by have := ch1.size; simp only [size5] at this; omega
  go_wp2_with fail
  refine (C2 _).mono ?_; rintro e w2 ⟨rfl, hb2⟩
  have ch2 := Below.chain ch1 hb2
  obtain ⟨hc2, hf2⟩ := bcell ch2
  have hz2 : w.heap.size + 1 + 1 + 1 + 1 < w2.heap.size := by have := ch2.size; simp only [size5] at this; omega
  go_wp2_with fail
  refine (C3 _).mono ?_; rintro e w3 ⟨rfl, hb3⟩
  have ch3 := Below.chain ch2 hb3
  obtain ⟨hc3, hf3⟩ := bcell ch3
  have hz3 : w.heap.size + 1 + 1 + 1 + 1 < w3.heap.size := by have := ch3.size; simp only [size5] at this; omega
  go_wp2_with fail
  refine (C4 _).mono ?_; rintro e w4 ⟨rfl, hb4⟩
  have ch4 := Below.chain ch3 hb4
  obtain ⟨hc4, hf4⟩ := bcell ch4
  have hz4 : w.heap.size + 1 + 1 + 1 + 1 < w4.heap.size := by have := ch4.size; simp only [size5] at this; omega
  go_wp2_with fail
  have hS : w4.cell? ⟨w.heap.size + 1 + 1 + 1 + 1, 0, none⟩ = some (.func (.func g) #[] #[]) ∧ w4.cell? ⟨w.heap.size, 0, none⟩ = some (.int .i64 k) ∧ w4.cell? ⟨w.heap.size, 1, none⟩ = some (.int .i64 n) ∧ w4.cell? ⟨w.heap.size, 2, none⟩ = some (.float .f64 f) ∧ w4.cell? ⟨w.heap.size, 3, none⟩ = some (.string s) ∧ w4.cell? ⟨w.heap.size + 1, 0, none⟩ = some (.int .i64 k') ∧ w4.cell? ⟨w.heap.size + 1, 1, none⟩ = some (.int .i64 n') ∧ w4.cell? ⟨w.heap.size + 1, 2, none⟩ = some (.float .f64 f') ∧ w4.cell? ⟨w.heap.size + 1, 3, none⟩ = some (.string s') ∧ w4.cell? ⟨w.heap.size + 1 + 1, 0, none⟩ = some (.int .i64 0) ∧ w4.cell? ⟨w.heap.size + 1 + 1, 1, none⟩ = some (.int .i64 0) ∧ w4.cell? ⟨w.heap.size + 1 + 1, 2, none⟩ = some (.float .f64 0) ∧ w4.cell? ⟨w.heap.size + 1 + 1, 3, none⟩ = some (.string ⟨#[]⟩) ∧ w4.frozen? ⟨w.heap.size + 1 + 1, 0, none⟩ = false ∧ w4.frozen? ⟨w.heap.size + 1 + 1, 1, none⟩ = false ∧ w4.frozen? ⟨w.heap.size + 1 + 1, 2, none⟩ = false ∧ w4.frozen? ⟨w.heap.size + 1 + 1, 3, none⟩ = false := by
    refine ⟨?_, ?_, ?_, ?_, ?_, ?_, ?_, ?_, ?_, ?_, ?_, ?_, ?_, ?_, ?_, ?_, ?_⟩ <;> go_simp
  have hN : w4.cell? ⟨w.heap.size + 1 + 1 + 1 + 1, 0, none⟩ = some (.func (.func g) #[] #[]) ∧ w4.cell? ⟨w.heap.size, 0, none⟩ = some (.int .i64 k) ∧ w4.cell? ⟨w.heap.size, 1, none⟩ = some (.int .i64 n) ∧ w4.cell? ⟨w.heap.size, 2, none⟩ = some (.float .f64 f) ∧ w4.cell? ⟨w.heap.size, 3, none⟩ = some (.string s) ∧ w4.cell? ⟨w.heap.size + 1, 0, none⟩ = some (.int .i64 k') ∧ w4.cell? ⟨w.heap.size + 1, 1, none⟩ = some (.int .i64 n') ∧ w4.cell? ⟨w.heap.size + 1, 2, none⟩ = some (.float .f64 f') ∧ w4.cell? ⟨w.heap.size + 1, 3, none⟩ = some (.string s') := ⟨hS.1, hS.2.1, hS.2.2.1, hS.2.2.2.1, hS.2.2.2.2.1, hS.2.2.2.2.2.1, hS.2.2.2.2.2.2.1, hS.2.2.2.2.2.2.2.1, hS.2.2.2.2.2.2.2.2.1⟩
  have HS' := Lib.hid hS
  have HN := Lib.hid hN
  have C7 := truth_any B
  clear hc1 hf1 hc2 hf2 hS hN hc3 hf3 hc4 hf4
  go_region_held3 (fun W => W.cell? ⟨w.heap.size + 1 + 1 + 1 + 1, 0, none⟩ = some (.func (.func g) #[] #[]) ∧ W.cell? ⟨w.heap.size, 0, none⟩ = some (.int .i64 k) ∧ W.cell? ⟨w.heap.size, 1, none⟩ = some (.int .i64 n) ∧ W.cell? ⟨w.heap.size, 2, none⟩ = some (.float .f64 f) ∧ W.cell? ⟨w.heap.size, 3, none⟩ = some (.string s) ∧ W.cell? ⟨w.heap.size + 1, 0, none⟩ = some (.int .i64 k') ∧ W.cell? ⟨w.heap.size + 1, 1, none⟩ = some (.int .i64 n') ∧ W.cell? ⟨w.heap.size + 1, 2, none⟩ = some (.float .f64 f') ∧ W.cell? ⟨w.heap.size + 1, 3, none⟩ = some (.string s')) (first | exact kept9 HN.out (Below.refl _ _).drew | exact kept9 HN.out (Below.chain (Below.refl _ _).drew hba) | exact kept9 HN.out hch | exact kept9s (kept9 HN.out hch) (by omega) (by omega) (by omega))
    (first | ((with_reducible refine (C5 _).mono ?_); rintro e wa ⟨rfl, hba⟩) | ((with_reducible refine (C6 _).mono ?_); rintro e wb ⟨rfl, rfl⟩) | ((with_reducible refine (C7 _).mono ?_); rintro e wt ⟨rfl, hbt⟩; have hch := Below.chain (Below.chain (Below.refl _ _).drew hba) hbt; have hR := (keptS HS'.out hch).2.2.2.2.2.2.2.2.2; obtain ⟨r0, r1, r2, r3, f0, f1, f2, f3⟩ := hR))
  all_goals
    go_wp2_with fail
    exact ret_ve rfl rfl rfl rfl (Lies.set ⟨r0, r1, r2, r3⟩ _ _ _ _) ⟨rfl, below_set4 (Below.chain (Below.chain (below_a5 _ _ _ _ _ _) ch4) hch) (by omega) _ _ _ _⟩
theorem cf1 (x : Int) (w : World) : (callFunc 80 #[.int .i64 x]).run Tryz.prog w = .ok (.enter 80 #[.int .i64 x]) w := by
  go_simp
theorem cf2 (x : Int) (w : World) : (callFunc 81 #[.int .i64 x]).run Tryz.prog w = .ok (.enter 81 #[.int .i64 x]) w := by
  go_simp
theorem cf3 (x : Int) (w : World) : (callFunc 82 #[.int .i64 x]).run Tryz.prog w = .ok (.enter 82 #[.int .i64 x]) w := by
  go_simp
theorem cf4 (x : Int) (w : World) : (callFunc 83 #[.int .i64 x]).run Tryz.prog w = .ok (.enter 83 #[.int .i64 x]) w := by
  go_simp
theorem cf5 (x : Int) (w : World) : (callFunc 84 #[.int .i64 x]).run Tryz.prog w = .ok (.enter 84 #[.int .i64 x]) w := by
  go_simp
theorem cf6 (x : Int) (w : World) : (callFunc 85 #[.int .i64 x]).run Tryz.prog w = .ok (.enter 85 #[.int .i64 x]) w := by
  go_simp
end Go.Proofs.YtnjlcdemfdokoaaGreatDoor
