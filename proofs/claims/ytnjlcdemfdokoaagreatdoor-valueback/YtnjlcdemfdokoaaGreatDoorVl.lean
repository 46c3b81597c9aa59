import Derived.Test.YtnjlcdemfdokoaaGreatDoorVk
namespace Go.Proofs.YtnjlcdemfdokoaaGreatDoor
open Go Go.RowKit
/-- which of the three signs; 0: none -/
def opO (s : ByteArray) : Nat := if s.toList = [43] then 1 else if s.toList = [45] then 2 else if s.toList = [42] then 3 else 0
def iop (i : Nat) (a b : Int) : Int := if i = 1 then a + b else if i = 2 then a - b else a * b
def fop (i : Nat) : BinOp := if i = 1 then .add else if i = 2 then .sub else .mul
/-- what Reckon tells: kind, number, float, error -/
def reckR (op : ByteArray) (k n : Int) (f : Nat) (s : ByteArray) (k' n' : Int) (f' : Nat) (s' : ByteArray) : Int × Int × Nat × Int :=
  if opO op = 0 ∨ rightB k n f s = false ∨ rightB k' n' f' s' = false then (0, 0, 0, 1) else if k = 0 ∨ k' = 0 then (0, 0, 0, 0) else if (numB k && numB k') = false then (0, 0, 0, 4)
  else if k = 3 ∨ k' = 3 then (3, 0, arC (fop (opO op)) (asF k n f) (asF k' n' f'), 0) else if roomB (iop (opO op) n n') = true then (2, iop (opO op) n n', 0, 0) else (0, 0, 0, 7)
structure SignO (op : ByteArray) (i g1 g2 : Nat) : Prop where
  ix : opO op = i
  look : LooksO op (.func (.func g1) #[] #[]) (.func (.func g2) #[] #[]) true
  call1 : ∀ (x y : Int) (w : World), (callFunc g1 #[.int .i64 x, .int .i64 y]).run Tryz.prog w = .ok (.enter g1 #[.int .i64 x, .int .i64 y]) w
  call2 : ∀ (x y : Nat) (w : World), (callFunc g2 #[.float .f64 x, .float .f64 y]).run Tryz.prog w = .ok (.enter g2 #[.float .f64 x, .float .f64 y]) w
  ints : ∀ (a b : Int), -9223372036854775808 ≤ a → a ≤ 9223372036854775807 → -9223372036854775808 ≤ b → b ≤ 9223372036854775807 → ∀ w : World, Calls Tryz.prog g1 #[.int .i64 a, .int .i64 b] w (IntRet (iop i a b) w)
  floats : ∀ (x y : Nat) (w : World), Calls Tryz.prog g2 #[.float .f64 x, .float .f64 y] w (FloatRet (arC (fop i) x y) w)
theorem signO1 : SignO ⟨#[43]⟩ 1 89 90 := ⟨by unfold opO; rw [Lib.toList_data]; rfl, ⟨⟨rfl, rfl⟩, fun b w h => look_o1 b w h⟩, fun x y w => by go_simp, fun x y w => by go_simp, fun a b a1 a2 b1 b2 w => addi_any a b a1 a2 b1 b2 w, addf_any⟩
theorem signO2 : SignO ⟨#[45]⟩ 2 91 92 := ⟨by unfold opO; rw [Lib.toList_data]; rfl, ⟨⟨rfl, rfl⟩, fun b w h => look_o2 b w h⟩, fun x y w => by go_simp, fun x y w => by go_simp, fun a b a1 a2 b1 b2 w => subi_any a b a1 a2 b1 b2 w, subf_any⟩
theorem signO3 : SignO ⟨#[42]⟩ 3 93 94 := ⟨by unfold opO; rw [Lib.toList_data]; rfl, ⟨⟨rfl, rfl⟩, fun b w h => look_o3 b w h⟩, fun x y w => by go_simp, fun x y w => by go_simp, fun a b a1 a2 b1 b2 w => times_any a b a1 a2 b1 b2 w, mulf_any⟩
theorem looksO0 {op : ByteArray} (h : opO op = 0) : LooksO op .nilFunc .nilFunc false := by
  have h1 : op.toList ≠ [43] := fun e => by simp [opO, e] at h
  have h2 : op.toList ≠ [45] := fun e => by simp [opO, e] at h
  have h3 : op.toList ≠ [42] := fun e => by simp [opO, e] at h
  exact ⟨⟨rfl, rfl⟩, fun b w h => look_o0 b w h op (ne_of h1) (ne_of h2) (ne_of h3)⟩
theorem signO_of (op : ByteArray) (h : opO op ≠ 0) : ∃ i g1 g2, SignO op i g1 g2 := by
  unfold opO at h
  by_cases h1 : op.toList = [43]
  · rw [str_of h1]; exact ⟨_, _, _, signO1⟩
  by_cases h2 : op.toList = [45]
  · rw [str_of h2]; exact ⟨_, _, _, signO2⟩
  by_cases h3 : op.toList = [42]
  · rw [str_of h3]; exact ⟨_, _, _, signO3⟩
  · rw [if_neg h1, if_neg h2, if_neg h3] at h
    exact absurd rfl h
theorem ret_vf' {k n k' n' e e' : Int} {g g' : Nat} (h : (k, n, g, e) = (k', n', g', e')) {w w' : World} {x : Ending} (hx : x = .returned (.tuple #[.agg #[.int .i64 k, .int .i64 n, .float .f64 g, .string ⟨#[]⟩], .int .i64 e]) ∧ Below w.heap.size w w') :
    x = .returned (.tuple #[.agg #[.int .i64 k', .int .i64 n', .float .f64 g', .string ⟨#[]⟩], .int .i64 e']) ∧ Below w.heap.size w w' := by
  simp only [Prod.mk.injEq] at h
  obtain ⟨rfl, rfl, rfl, rfl⟩ := h
  exact hx
theorem reck_any (op : ByteArray) (k n k' n' : Int) (f f' : Nat) (s s' : ByteArray) (n1 : -9223372036854775808 ≤ n) (n2 : n ≤ 9223372036854775807) (n1' : -9223372036854775808 ≤ n') (n2' : n' ≤ 9223372036854775807) (hf : f < 18446744073709551616) (hf' : f' < 18446744073709551616) (w : World) :
    Calls Tryz.prog 25 #[.string op, .agg #[.int .i64 k, .int .i64 n, .float .f64 f, .string s], .agg #[.int .i64 k', .int .i64 n', .float .f64 f', .string s']] w fun e w' => e = .returned (.tuple #[.agg #[.int .i64 (reckR op k n f s k' n' f' s').1, .int .i64 (reckR op k n f s k' n' f' s').2.1, .float .f64 (reckR op k n f s k' n' f' s').2.2.1, .string ⟨#[]⟩], .int .i64 (reckR op k n f s k' n' f' s').2.2.2]) ∧ Below w.heap.size w w' := by
  by_cases h0 : opO op = 0
  · refine (reck_unk op _ _ (looksO0 h0) k n k' n' f f' s s' w).mono fun e w' h => ret_vf' ?_ h
    simp [reckR, h0]
  obtain ⟨i, g1, g2, hs⟩ := signO_of op h0
  have R1 := right_any k n f hf s
  have R2 := right_any k' n' f' hf' s'
  rcases bool_cases (rightB k n f s) with ha | ha
  · rw [ha] at R1
    refine (reck_ra op _ _ hs.look k n k' n' f f' s s' R1 w).mono fun e w' h => ret_vf' ?_ h
    simp [reckR, ha]
  rcases bool_cases (rightB k' n' f' s') with hb | hb
  · rw [ha] at R1
    rw [hb] at R2
    refine (reck_rb op _ _ hs.look k n k' n' f f' s s' R1 R2 w).mono fun e w' h => ret_vf' ?_ h
    simp [reckR, hb]
  rw [ha] at R1
  rw [hb] at R2
  have c1 : ¬ (opO op = 0 ∨ rightB k n f s = false ∨ rightB k' n' f' s' = false) := by simp [h0, ha, hb]
  by_cases k0 : k = 0
  · refine (reck_na op _ _ hs.look k n k' n' f f' s s' R1 R2 (by simpa using k0) w).mono fun e w' h => ret_vf' ?_ h
    unfold reckR
    rw [if_neg c1, if_pos (Or.inl k0)]
  have k0' : (k == 0) = false := by simpa using k0
  by_cases l0 : k' = 0
  · refine (reck_nb op _ _ hs.look k n k' n' f f' s s' R1 R2 k0' (by simpa using l0) w).mono fun e w' h => ret_vf' ?_ h
    unfold reckR
    rw [if_neg c1, if_pos (Or.inr l0)]
  have l0' : (k' == 0) = false := by simpa using l0
  have c2 : ¬ (k = 0 ∨ k' = 0) := by simp [k0, l0]
  have N1 := isnum_any k n f s
  have N2 := isnum_any k' n' f' s'
  rcases bool_cases (numB k) with m1 | m1
  · rw [m1] at N1
    refine (reck_ta op _ _ hs.look k n k' n' f f' s s' R1 R2 k0' l0' N1 w).mono fun e w' h => ret_vf' ?_ h
    unfold reckR
    rw [if_neg c1, if_neg c2, if_pos (by simp [m1])]
  rcases bool_cases (numB k') with m2 | m2
  · rw [m1] at N1
    rw [m2] at N2
    refine (reck_tb op _ _ hs.look k n k' n' f f' s s' R1 R2 k0' l0' N1 N2 w).mono fun e w' h => ret_vf' ?_ h
    unfold reckR
    rw [if_neg c1, if_neg c2, if_pos (by simp [m2])]
  rw [m1] at N1
  rw [m2] at N2
  have c3 : ¬ ((numB k && numB k') = false) := by simp [m1, m2]
  by_cases f0 : k = 3
  · refine (reck_fa op _ _ hs.look k n k' n' f f' s s' R1 R2 k0' l0' N1 N2 (by simpa using f0) g2 rfl hs.call2 _ _ _ rfl rfl (hs.floats _ _) w).mono fun e w' h => ret_vf' ?_ h
    unfold reckR
    rw [if_neg c1, if_neg c2, if_neg c3, if_pos (Or.inl f0), hs.ix]
  have f0' : (k == 3) = false := by simpa using f0
  by_cases f1 : k' = 3
  · refine (reck_fb op _ _ hs.look k n k' n' f f' s s' R1 R2 k0' l0' N1 N2 f0' (by simpa using f1) g2 rfl hs.call2 _ _ _ rfl rfl (hs.floats _ _) w).mono fun e w' h => ret_vf' ?_ h
    unfold reckR
    rw [if_neg c1, if_neg c2, if_neg c3, if_pos (Or.inr f1), hs.ix]
  have f1' : (k' == 3) = false := by simpa using f1
  have c4 : ¬ (k = 3 ∨ k' = 3) := by simp [f0, f1]
  have HI := hs.ints n n' n1 n2 n1' n2'
  rcases bool_cases (roomB (iop i n n')) with r0 | r0
  · have HI' : ∀ w, Calls Tryz.prog g1 #[.int .i64 n, .int .i64 n'] w (BadInt w) := fun w => (HI w).mono fun e w' ⟨N, he, _, hw⟩ => ⟨N, by rw [he, r0], hw⟩
    refine (reck_io op _ _ hs.look k n k' n' f f' s s' R1 R2 k0' l0' N1 N2 f0' f1' g1 rfl hs.call1 HI' w).mono fun e w' h => ret_vf' ?_ h
    unfold reckR
    rw [if_neg c1, if_neg c2, if_neg c3, if_neg c4, hs.ix, if_neg (by simp [r0])]
  · have HI' : ∀ w, Calls Tryz.prog g1 #[.int .i64 n, .int .i64 n'] w fun e w' => e = .returned (.tuple #[.int .i64 (iop i n n'), .bool true]) ∧ w = w' := fun w => (HI w).mono fun e w' ⟨N, he, hN, hw⟩ => ⟨by rw [he, hN r0, r0], hw⟩
    refine (reck_ii op _ _ hs.look k n k' n' f f' s s' R1 R2 k0' l0' N1 N2 f0' f1' g1 rfl hs.call1 _ HI' w).mono fun e w' h => ret_vf' ?_ h
    unfold reckR
    rw [if_neg c1, if_neg c2, if_neg c3, if_neg c4, hs.ix, if_pos r0]
end Go.Proofs.YtnjlcdemfdokoaaGreatDoor
