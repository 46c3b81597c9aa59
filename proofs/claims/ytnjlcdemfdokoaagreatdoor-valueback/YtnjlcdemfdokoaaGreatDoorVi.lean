import Derived.Test.YtnjlcdemfdokoaaGreatDoorVh
namespace Go.Proofs.YtnjlcdemfdokoaaGreatDoor
open Go Go.RowKit
/-- which of the six signs; 0: none -/
def opI (s : ByteArray) : Nat := if s.toList = [61] then 1 else if s.toList = [60, 62] then 2 else if s.toList = [60] then 3 else if s.toList = [60, 61] then 4 else if s.toList = [62] then 5 else if s.toList = [62, 61] then 6 else 0
theorem str_of {s : ByteArray} {l : List UInt8} (h : s.toList = l) : s = ⟨l.toArray⟩ := bytes_eq (by rw [← Lib.toList_data]; exact h)
theorem ne_of {s : ByteArray} {l : List UInt8} (h : s.toList ≠ l) : s ≠ ⟨l.toArray⟩ := fun e => h (by rw [e, Lib.toList_data])
theorem looks1 : Looks ⟨#[61]⟩ (.func (.func 80) #[] #[]) true := ⟨rfl, fun b w h => look_c1 b w h⟩
theorem looks2 : Looks ⟨#[60, 62]⟩ (.func (.func 81) #[] #[]) true := ⟨rfl, fun b w h => look_c2 b w h⟩
theorem looks3 : Looks ⟨#[60]⟩ (.func (.func 82) #[] #[]) true := ⟨rfl, fun b w h => look_c3 b w h⟩
theorem looks4 : Looks ⟨#[60, 61]⟩ (.func (.func 83) #[] #[]) true := ⟨rfl, fun b w h => look_c4 b w h⟩
theorem looks5 : Looks ⟨#[62]⟩ (.func (.func 84) #[] #[]) true := ⟨rfl, fun b w h => look_c5 b w h⟩
theorem looks6 : Looks ⟨#[62, 61]⟩ (.func (.func 85) #[] #[]) true := ⟨rfl, fun b w h => look_c6 b w h⟩
theorem looks0 {op : ByteArray} (h : opI op = 0) : Looks op .nilFunc false := by
  have h1 : op.toList ≠ [61] := fun e => by simp [opI, e] at h
  have h2 : op.toList ≠ [60, 62] := fun e => by simp [opI, e] at h
  have h3 : op.toList ≠ [60] := fun e => by simp [opI, e] at h
  have h4 : op.toList ≠ [60, 61] := fun e => by simp [opI, e] at h
  have h5 : op.toList ≠ [62] := fun e => by simp [opI, e] at h
  have h6 : op.toList ≠ [62, 61] := fun e => by simp [opI, e] at h
  exact ⟨rfl, fun b w h => look_c0 b w h op (ne_of h1) (ne_of h2) (ne_of h3) (ne_of h4) (ne_of h5) (ne_of h6)⟩
/-- what Test tells -/
def testR (op : ByteArray) (k n : Int) (f : Nat) (s : ByteArray) (k' n' : Int) (f' : Nat) (s' : ByteArray) : Int × Int × Int :=
  if opI op = 0 ∨ rightB k n f s = false ∨ rightB k' n' f' s' = false then (0, 0, 1) else if k = 0 ∨ k' = 0 then (0, 0, 0) else if k ≠ k' ∧ (numB k && numB k') = false then (0, 0, 4) else (1, b01 (holdB (opI op) (ordI k n f s k' n' f' s')), 0)
/-- the known signs: their function, and that it holds what it should -/
structure Sign (op : ByteArray) (i g : Nat) : Prop where
  ix : opI op = i
  nz : i ≠ 0
  look : Looks op (.func (.func g) #[] #[]) true
  call : ∀ (x : Int) (w : World), (callFunc g #[.int .i64 x]).run Tryz.prog w = .ok (.enter g #[.int .i64 x]) w
  holds : ∀ (o : Int) (w : World), Calls Tryz.prog g #[.int .i64 o] w fun e w' => e = .returned (.bool (holdB i o)) ∧ w = w'
theorem sign1 : Sign ⟨#[61]⟩ 1 80 := ⟨by unfold opI; rw [Lib.toList_data]; rfl, by decide, looks1, cf1, hold1⟩
theorem sign2 : Sign ⟨#[60, 62]⟩ 2 81 := ⟨by unfold opI; rw [Lib.toList_data]; rfl, by decide, looks2, cf2, hold2⟩
theorem sign3 : Sign ⟨#[60]⟩ 3 82 := ⟨by unfold opI; rw [Lib.toList_data]; rfl, by decide, looks3, cf3, hold3⟩
theorem sign4 : Sign ⟨#[60, 61]⟩ 4 83 := ⟨by unfold opI; rw [Lib.toList_data]; rfl, by decide, looks4, cf4, hold4⟩
theorem sign5 : Sign ⟨#[62]⟩ 5 84 := ⟨by unfold opI; rw [Lib.toList_data]; rfl, by decide, looks5, cf5, hold5⟩
theorem sign6 : Sign ⟨#[62, 61]⟩ 6 85 := ⟨by unfold opI; rw [Lib.toList_data]; rfl, by decide, looks6, cf6, hold6⟩
theorem sign_of (op : ByteArray) (h : opI op ≠ 0) : ∃ i g, Sign op i g := by
  have h0 := h
  unfold opI at h
  by_cases h1 : op.toList = [61]
  · rw [str_of h1]; exact ⟨_, _, sign1⟩
  by_cases h2 : op.toList = [60, 62]
  · rw [str_of h2]; exact ⟨_, _, sign2⟩
  by_cases h3 : op.toList = [60]
  · rw [str_of h3]; exact ⟨_, _, sign3⟩
  by_cases h4 : op.toList = [60, 61]
  · rw [str_of h4]; exact ⟨_, _, sign4⟩
  by_cases h5 : op.toList = [62]
  · rw [str_of h5]; exact ⟨_, _, sign5⟩
  by_cases h6 : op.toList = [62, 61]
  · rw [str_of h6]; exact ⟨_, _, sign6⟩
  · rw [if_neg h1, if_neg h2, if_neg h3, if_neg h4, if_neg h5, if_neg h6] at h
    exact absurd rfl h
theorem ret_ve' {k n k' n' e e' : Int} (h : (k, n, e) = (k', n', e')) {w w' : World} {x : Ending} (hx : x = .returned (.tuple #[.agg #[.int .i64 k, .int .i64 n, .float .f64 0, .string ⟨#[]⟩], .int .i64 e]) ∧ Below w.heap.size w w') :
    x = .returned (.tuple #[.agg #[.int .i64 k', .int .i64 n', .float .f64 0, .string ⟨#[]⟩], .int .i64 e']) ∧ Below w.heap.size w w' := by
  simp only [Prod.mk.injEq] at h
  obtain ⟨rfl, rfl, rfl⟩ := h
  exact hx
theorem bool_cases (b : Bool) : b = false ∨ b = true := by cases b <;> simp
theorem test_any (op : ByteArray) (k n k' n' : Int) (f f' : Nat) (s s' : ByteArray) (n1 : -9223372036854775808 ≤ n) (n2 : n ≤ 9223372036854775807) (n1' : -9223372036854775808 ≤ n') (n2' : n' ≤ 9223372036854775807) (hf : f < 18446744073709551616) (hf' : f' < 18446744073709551616) (w : World) :
    Calls Tryz.prog 23 #[.string op, .agg #[.int .i64 k, .int .i64 n, .float .f64 f, .string s], .agg #[.int .i64 k', .int .i64 n', .float .f64 f', .string s']] w fun e w' => e = .returned (.tuple #[.agg #[.int .i64 (testR op k n f s k' n' f' s').1, .int .i64 (testR op k n f s k' n' f' s').2.1, .float .f64 0, .string ⟨#[]⟩], .int .i64 (testR op k n f s k' n' f' s').2.2]) ∧ Below w.heap.size w w' := by
  by_cases h0 : opI op = 0
  · refine (test_unk op _ (looks0 h0) k n k' n' f f' s s' w).mono fun e w' h => ret_ve' ?_ h
    simp [testR, h0]
  obtain ⟨i, g, hs⟩ := sign_of op h0
  have R1 := right_any k n f hf s
  have R2 := right_any k' n' f' hf' s'
  rcases bool_cases (rightB k n f s) with ha | ha
  · rw [ha] at R1
    refine (test_ra op _ hs.look k n k' n' f f' s s' R1 w).mono fun e w' h => ret_ve' ?_ h
    simp [testR, ha]
  rcases bool_cases (rightB k' n' f' s') with hb | hb
  · rw [ha] at R1
    rw [hb] at R2
    refine (test_rb op _ hs.look k n k' n' f f' s s' R1 R2 w).mono fun e w' h => ret_ve' ?_ h
    simp [testR, hb]
  rw [ha] at R1
  rw [hb] at R2
  by_cases k0 : k = 0
  · refine (test_na op _ hs.look k n k' n' f f' s s' R1 R2 (by simpa using k0) w).mono fun e w' h => ret_ve' ?_ h
    unfold testR
    rw [if_neg (by simp [h0, ha, hb]), if_pos (Or.inl k0)]
  have k0' : (k == 0) = false := by simpa using k0
  by_cases l0 : k' = 0
  · refine (test_nb op _ hs.look k n k' n' f f' s s' R1 R2 k0' (by simpa using l0) w).mono fun e w' h => ret_ve' ?_ h
    unfold testR
    rw [if_neg (by simp [h0, ha, hb]), if_pos (Or.inr l0)]
  have l0' : (k' == 0) = false := by simpa using l0
  have O := ordr_any k n k' n' f f' s s' n1 n2 n1' n2' hf hf'
  by_cases e0 : k = k'
  · refine (test_fe op g hs.look k n k' n' f f' s s' R1 R2 k0' l0' (by simpa using e0) hs.call _ _ O (hs.holds _) w).mono fun e w' h => ret_ve' ?_ h
    rw [← hs.ix]
    unfold testR
    rw [if_neg (by simp [h0, ha, hb]), if_neg (by simp [k0, l0]), if_neg (by simp [e0])]
  have e0' : (k != k') = true := by simpa using e0
  have N1 := isnum_any k n f s
  have N2 := isnum_any k' n' f' s'
  rcases bool_cases (numB k) with m1 | m1
  · rw [m1] at N1
    refine (test_ta op _ hs.look k n k' n' f f' s s' R1 R2 k0' l0' e0' N1 w).mono fun e w' h => ret_ve' ?_ h
    simp [testR, h0, ha, hb, k0, l0, e0, m1]
  rcases bool_cases (numB k') with m2 | m2
  · rw [m1] at N1
    rw [m2] at N2
    refine (test_tb op _ hs.look k n k' n' f f' s s' R1 R2 k0' l0' e0' N1 N2 w).mono fun e w' h => ret_ve' ?_ h
    simp [testR, h0, ha, hb, k0, l0, e0, m2]
  · rw [m1] at N1
    rw [m2] at N2
    refine (test_fn op g hs.look k n k' n' f f' s s' R1 R2 k0' l0' e0' N1 N2 hs.call _ _ O (hs.holds _) w).mono fun e w' h => ret_ve' ?_ h
    rw [← hs.ix]
    unfold testR
    rw [if_neg (by simp [h0, ha, hb]), if_neg (by simp [k0, l0]), if_neg (by simp [m1, m2])]
end Go.Proofs.YtnjlcdemfdokoaaGreatDoor
