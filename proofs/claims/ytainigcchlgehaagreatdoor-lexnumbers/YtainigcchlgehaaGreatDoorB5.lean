import Derived.Test.YtainigcchlgehaaGreatDoorB1
import Derived.Test.YtainigcchlgehaaGreatDoorA2
import Derived.Test.YtainigcchlgehaaGreatDoorB4
import Derived.Deep.DeepCutAuto
import Derived.Deep.RegionHeld3
namespace Go.Proofs.YtainigcchlgehaaGreatDoor
open Go Go.RowKit
set_option linter.unusedVariables false
theorem bl_irr : ∀ x : List UInt8, Op.bytesLess x x = false
  | [] => rfl
  | a :: x => by simp [Op.bytesLess, bl_irr x]
theorem bl_tri : ∀ x y : List UInt8, (Op.bytesLess x y = true ∧ Op.bytesLess y x = false ∧ x ≠ y) ∨ (Op.bytesLess x y = false ∧ Op.bytesLess y x = true ∧ x ≠ y) ∨ (Op.bytesLess x y = false ∧ Op.bytesLess y x = false ∧ x = y)
  | [], [] => by simp [Op.bytesLess]
  | [], _ :: _ => by simp [Op.bytesLess]
  | _ :: _, [] => by simp [Op.bytesLess]
  | a :: x, b :: y => by
    have h := bl_tri x y
    by_cases e : a = b
    · subst e
      simp [Op.bytesLess]
      rcases h with h | h | h <;> simp [h, bl_irr]
    · have e' : ¬ b = a := fun q => e q.symm
      simp [Op.bytesLess, e, e']
      have : a.toNat ≠ b.toNat := fun q => e (UInt8.toNat_inj.1 q)
      simp only [UInt8.lt_iff_toNat_lt, UInt8.le_iff_toNat_le]
      omega
theorem bl_trans : ∀ x y z : List UInt8, Op.bytesLess x y = true → Op.bytesLess y z = true → Op.bytesLess x z = true
  | x, [], z, h, _ => by cases x <;> simp [Op.bytesLess] at h
  | x, b :: y, [], _, h => by simp [Op.bytesLess] at h
  | [], b :: y, c :: z, _, _ => by simp [Op.bytesLess]
  | a :: x, b :: y, c :: z, h1, h2 => by
    have ih := bl_trans x y z
    simp only [Op.bytesLess, Bool.or_eq_true, Bool.and_eq_true, decide_eq_true_eq, beq_iff_eq] at h1 h2 ⊢
    rcases h1 with h1 | ⟨rfl, h1⟩
    · rcases h2 with h2 | ⟨rfl, h2⟩
      · left
        simp only [UInt8.lt_iff_toNat_lt] at *
        omega
      · left; exact h1
    · rcases h2 with h2 | ⟨rfl, h2⟩
      · left; exact h2
      · right; exact ⟨rfl, ih h1 h2⟩
theorem kb_inj {a b : Nat} (ha : a < 18446744073709551616) (hb : b < 18446744073709551616) (h : Flt.kbits a = Flt.kbits b) : Flt.canon a = Flt.canon b := by
  rw [← Flt.okb_kbits ha, ← Flt.okb_kbits hb, h]
theorem kb_eq {a b : Nat} (ha : a < 18446744073709551616) (hb : b < 18446744073709551616) : Flt.kbits a = Flt.kbits b ↔ Flt.canon a = Flt.canon b :=
  ⟨kb_inj ha hb, fun h => by rw [← Flt.kbits_canon a, ← Flt.kbits_canon b, h]⟩
/-- one of two is less, or they are the same -/
theorem less_tri (k n : Int) (f : Nat) (s : ByteArray) (k' n' : Int) (f' : Nat) (s' : ByteArray) (hf : f < 18446744073709551616) (hf' : f' < 18446744073709551616) :
    (lessB k n f s k' n' f' s' = true ∧ lessB k' n' f' s' k n f s = false ∧ idB k n (Flt.canon f) s k' n' (Flt.canon f') s' = false) ∨ (lessB k n f s k' n' f' s' = false ∧ lessB k' n' f' s' k n f s = true ∧ idB k n (Flt.canon f) s k' n' (Flt.canon f') s' = false) ∨ (lessB k n f s k' n' f' s' = false ∧ lessB k' n' f' s' k n f s = false ∧ idB k n (Flt.canon f) s k' n' (Flt.canon f') s' = true) := by
  have hk := kb_eq hf hf'
  have hs := bl_tri s.toList s'.toList
  unfold lessB idB
  by_cases e1 : k = k'
  · subst e1
    by_cases e2 : n = n'
    · subst e2
      by_cases e3 : Flt.kbits f = Flt.kbits f'
      · have e4 := hk.1 e3
        simp only [e3, e4, if_true, beq_self_eq_true, Bool.true_and]
        rcases hs with h | h | h <;> simp [h, bl_irr]
      · have e4 : ¬ Flt.canon f = Flt.canon f' := fun q => e3 (hk.2 q)
        have e3' : ¬ Flt.kbits f' = Flt.kbits f := fun q => e3 q.symm
        simp [e3, e3', e4]; omega
    · have e2' : ¬ n' = n := fun q => e2 q.symm
      simp [e2, e2']; omega
  · have e1' : ¬ k' = k := fun q => e1 q.symm
    simp [e1, e1']; omega
theorem less_irr (k n : Int) (f : Nat) (s : ByteArray) : lessB k n f s k n f s = false := by simp [lessB, bl_irr]
theorem less_trans (k n : Int) (f : Nat) (s : ByteArray) (k' n' : Int) (f' : Nat) (s' : ByteArray) (k'' n'' : Int) (f'' : Nat) (s'' : ByteArray) (h1 : lessB k n f s k' n' f' s' = true) (h2 : lessB k' n' f' s' k'' n'' f'' s'' = true) : lessB k n f s k'' n'' f'' s'' = true := by
  have ht := bl_trans s.toList s'.toList s''.toList
  unfold lessB at *
  (repeat' split at h1) <;> (repeat' split at h2) <;> (repeat' split) <;> simp_all <;> omega
end Go.Proofs.YtainigcchlgehaaGreatDoor
namespace Go.Proofs.YtainigcchlgehaaGreatDoor
open Go Go.RowKit
set_option linter.unusedVariables false
theorem rr0 (n : Int) (f : Nat) (s : ByteArray) (p q z e : Bool) (hp : (n == 0) = p) (hq : (n == 1) = q) (hz : ((f : Int) == 0) = z) (he : s.toList.isEmpty = e) (w : World) :
    Calls Tryz.prog 22 #[.agg #[.int .i64 0, .int .i64 n, .float .f64 f, .string s]] w fun E w' => E = .returned (.bool (p && z && e)) ∧ Below w.heap.size w w' := by
  have he' : (s.toList == []) = e := by rw [← he]; cases s.toList <;> rfl
  have hz' : (f == 0) = z := by rw [← hz, Bool.eq_iff_iff]; simp
  have h2 := run_bits
  cases p <;> cases z <;> cases e
  all_goals
    go_enter Tryz.func22, Tryz.ntmps22
    go_wp2_with fail
    go_ret
    first | exact ⟨rfl, below_a1 _ _⟩ | (refine ⟨?_, below_a1 _ _⟩; simp)
theorem rr1 (n : Int) (f : Nat) (s : ByteArray) (p q z e : Bool) (hp : (n == 0) = p) (hq : (n == 1) = q) (hz : ((f : Int) == 0) = z) (he : s.toList.isEmpty = e) (w : World) :
    Calls Tryz.prog 22 #[.agg #[.int .i64 1, .int .i64 n, .float .f64 f, .string s]] w fun E w' => E = .returned (.bool ((p || q) && z && e)) ∧ Below w.heap.size w w' := by
  have he' : (s.toList == []) = e := by rw [← he]; cases s.toList <;> rfl
  have hz' : (f == 0) = z := by rw [← hz, Bool.eq_iff_iff]; simp
  have h2 := run_bits
  cases p <;> cases q <;> cases z <;> cases e
  all_goals
    go_enter Tryz.func22, Tryz.ntmps22
    go_wp2_with fail
    go_ret
    first | exact ⟨rfl, below_a1 _ _⟩ | (refine ⟨?_, below_a1 _ _⟩; simp)
theorem rr2 (n : Int) (f : Nat) (s : ByteArray) (p q z e : Bool) (hp : (n == 0) = p) (hq : (n == 1) = q) (hz : ((f : Int) == 0) = z) (he : s.toList.isEmpty = e) (w : World) :
    Calls Tryz.prog 22 #[.agg #[.int .i64 2, .int .i64 n, .float .f64 f, .string s]] w fun E w' => E = .returned (.bool (z && e)) ∧ Below w.heap.size w w' := by
  have he' : (s.toList == []) = e := by rw [← he]; cases s.toList <;> rfl
  have hz' : (f == 0) = z := by rw [← hz, Bool.eq_iff_iff]; simp
  have h2 := run_bits
  cases z <;> cases e
  all_goals
    go_enter Tryz.func22, Tryz.ntmps22
    go_wp2_with fail
    go_ret
    first | exact ⟨rfl, below_a1 _ _⟩ | (refine ⟨?_, below_a1 _ _⟩; simp)
theorem rr4 (n : Int) (f : Nat) (s : ByteArray) (p q z e : Bool) (hp : (n == 0) = p) (hq : (n == 1) = q) (hz : ((f : Int) == 0) = z) (he : s.toList.isEmpty = e) (w : World) :
    Calls Tryz.prog 22 #[.agg #[.int .i64 4, .int .i64 n, .float .f64 f, .string s]] w fun E w' => E = .returned (.bool (p && z)) ∧ Below w.heap.size w w' := by
  have he' : (s.toList == []) = e := by rw [← he]; cases s.toList <;> rfl
  have hz' : (f == 0) = z := by rw [← hz, Bool.eq_iff_iff]; simp
  have h2 := run_bits
  cases p <;> cases z
  all_goals
    go_enter Tryz.func22, Tryz.ntmps22
    go_wp2_with fail
    go_ret
    first | exact ⟨rfl, below_a1 _ _⟩ | (refine ⟨?_, below_a1 _ _⟩; simp)
theorem rr5 (k : Int) (n : Int) (f : Nat) (s : ByteArray) (p q z e : Bool) (hp : (n == 0) = p) (hq : (n == 1) = q) (hz : ((f : Int) == 0) = z) (he : s.toList.isEmpty = e) (h0 : (k == 0) = false) (h1 : (k == 1) = false) (h2 : (k == 2) = false) (h3 : (k == 3) = false) (h4 : (k == 4) = false) (w : World) :
    Calls Tryz.prog 22 #[.agg #[.int .i64 k, .int .i64 n, .float .f64 f, .string s]] w fun E w' => E = .returned (.bool (false)) ∧ Below w.heap.size w w' := by
  have he' : (s.toList == []) = e := by rw [← he]; cases s.toList <;> rfl
  have hz' : (f == 0) = z := by rw [← hz, Bool.eq_iff_iff]; simp
  have hrb := run_bits
  cases z
  all_goals
    go_enter Tryz.func22, Tryz.ntmps22
    go_wp2_with fail
    go_ret
    first | exact ⟨rfl, below_a1 _ _⟩ | (refine ⟨?_, below_a1 _ _⟩; simp)
theorem rr3 (n : Int) (f : Nat) (s : ByteArray) (p e c z : Bool) (hp : (n == 0) = p) (he : s.toList.isEmpty = e) (hc : ((Flt.canon f : Int) == (f : Int)) = c) (hz : ((f : Int) == 0) = z) (hf : f < 18446744073709551616) (w : World) :
    Calls Tryz.prog 22 #[.agg #[.int .i64 3, .int .i64 n, .float .f64 f, .string s]] w fun E w' => E = .returned (.bool (p && e && c)) ∧ Below w.heap.size w w' := by
  have he' : (s.toList == []) = e := by rw [← he]; cases s.toList <;> rfl
  have hz' : (f == 0) = z := by rw [← hz, Bool.eq_iff_iff]; simp
  have hc' : (Flt.canon f == f) = c := by rw [← hc, Bool.eq_iff_iff]; simp; omega
  have h2 := run_bits
  have C1 := rbits_any f hf
  have L := later4 w (.int .i64 3) (.int .i64 n) (.float .f64 f) (.string s) 41
  clear hf
  cases p <;> cases e <;> cases c <;> cases z
  all_goals
    go_enter Tryz.func22, Tryz.ntmps22
    go_wp2_with fail
    refine wp_region_later (by kernel_rfl) (by kernel_rfl) ?_
    repeat (go_big_quiet_step (first | with_reducible exact later_same (C1 _)))
    refine wpQuiet_nil ?_
    rintro w' ⟨x, rfl⟩
    go_wp2_with fail
    go_ret
    exact ⟨rfl, Below.chain (below_a1 _ _) x.kept⟩
theorem rright_any (k n : Int) (f : Nat) (hf : f < 18446744073709551616) (s : ByteArray) (w : World) :
    Calls Tryz.prog 22 #[.agg #[.int .i64 k, .int .i64 n, .float .f64 f, .string s]] w fun e w' => e = .returned (.bool (rightB k n f s)) ∧ Below w.heap.size w w' := by
  by_cases h0 : k = 0
  · subst h0
    refine (rr0 n f s _ _ _ _ rfl rfl rfl rfl w).mono fun e w' h => ret_bool' ?_ h
    rw [Bool.eq_iff_iff]; simp [rightB]; grind
  by_cases h1 : k = 1
  · subst h1
    refine (rr1 n f s _ _ _ _ rfl rfl rfl rfl w).mono fun e w' h => ret_bool' ?_ h
    rw [Bool.eq_iff_iff]; simp [rightB]; grind
  by_cases h2 : k = 2
  · subst h2
    refine (rr2 n f s _ _ _ _ rfl rfl rfl rfl w).mono fun e w' h => ret_bool' ?_ h
    rw [Bool.eq_iff_iff]; simp [rightB]
  by_cases h3 : k = 3
  · subst h3
    refine (rr3 n f s _ _ _ _ rfl rfl rfl rfl hf w).mono fun e w' h => ret_bool' ?_ h
    rw [Bool.eq_iff_iff]; simp [rightB]; grind
  by_cases h4 : k = 4
  · subst h4
    refine (rr4 n f s _ _ _ _ rfl rfl rfl rfl w).mono fun e w' h => ret_bool' ?_ h
    rw [Bool.eq_iff_iff]; simp [rightB]
  · refine (rr5 k n f s _ _ _ _ rfl rfl rfl rfl (by simpa using h0) (by simpa using h1) (by simpa using h2) (by simpa using h3) (by simpa using h4) w).mono fun e w' h => ret_bool' ?_ h
    simp [rightB, h0, h1, h2, h3, h4]
end Go.Proofs.YtainigcchlgehaaGreatDoor
namespace Go.Proofs.YtainigcchlgehaaGreatDoor
open Go Go.RowKit
set_option linter.unusedVariables false
/-- the operators, and what is none -/
def opsL : List ByteArray := [⟨#[61]⟩, ⟨#[60, 62]⟩, ⟨#[60]⟩, ⟨#[60, 61]⟩, ⟨#[62]⟩, ⟨#[62, 61]⟩, ⟨#[43]⟩, ⟨#[45]⟩, ⟨#[42]⟩, ⟨#[47]⟩, ⟨#[]⟩]
def opAt (j : Nat) : ByteArray := opsL.getD j ⟨#[]⟩
theorem opsCell (w : World) (j : Nat) (hj : j < 11) : (w.alloc (.cells #[.string ⟨#[61]⟩, .string ⟨#[60, 62]⟩, .string ⟨#[60]⟩, .string ⟨#[60, 61]⟩, .string ⟨#[62]⟩, .string ⟨#[62, 61]⟩, .string ⟨#[43]⟩, .string ⟨#[45]⟩, .string ⟨#[42]⟩, .string ⟨#[47]⟩, .string ⟨#[]⟩] 9)).cell? ⟨w.heap.size, j, none⟩ = some (.string (opAt j)) := by
  have e : j = 0 ∨ j = 1 ∨ j = 2 ∨ j = 3 ∨ j = 4 ∨ j = 5 ∨ j = 6 ∨ j = 7 ∨ j = 8 ∨ j = 9 ∨ j = 10 := by omega
  rcases e with rfl | rfl | rfl | rfl | rfl | rfl | rfl | rfl | rfl | rfl | rfl <;> simp [opAt, opsL]
/-- none of its four cells is shut -/
def Free (w : World) (b : Nat) : Prop := w.frozen? ⟨b, 0, none⟩ = false ∧ w.frozen? ⟨b, 1, none⟩ = false ∧ w.frozen? ⟨b, 2, none⟩ = false ∧ w.frozen? ⟨b, 3, none⟩ = false
theorem free_new (w : World) (a b c d : Value) (t : TypeId) : Free (w.alloc (.cells #[a, b, c, d] t)) w.heap.size := by
  refine ⟨?_, ?_, ?_, ?_⟩ <;> go_simp
theorem Free.below {w w' : World} {b : Nat} {v0 v1 v2 v3 : Value} (h : Free w b) (hl : Lies w b v0 v1 v2 v3) (hb : Below w.heap.size w w') : Free w' b :=
  have hlt := Lib.lt_of_cell hl.1
  ⟨(hb.frozen (p := ⟨b, 0, none⟩) hlt).trans h.1, (hb.frozen (p := ⟨b, 1, none⟩) hlt).trans h.2.1, (hb.frozen (p := ⟨b, 2, none⟩) hlt).trans h.2.2.1, (hb.frozen (p := ⟨b, 3, none⟩) hlt).trans h.2.2.2⟩
theorem Free.drew {w : World} {b : Nat} (h : Free w b) : Free w.drew b := h
theorem Free.set {w : World} {b c : Nat} {v0 v1 v2 v3 : Value} (h : Free w b) : Free ((((w.setCell ⟨c, 0, none⟩ v0).setCell ⟨c, 1, none⟩ v1).setCell ⟨c, 2, none⟩ v2).setCell ⟨c, 3, none⟩ v3) b := by
  obtain ⟨h0, h1, h2, h3⟩ := h
  refine ⟨?_, ?_, ?_, ?_⟩ <;> go_simp
theorem Lies.setfar {w : World} {b c : Nat} {u0 u1 u2 u3 v0 v1 v2 v3 : Value} (h : Lies w b u0 u1 u2 u3) (hn : c ≠ b) : Lies ((((w.setCell ⟨c, 0, none⟩ v0).setCell ⟨c, 1, none⟩ v1).setCell ⟨c, 2, none⟩ v2).setCell ⟨c, 3, none⟩ v3) b u0 u1 u2 u3 :=
  ⟨Go.Proofs.YtainigcchlgehaaGreatDoor.setfar hn h.1, Go.Proofs.YtainigcchlgehaaGreatDoor.setfar hn h.2.1, Go.Proofs.YtainigcchlgehaaGreatDoor.setfar hn h.2.2.1, Go.Proofs.YtainigcchlgehaaGreatDoor.setfar hn h.2.2.2⟩
theorem k5 {w0 w1 : World} {a b j : Nat} {o a0 a1 a2 a3 : Value} (h : w0.cell? ⟨b, j, none⟩ = some o ∧ w0.cell? ⟨a, 0, none⟩ = some a0 ∧ w0.cell? ⟨a, 1, none⟩ = some a1 ∧ w0.cell? ⟨a, 2, none⟩ = some a2 ∧ w0.cell? ⟨a, 3, none⟩ = some a3) (hb : Below w0.heap.size w0 w1) :
    w1.cell? ⟨b, j, none⟩ = some o ∧ w1.cell? ⟨a, 0, none⟩ = some a0 ∧ w1.cell? ⟨a, 1, none⟩ = some a1 ∧ w1.cell? ⟨a, 2, none⟩ = some a2 ∧ w1.cell? ⟨a, 3, none⟩ = some a3 := by
  obtain ⟨h1, h2, h3, h4, h5⟩ := h
  exact ⟨later_cell h1 ⟨w1, hb⟩, later_cell h2 ⟨w1, hb⟩, later_cell h3 ⟨w1, hb⟩, later_cell h4 ⟨w1, hb⟩, later_cell h5 ⟨w1, hb⟩⟩
end Go.Proofs.YtainigcchlgehaaGreatDoor


