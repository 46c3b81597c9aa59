import Derived.Test.YtnjlcdemfdokoaaGreatDoorWl
import Derived.Lib.ParseIntBCases
namespace Go.Proofs.YtnjlcdemfdokoaaGreatDoor
open Go Go.RowKit
/-- what read makes of a text -/
def numSem (n : Bool) (A B : List UInt8) : Option Nat :=
  match pu53 A with
  | .ok m => match Lib.parseIntB 16 B with
    | .ok x => some (if n = true then Flt.copysign (Flt.ldx m x) 13830554455654793216 else Flt.ldx m x)
    | _ => none
  | _ => none
def readSem (l : List UInt8) : Option Nat :=
  if l = [110, 97, 110] then some 9221120237041090561 else if l = [105, 110, 102] then some 9218868437227405312 else if l = [45, 105, 110, 102] then some 18442240474082181120
  else numSem (Lib.hasPrefix l [45]) (cutP (Lib.trimPrefix l [45])).1 (cutP (Lib.trimPrefix l [45])).2
def rdTuple : Option Nat → Value
  | some f => .tuple #[.float .f64 f, .bool true]
  | none => .tuple #[.float .f64 0, .bool false]
theorem trim_len (l p : List UInt8) : (Lib.trimPrefix l p).length ≤ l.length := by
  unfold Lib.trimPrefix; split
  · simp
  · exact Nat.le_refl _
theorem cut_len (l : List UInt8) : (cutP l).1.length ≤ l.length ∧ (cutP l).2.length ≤ l.length := by
  unfold cutP Lib.cut
  split
  · simp; omega
  · simp
theorem pu53_le {l : List UInt8} {m : Nat} (h : pu53 l = .ok m) : m < 9007199254740992 := by
  unfold pu53 at h
  split at h
  · cases h
  · have := Lib.parseUintM_le 9007199254740991 l 0 m (by omega) h
    omega
theorem pi16_le {l : List UInt8} {x : Int} (h : Lib.parseIntB 16 l = .ok x) : -32768 ≤ x ∧ x ≤ 32767 := by
  unfold Lib.parseIntB at h
  split at h
  · cases h
  · simp only [] at h
    split at h
    · cases h
    · cases h
    · rename_i u hu
      split at h
      · cases h
      · split at h
        · cases h
        · rename_i h1 h2
          injection h with h
          rw [← h]
          split
          · rename_i h3
            have : ¬ 2 ^ (16 - 1) < u := fun h4 => h2 ⟨h3, h4⟩
            have e : (2 : Nat) ^ (16 - 1) = 32768 := by decide
            omega
          · rename_i h3
            have : ¬ 2 ^ (16 - 1) ≤ u := fun h4 => h1 ⟨h3, h4⟩
            have e : (2 : Nat) ^ (16 - 1) = 32768 := by decide
            omega
theorem copysign_lt (z b : Nat) : Flt.copysign z b < 18446744073709551616 := by
  have : Flt.rung z < 9223372036854775808 := Nat.mod_lt _ (by decide)
  unfold Flt.copysign; split <;> omega
theorem numSem_lt {n : Bool} {A B : List UInt8} {f : Nat} (h : numSem n A B = some f) : f < 18446744073709551616 := by
  unfold numSem at h
  split at h
  · rename_i m hm
    split at h
    · injection h with h
      rw [← h]
      split
      · exact copysign_lt _ _
      · exact Flt.ldx_lt (pu53_le hm) _
    · cases h
  · cases h
theorem readSem_lt {l : List UInt8} {f : Nat} (h : readSem l = some f) : f < 18446744073709551616 := by
  unfold readSem at h
  split at h
  · injection h with h; rw [← h]; decide
  · split at h
    · injection h with h; rw [← h]; decide
    · split at h
      · injection h with h; rw [← h]; decide
      · exact numSem_lt h
theorem bytes_eq {s : ByteArray} {l : List UInt8} (h : s.data.toList = l) : s = ⟨l.toArray⟩ := by
  subst h; simp
theorem read_any (s : ByteArray) (hs : s.size ≤ 281474976710656) (w : World) (hT : Tabs w) :
    Calls Tryz.prog 133 #[.string s] w fun e w' => e = .returned (rdTuple (readSem s.data.toList)) ∧ Below w.heap.size w w' := by
  unfold readSem
  by_cases h1 : s.data.toList = [110, 97, 110]
  · rw [if_pos h1, bytes_eq h1]
    exact (read_nan w).mono fun e w' ⟨he, hw⟩ => ⟨he, hw ▸ Below.refl _ _⟩
  · rw [if_neg h1]
    by_cases h2 : s.data.toList = [105, 110, 102]
    · rw [if_pos h2, bytes_eq h2]
      exact (read_inf w).mono fun e w' ⟨he, hw⟩ => ⟨he, hw ▸ Below.refl _ _⟩
    · rw [if_neg h2]
      by_cases h3 : s.data.toList = [45, 105, 110, 102]
      · rw [if_pos h3, bytes_eq h3]
        exact (read_ninf w).mono fun e w' ⟨he, hw⟩ => ⟨he, hw ▸ Below.refl _ _⟩
      · rw [if_neg h3]
        have g1 : (s.toList == [110, 97, 110]) = false := by rw [Lib.toList_data]; simpa using h1
        have g2 : (s.toList == [105, 110, 102]) = false := by rw [Lib.toList_data]; simpa using h2
        have g3 : (s.toList == [45, 105, 110, 102]) = false := by rw [Lib.toList_data]; simpa using h3
        have C1 := fun w => Tryz.strings_CutPrefix s ⟨#[45]⟩ w
        have l1 := trim_len s.data.toList [45]
        have l2 := cut_len (Lib.trimPrefix s.data.toList [45])
        have l0 : s.data.toList.length = s.size := by rw [Lib.size_eq]
        have C2 := fun w => cut_any ⟨(Lib.trimPrefix s.data.toList [45]).toArray⟩ (by show (Lib.trimPrefix s.data.toList [45]).toArray.size ≤ _; simp; omega) w
        have sA : (ByteArray.mk (cutP (Lib.trimPrefix s.data.toList [45])).1.toArray).size ≤ 281474976710656 := by show (cutP (Lib.trimPrefix s.data.toList [45])).1.toArray.size ≤ _; simp; omega
        have sB : (ByteArray.mk (cutP (Lib.trimPrefix s.data.toList [45])).2.toArray).size ≤ 281474976710656 := by show (cutP (Lib.trimPrefix s.data.toList [45])).2.toArray.size ≤ _; simp; omega
        unfold numSem
        rcases hp : pu53 (cutP (Lib.trimPrefix s.data.toList [45])).1 with m | _ | _
        · have C3 := fun w => puint_ok ⟨(cutP (Lib.trimPrefix s.data.toList [45])).1.toArray⟩ (by omega) m hp w
          rcases hq : Lib.parseIntB 16 (cutP (Lib.trimPrefix s.data.toList [45])).2 with x | _ | _
          · have C4 := fun w => pint_ok ⟨(cutP (Lib.trimPrefix s.data.toList [45])).2.toArray⟩ (by omega) x hq w
            have hm := pu53_le hp
            have hx := pi16_le hq
            have C5 := fun w => Ldexp_any m x hm (by omega) (by omega) w
            have C6 := fun w => copysign_any (Flt.ldx m x) 13830554455654793216 (Flt.ldx_lt hm x) (by decide) w
            exact read_core s _ _ _ _ m x _ _ g1 g2 g3 C1 C2 C3 C4 C5 C6 w
          · have C4 := fun w hT => pint_err ⟨(cutP (Lib.trimPrefix s.data.toList [45])).2.toArray⟩ sB (by rw [hq]; intro v h; cases h) w hT
            exact read_bad2 s _ _ _ _ m g1 g2 g3 C1 C2 C3 C4 w hT
          · have C4 := fun w hT => pint_err ⟨(cutP (Lib.trimPrefix s.data.toList [45])).2.toArray⟩ sB (by rw [hq]; intro v h; cases h) w hT
            exact read_bad2 s _ _ _ _ m g1 g2 g3 C1 C2 C3 C4 w hT
        · have C3 := fun w hT => puint_err ⟨(cutP (Lib.trimPrefix s.data.toList [45])).1.toArray⟩ sA (by rw [hp]; intro v h; cases h) w hT
          exact read_bad1 s _ _ _ _ g1 g2 g3 C1 C2 C3 w hT
        · have C3 := fun w hT => puint_err ⟨(cutP (Lib.trimPrefix s.data.toList [45])).1.toArray⟩ sA (by rw [hp]; intro v h; cases h) w hT
          exact read_bad1 s _ _ _ _ g1 g2 g3 C1 C2 C3 w hT
/-- what Parse makes of a text -/
def parseSem (l : List UInt8) : Option Nat :=
  match readSem l with
  | some f => if Flt.text f = l then some f else none
  | none => none
def psTuple : Option Nat → Value
  | some f => .tuple #[.float .f64 f, .int .i64 0]
  | none => .tuple #[.float .f64 0, .int .i64 2]
theorem parse_core (s : ByteArray) (t : List UInt8) (f : Nat) (b : Bool) (hb : (t == s.toList) = b) (HR : ∀ w, Tabs w → Calls Tryz.prog 133 #[.string s] w fun e w' => e = .returned (.tuple #[.float .f64 f, .bool true]) ∧ Below w.heap.size w w')
    (HT : ∀ w, Tabs w → Calls Tryz.prog 62 #[.float .f64 f] w fun e w' => e = .returned (.string ⟨t.toArray⟩) ∧ Below w.heap.size w w') (w : World) (hT : Tabs w) :
    Calls Tryz.prog 113 #[.string s] w fun e w' => e = .returned (psTuple (if b = true then some f else none)) ∧ Below w.heap.size w w' := by
  cases b
  · go_enter Tryz.func113, Tryz.ntmps113
    go_wp2_with fail
    refine (HR _ hT).mono ?_; rintro e w1 ⟨rfl, hb1⟩
    go_wp2_with fail
    refine (HT _ (hT.below hb1)).mono ?_; rintro e w2 ⟨rfl, hb2⟩
    go_wp2_with fail
    go_ret2
    exact ⟨rfl, Below.chain hb1 hb2⟩
  · go_enter Tryz.func113, Tryz.ntmps113
    go_wp2_with fail
    refine (HR _ hT).mono ?_; rintro e w1 ⟨rfl, hb1⟩
    go_wp2_with fail
    refine (HT _ (hT.below hb1)).mono ?_; rintro e w2 ⟨rfl, hb2⟩
    go_wp2_with fail
    go_ret2
    exact ⟨rfl, Below.chain hb1 hb2⟩
theorem parse_bad (s : ByteArray) (HR : ∀ w, Tabs w → Calls Tryz.prog 133 #[.string s] w fun e w' => e = .returned (.tuple #[.float .f64 0, .bool false]) ∧ Below w.heap.size w w') (w : World) (hT : Tabs w) :
    Calls Tryz.prog 113 #[.string s] w fun e w' => e = .returned (psTuple none) ∧ Below w.heap.size w w' := by
  go_enter Tryz.func113, Tryz.ntmps113
  go_wp2_with fail
  refine (HR _ hT).mono ?_; rintro e w1 ⟨rfl, hb1⟩
  go_wp2_with fail
  go_ret2
  exact ⟨rfl, hb1⟩
theorem parse_any (s : ByteArray) (hs : s.size ≤ 281474976710656) (w : World) (hT : Tabs w) :
    Calls Tryz.prog 113 #[.string s] w fun e w' => e = .returned (psTuple (parseSem s.data.toList)) ∧ Below w.heap.size w w' := by
  have HR := fun w hT => read_any s hs w hT
  unfold parseSem
  cases hr : readSem s.data.toList with
  | none =>
    rw [hr] at HR
    exact parse_bad s HR w hT
  | some f =>
    rw [hr] at HR
    have h := parse_core s (Flt.text f) f (decide (Flt.text f = s.data.toList)) (by rw [Lib.toList_data, Bool.eq_iff_iff]; simp) HR (fun w hT => text_any f (readSem_lt hr) w hT) w hT
    simp only [decide_eq_true_eq] at h
    exact h
end Go.Proofs.YtnjlcdemfdokoaaGreatDoor
