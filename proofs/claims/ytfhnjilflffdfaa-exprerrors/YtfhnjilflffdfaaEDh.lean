import Derived.Test.YtfhnjilflffdfaaEDg
import Derived.Deep.RegionHeld3
namespace Go.Proofs.Ytfhnjilflffdfaa
open Go Go.RowKit
set_option linter.unusedVariables false
theorem comb2_flags (s : ByteArray) (a b : Vl) (p q : Bool) : comb2 s (a, p) (b, q) = (comb2 s (a, false) (b, false)).map fun r => (r.1, p || q || r.2) := by
  unfold comb2
  simp only
  split
  · split
    · simp
    · rfl
  · split
    · split
      · rfl
      · simp
    · split
      · simp
      · rfl
theorem comb1_flags (s : ByteArray) (a : Vl) (p : Bool) : comb1 s (a, p) = (comb1 s (a, false)).map fun r => (r.1, p || r.2) := by
  unfold comb1
  simp only
  split
  · split
    · simp
    · rfl
  · simp
/-- the errors of what is reckoned of two right values -/
theorem reck_errs (s : ByteArray) (a b : Vl) (hs : opO s ≠ 0) (ha : a.right = true) (hb : b.right = true) : (reckR s a.k a.n a.f a.s b.k b.n b.f b.s).2.2.2 = 0 ∨ (reckR s a.k a.n a.f a.s b.k b.n b.f b.s).2.2.2 = 4 ∨ (reckR s a.k a.n a.f a.s b.k b.n b.f b.s).2.2.2 = 7 := by
  unfold Vl.right at ha hb
  unfold reckR
  rw [if_neg (by simp [hs, ha, hb])]
  split
  · simp
  · split
    · simp
    · split
      · simp
      · split
        · simp
        · simp
theorem test_errs (s : ByteArray) (a b : Vl) (hs : opI s ≠ 0) (ha : a.right = true) (hb : b.right = true) : (testR s a.k a.n a.f a.s b.k b.n b.f b.s).2.2 = 0 ∨ (testR s a.k a.n a.f a.s b.k b.n b.f b.s).2.2 = 4 := by
  unfold Vl.right at ha hb
  unfold testR
  rw [if_neg (by simp [hs, ha, hb])]
  split
  · simp
  · split
    · simp
    · simp
theorem opI_of (s : ByteArray) (h : opN s = 2) (h1 : s.toList ≠ [97, 110, 100]) (h2 : s.toList ≠ [111, 114]) (h3 : opO s = 0) : opI s ≠ 0 := by
  unfold opN at h
  unfold opO at h3
  unfold opI
  split at h
  · rename_i hm
    simp only [List.mem_cons, List.not_mem_nil, or_false] at hm
    rcases hm with e | e | e | e | e | e | e | e | e | e | e <;> simp_all
  · split at h <;> omega
/-- two operands -/
theorem two_all (R : Nat) (s : ByteArray) (hs : opN s = 2) (a b : Vl) (ha : a.right = true ∧ a.Ok) (hb : b.right = true ∧ b.Ok) (v : Value) (o : Bool) (w : World) (hR : Rk w R v o) :
    (∀ u o1, comb2 s (a, false) (b, false) = some (u, o1) → Calls Try.prog 37 #[.pointer (some ⟨R, 0, none⟩), .string s, avl a, avl b] w fun e w' => e = .returned (avl u) ∧ Rk w' R v (o || o1) ∧ w.grownBy w' (some R)) ∧
    (comb2 s (a, false) (b, false) = none → Calls Try.prog 37 #[.pointer (some ⟨R, 0, none⟩), .string s, avl a, avl b] w fun e w' => e = bad4 ∧ w.grownBy w' (some R)) := by
  have up : ∀ {u : Vl} {e : Ending} {w' : World}, (e = .returned (avl u) ∧ Below w.heap.size w w') → e = .returned (avl u) ∧ Rk w' R v (o || false) ∧ w.grownBy w' (some R) := fun ⟨h1, h2⟩ => ⟨h1, by rw [Bool.or_false]; exact hR.keep h2, grown_of_below _ h2⟩
  have dn : ∀ {e : Ending} {w' : World}, (e = bad4 ∧ Below w.heap.size w w') → e = bad4 ∧ w.grownBy w' (some R) := fun ⟨h1, h2⟩ => ⟨h1, grown_of_below _ h2⟩
  unfold comb2
  simp only [Bool.or_false, Bool.false_or]
  by_cases h1 : s.toList = [97, 110, 100]
  · rw [if_pos (.inl h1)]
    have b1 : (s.toList == [97, 110, 100]) = true := by simp [h1]
    have e0 : settles s = 0 := by unfold settles; rw [if_pos h1]
    rw [e0]
    by_cases ea : a.ofE = 0
    · by_cases eb : b.ofE = 0
      · rw [if_pos ⟨ea, eb⟩]
        refine ⟨fun u o1 h => ?_, fun h => by cases h⟩
        cases h
        exact (two_and R s b1 a b ea eb w).mono fun e w' h => up h
      · rw [if_neg (fun h => eb h.2)]
        exact ⟨fun u o1 h => (by cases h), fun _ => (two_and_b R s b1 a b ea eb w).mono fun e w' h => dn h⟩
    · rw [if_neg (fun h => ea h.1)]
      exact ⟨fun u o1 h => (by cases h), fun _ => (two_and_a R s b1 a b ea w).mono fun e w' h => dn h⟩
  have b1 : (s.toList == [97, 110, 100]) = false := by simp [h1]
  by_cases h2 : s.toList = [111, 114]
  · rw [if_pos (.inr h2)]
    have b2 : (s.toList == [111, 114]) = true := by simp [h2]
    have e0 : settles s = 1 := by unfold settles; rw [if_neg h1]
    rw [e0]
    by_cases ea : a.ofE = 0
    · by_cases eb : b.ofE = 0
      · rw [if_pos ⟨ea, eb⟩]
        refine ⟨fun u o1 h => ?_, fun h => by cases h⟩
        cases h
        exact (two_or R s b1 b2 a b ea eb w).mono fun e w' h => up h
      · rw [if_neg (fun h => eb h.2)]
        exact ⟨fun u o1 h => (by cases h), fun _ => (two_or_b R s b1 b2 a b ea eb w).mono fun e w' h => dn h⟩
    · rw [if_neg (fun h => ea h.1)]
      exact ⟨fun u o1 h => (by cases h), fun _ => (two_or_a R s b1 b2 a b ea w).mono fun e w' h => dn h⟩
  have b2 : (s.toList == [111, 114]) = false := by simp [h2]
  rw [if_neg (by simp [h1, h2])]
  by_cases h3 : opO s = 0
  · rw [if_neg (by simp [h3])]
    have n1 : s.toList ≠ [43] := fun h => by simp [opO, h] at h3
    have n2 : s.toList ≠ [45] := fun h => by simp [opO, h] at h3
    have n3 : s.toList ≠ [42] := fun h => by simp [opO, h] at h3
    have C := fun w => test_any s a.k a.n b.k b.n a.f b.f a.s b.s ha.2.n1 ha.2.n2 hb.2.n1 hb.2.n2 ha.2.f2 hb.2.f2 w
    rcases test_errs s a b (opI_of s hs h1 h2 h3) ha.1 hb.1 with e | e
    · rw [if_pos e]
      simp only [e] at C
      refine ⟨fun u o1 h => ?_, fun h => by cases h⟩
      cases h
      exact (two_ts_ok R s b1 b2 (by simp [n1]) (by simp [n2]) (by simp [n3]) a b _ _ C w).mono fun e w' h => up h
    · rw [if_neg (by omega)]
      simp only [e] at C
      exact ⟨fun u o1 h => (by cases h), fun _ => (two_ts_bad R s b1 b2 (by simp [n1]) (by simp [n2]) (by simp [n3]) a b _ _ C w).mono fun e w' h => dn h⟩
  · rw [if_pos h3]
    have hk : ((s.toList == [43]) = true) ∨ ((s.toList == [43]) = false ∧ (s.toList == [45]) = true) ∨ ((s.toList == [43]) = false ∧ (s.toList == [45]) = false ∧ (s.toList == [42]) = true) := by
      unfold opO at h3
      by_cases m1 : s.toList = [43]
      · simp [m1]
      · by_cases m2 : s.toList = [45]
        · simp [m2]
        · by_cases m3 : s.toList = [42]
          · simp [m3]
          · simp [m1, m2, m3] at h3
    have C := fun w => reck_any s a.k a.n b.k b.n a.f b.f a.s b.s ha.2.n1 ha.2.n2 hb.2.n1 hb.2.n2 ha.2.f2 hb.2.f2 w
    rcases reck_errs s a b h3 ha.1 hb.1 with e | e | e
    · rw [if_neg (by omega)]
      simp only [e] at C ⊢
      refine ⟨fun u o1 h => ?_, fun h => by cases h⟩
      cases h
      exact (two_rk_ok R s b1 b2 hk a b _ _ _ C w).mono fun e w' h => up h
    · rw [if_pos e]
      simp only [e] at C
      exact ⟨fun u o1 h => (by cases h), fun _ => (two_rk_bad R s b1 b2 hk a b _ _ _ C w).mono fun e w' h => dn h⟩
    · rw [if_neg (by omega)]
      simp only [e] at C ⊢
      refine ⟨fun u o1 h => ?_, fun h => by cases h⟩
      cases h
      exact (two_rk_over R s b1 b2 hk a b _ _ _ v o C w hR).mono fun e w' ⟨h1, h2, h3⟩ => ⟨h1, by rw [Bool.or_comm]; exact h2, h3⟩
theorem one_all (s : ByteArray) (a : Vl) (w : World) :
    (∀ u o1, comb1 s (a, false) = some (u, o1) → o1 = false ∧ Calls Try.prog 36 #[.string s, avl a] w fun e w' => e = .returned (avl u) ∧ Below w.heap.size w w') ∧
    (comb1 s (a, false) = none → Calls Try.prog 36 #[.string s, avl a] w fun e w' => e = bad4 ∧ Below w.heap.size w w') := by
  unfold comb1
  simp only
  by_cases h1 : s.toList = [110, 111, 116]
  · rw [if_pos h1]
    by_cases ea : a.ofE = 0
    · rw [if_pos ea]
      refine ⟨fun u o1 h => ?_, fun h => by cases h⟩
      cases h
      exact ⟨rfl, ofone_not s (by simp [h1]) a ea w⟩
    · rw [if_neg ea]
      exact ⟨fun u o1 h => (by cases h), fun _ => ofone_not_bad s (by simp [h1]) a ea w⟩
  · rw [if_neg h1]
    refine ⟨fun u o1 h => ?_, fun h => by cases h⟩
    cases h
    refine ⟨rfl, ?_⟩
    have := ofone_null s (by simp [h1]) a (a.k == 0) rfl w
    rw [show (if a.k = 0 then (1 : Int) else 0) = if (a.k == 0) = true then 1 else 0 by simp]
    exact this
end Go.Proofs.Ytfhnjilflffdfaa
