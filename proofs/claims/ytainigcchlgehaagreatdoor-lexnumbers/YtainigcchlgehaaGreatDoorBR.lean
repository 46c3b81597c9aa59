import Derived.Test.YtainigcchlgehaaGreatDoorBQ
namespace Go.Proofs.YtainigcchlgehaaGreatDoor
open Go Go.RowKit
set_option linter.unusedVariables false
theorem one_any (s : ByteArray) (s1 : 1 ≤ s.size) (s40 : s.size ≤ 40) (w : World) :
    Calls Tryz.prog 57 #[.string s] w fun e w' => e = .returned (rpTuple (rpSem s.data.toList)) ∧ Below w.heap.size w w' := by
  have hsl : s.toList = s.data.toList := Lib.toList_data s
  by_cases q0 : s.data.toList = [110, 117, 108, 108]
  · have e : rpSem s.data.toList = some (0, 0, 0) := by unfold rpSem; rw [if_pos q0]
    rw [e]; exact one_null s (by rw [hsl, q0]; decide) w
  have b0 : (s.toList == [110, 117, 108, 108]) = false := by rw [hsl]; simpa using q0
  by_cases q1 : s.data.toList = [116, 114, 117, 101]
  · have e : rpSem s.data.toList = some (1, b01 true, 0) := by unfold rpSem; rw [if_neg q0, if_neg (by rw [q1]; decide), if_pos q1]; rfl
    rw [e]; exact one_truth s true b0 (by rw [hsl, q1]; decide) (fun h => by cases h) w
  have b1 : (s.toList == [116, 114, 117, 101]) = false := by rw [hsl]; simpa using q1
  by_cases q2 : s.data.toList = [102, 97, 108, 115, 101]
  · have e : rpSem s.data.toList = some (1, b01 false, 0) := by unfold rpSem; rw [if_neg q0, if_pos q2]; rfl
    rw [e]; exact one_truth s false b0 b1 (fun _ => by rw [hsl, q2]; decide) w
  have b2 : (s.toList == [102, 97, 108, 115, 101]) = false := by rw [hsl]; simpa using q2
  have P := rparse_any s (by omega)
  cases hp : parseSem s.data.toList with
  | some f =>
    rw [hp] at P
    rw [rp_flt _ f q0 q2 q1 hp]
    exact one_float s f b0 b1 b2 P w
  | none =>
    rw [hp] at P
    have hd : Hid ((s.data.toList[0]? = some 45) ↔ ((s[0].toNat : Int) == 45) = true) := Lib.hid (by
      rw [get_at s 0 (by omega), beq_iff_eq]
      simp only [Option.some.injEq]
      rw [← UInt8.toNat_inj]; simp; omega)
    refine (one_int s _ rfl s1 s40 b0 b1 b2 P _ rfl hd w).mono ?_
    rintro e w' ⟨hx, hb⟩
    refine ⟨?_, hb⟩
    rcases hx with ⟨x, x1, x2, hx, rfl⟩ | ⟨hn, rfl⟩
    · rw [← hx, rp_itoa x x1 x2]
    · rw [rp_none _ q0 q2 q1 hp hn]
/-- what is read without quotes is of plain bytes, twenty-three at most -/
theorem rp_plain {m : List UInt8} {v : Int × Int × Nat} (h : rpSem m = some v) : (∀ c ∈ m, plainB c = true) ∧ m.length ≤ 23 := by
  unfold rpSem at h
  by_cases q0 : m = [110, 117, 108, 108]
  · rw [q0]; exact ⟨by decide, by decide⟩
  by_cases q1 : m = [102, 97, 108, 115, 101]
  · rw [q1]; exact ⟨by decide, by decide⟩
  by_cases q2 : m = [116, 114, 117, 101]
  · rw [q2]; exact ⟨by decide, by decide⟩
  rw [if_neg q0, if_neg q1, if_neg q2] at h
  have hf : ∀ {o : Option (Int × Int × Nat)}, (parseSem m).map (fun f => ((3 : Int), (0 : Int), f)) = some v → (∀ c ∈ m, plainB c = true) ∧ m.length ≤ 23 := fun {o} hh => by
    cases hp : parseSem m with
    | none => rw [hp] at hh; cases hh
    | some f =>
      obtain ⟨a, b, c⟩ := parseSem_some hp
      obtain ⟨h1, _, _, h4, _⟩ := ftext_facts f a
      rw [b] at h1 h4
      exact ⟨h1, h4⟩
  split at h
  · rename_i x hx
    split at h
    · rename_i hi
      have hb := pi64_le hx
      rw [← hi]
      exact ⟨plain_itoa x, by have := itoa_len20 x hb.1 hb.2; omega⟩
    · exact hf (o := none) h
  · exact hf (o := none) h
theorem runN_ge : ∀ (m n : Nat) (l : List UInt8), n ≤ m → n ≤ l.length → (∀ c ∈ l.take n, plainB c = true) → n ≤ runN m l := by
  intro m
  induction m with
  | zero => intro n l h _ _; omega
  | succ m ih =>
    intro n l h hl hp
    cases n with
    | zero => omega
    | succ n =>
      cases l with
      | nil => simp at hl
      | cons c l =>
        have hc : plainB c = true := hp c (by simp)
        have := ih n l (by omega) (by simpa using hl) (fun d hd => hp d (by simp [hd]))
        simp only [runN, hc, if_true]
        omega
theorem findR_less (l : List UInt8) (a : Nat) : ∀ d, (∀ n, a < n → n ≤ a + d → rpSem (l.take n) = none) → findR l (a + d) = findR l a := by
  intro d
  induction d with
  | zero => intro _; rfl
  | succ d ih =>
    intro h
    show (match rpSem (l.take (a + d + 1)) with | some v => some (a + d + 1, v) | none => findR l (a + d)) = _
    rw [h (a + d + 1) (by omega) (by omega)]
    exact ih (fun n h1 h2 => h n h1 (by omega))
theorem findR_run (l : List UInt8) : findR l (min l.length 40) = findR l (runN 23 l) := by
  have h1 := runN_le 23 l
  have e : min l.length 40 = runN 23 l + (min l.length 40 - runN 23 l) := by omega
  rw [e]
  refine findR_less l _ _ fun n hn hm => ?_
  cases hr : rpSem (l.take n) with
  | none => rfl
  | some v =>
    obtain ⟨hp, hl⟩ := rp_plain hr
    rw [List.length_take] at hl
    have := runN_ge 23 n l (by omega) (by omega) hp
    omega
theorem rq_pos : ∀ (g : Nat) (l acc : List UInt8) (i : Nat) (t : List UInt8) (n : Nat), rq g l acc i = some (t, n) → 1 ≤ n := by
  intro g
  induction g with
  | zero => intro l acc i t n h; simp [rq] at h
  | succ g ih =>
    intro l acc i t n h
    cases l with
    | nil => simp [rq] at h
    | cons c l =>
      simp only [rq] at h
      split at h
      · simp only [Option.some.injEq, Prod.mk.injEq] at h; omega
      split at h
      · cases h
      split at h
      · cases l with
        | nil => cases h
        | cons d l =>
          simp only at h
          split at h
          · exact ih _ _ _ _ _ h
          · cases h
      · exact ih _ _ _ _ _ h
end Go.Proofs.YtainigcchlgehaaGreatDoor


