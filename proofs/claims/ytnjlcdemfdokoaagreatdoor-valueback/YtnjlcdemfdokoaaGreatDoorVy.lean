import Derived.Test.YtnjlcdemfdokoaaGreatDoorVx
namespace Go.Proofs.YtnjlcdemfdokoaaGreatDoor
open Go Go.RowKit
set_option linter.unusedVariables false
theorem rd_quote (s : ByteArray) (h1 : 1 ≤ s.size) (hs : s.size ≤ 1000000) (hq : Lib.hasPrefix s.data.toList [39] = true) (w : World) :
    Calls Tryz.prog 29 #[.string s] w fun e w' => e = .returned (rqTuple (rq (s.size + 1) (s.data.toList.drop 1) [] 1)) ∧ Below w.heap.size w w' := by
  have hsf := run_store_float
  have HP := Tryz.strings_HasPrefix s ⟨#[39]⟩
  rw [hq] at HP
  clear hq
  have RQ := rquoted_any s h1 hs
  cases hr : rq (s.size + 1) (s.data.toList.drop 1) [] 1 with
  | none =>
    rw [hr] at RQ
    simp only [rqTuple] at RQ ⊢
    clear hr
    go_enter Tryz.func29, Tryz.ntmps29
    go_wp2_with fail
    refine (HP _).mono ?_; rintro e w' ⟨rfl, rfl⟩
    go_wp2_with fail
    refine (RQ _).mono ?_; rintro e w1 ⟨rfl, hb⟩
    obtain ⟨hc, hf⟩ := bcell hb
    have hz : w.heap.size < w1.heap.size := by have := hb.size; simp at this; omega
    go_wp2_with fail
    exact ret_vnb rfl rfl rfl rfl rfl (((lies1 _ _ _ _ _).below hb).set _ _ _ _) ⟨rfl, below_set4 (Below.chain (below_a1 _ _) hb) (by omega) _ _ _ _⟩
  | some v =>
    obtain ⟨t, m⟩ := v
    rw [hr] at RQ
    simp only [rqTuple] at RQ ⊢
    clear hr
    go_enter Tryz.func29, Tryz.ntmps29
    go_wp2_with fail
    refine (HP _).mono ?_; rintro e w' ⟨rfl, rfl⟩
    go_wp2_with fail
    refine (RQ _).mono ?_; rintro e w1 ⟨rfl, hb⟩
    obtain ⟨hc, hf⟩ := bcell hb
    have hz : w.heap.size < w1.heap.size := by have := hb.size; simp at this; omega
    go_wp2_with fail
    exact ret_vnb rfl rfl rfl rfl rfl (((lies1 _ _ _ _ _).below hb).set _ _ _ _) ⟨rfl, below_set4 (Below.chain (below_a1 _ _) hb) (by omega) _ _ _ _⟩
/-- what Read tells: how long, kind, number, float, text -/
def vrdSem (l : List UInt8) : Option (Nat × Int × Int × Nat × List UInt8) :=
  if Lib.hasPrefix l [39] = true then (rq (l.length + 1) (l.drop 1) [] 1).map fun p => (p.2, 4, 0, 0, p.1) else (findR l (runN 23 l)).map fun p => (p.1, p.2.1, p.2.2.1, p.2.2.2, [])
def vrdTuple : Option (Nat × Int × Int × Nat × List UInt8) → Value
  | some (m, k, n, f, t) => .tuple #[.agg #[.int .i64 k, .int .i64 n, .float .f64 f, .string ⟨t.toArray⟩], .int .i64 (m : Int), .bool true]
  | none => .tuple #[.agg #[.int .i64 0, .int .i64 0, .float .f64 0, .string ⟨#[]⟩], .int .i64 0, .bool false]
theorem hp_iff (l : List UInt8) : Lib.hasPrefix l [39] = true ↔ l.head? = some 39 := by
  cases l with
  | nil => simp [Lib.hasPrefix]
  | cons c l =>
    simp [Lib.hasPrefix]
    exact ⟨fun h => h.symm, fun h => h.symm⟩
theorem vread_any (s : ByteArray) (hs : s.size ≤ 1000000) (w : World) (hT : Tabs w) :
    Calls Tryz.prog 29 #[.string s] w fun e w' => e = .returned (vrdTuple (vrdSem s.data.toList)) ∧ Below w.heap.size w w' := by
  unfold vrdSem
  by_cases hq : Lib.hasPrefix s.data.toList [39] = true
  · rw [if_pos hq]
    have h1 : 1 ≤ s.size := by
      rcases Nat.eq_zero_or_pos s.size with h | h
      · have hn : s.data.toList = [] := List.eq_nil_of_length_eq_zero (by simpa using h)
        rw [hn] at hq; simp [Lib.hasPrefix] at hq
      · exact h
    refine (rd_quote s h1 hs hq w).mono fun e w' ⟨he, hw⟩ => ⟨?_, hw⟩
    rw [he]
    have el : s.data.toList.length = s.size := by simp
    rw [el]
    cases rq (s.size + 1) (s.data.toList.drop 1) [] 1 <;> rfl
  · rw [if_neg hq]
    refine (rd_plain s (by omega) (by simpa using hq) w hT).mono fun e w' ⟨he, hw⟩ => ⟨?_, hw⟩
    rw [he]
    cases findR s.data.toList (runN 23 s.data.toList) <;> rfl
theorem runN_app (x : List UInt8) : ∀ (m : Nat) (l : List UInt8), runN m (l ++ 32 :: x) = runN m l
  | 0, _ => by simp [runN]
  | m + 1, [] => by simp [runN, plainB]
  | m + 1, c :: l => by simp [runN, runN_app x m l]
theorem findR_app (r l : List UInt8) : ∀ n, n ≤ l.length → findR (l ++ r) n = findR l n
  | 0, _ => rfl
  | n + 1, h => by
    simp only [findR]
    rw [List.take_append_of_le_length h, findR_app r l n (by omega)]
theorem findR_some (l : List UInt8) : ∀ (R n : Nat) (v : Int × Int × Nat), findR l R = some (n, v) → n ≤ R ∧ 1 ≤ n ∧ rpSem (l.take n) = some v
  | 0, _, _, h => by simp [findR] at h
  | R + 1, n, v, h => by
    simp only [findR] at h
    cases hr : rpSem (l.take (R + 1)) with
    | some u => rw [hr] at h; simp at h; obtain ⟨rfl, rfl⟩ := h; exact ⟨by omega, by omega, hr⟩
    | none =>
      rw [hr] at h
      obtain ⟨a, b, c⟩ := findR_some l R n v h
      exact ⟨by omega, b, c⟩
theorem runN_take : ∀ (m n : Nat) (l : List UInt8), n ≤ runN m l → runN m (l.take n) = n
  | 0, n, l, h => by simp [runN] at h ⊢; omega
  | m + 1, 0, l, h => by simp [runN]
  | m + 1, n + 1, [], h => by simp [runN] at h
  | m + 1, n + 1, c :: l, h => by
    simp only [runN] at h
    split at h
    · rename_i hc
      simp only [List.take_succ_cons, runN, hc, if_true]
      rw [runN_take m n l (by omega)]
    · omega
theorem rq_some : ∀ (g : Nat) (l acc : List UInt8) (i : Nat) (t : List UInt8) (n : Nat), rq g l acc i = some (t, n) → i < n ∧ n - i ≤ l.length ∧ ∀ g' r, n - i ≤ g' → rq g' (l.take (n - i) ++ r) acc i = some (t, n)
  | 0, _, _, _, _, _, h => by simp [rq] at h
  | g + 1, [], _, _, _, _, h => by simp [rq] at h
  | g + 1, c :: l, acc, i, t, n, h => by
    simp only [rq] at h
    by_cases c1 : c = 39
    · rw [if_pos c1] at h
      simp at h
      obtain ⟨rfl, rfl⟩ := h
      refine ⟨by omega, by simp, fun g' r hg => ?_⟩
      obtain ⟨g'', rfl⟩ : ∃ g'', g' = g'' + 1 := ⟨g' - 1, by omega⟩
      rw [show i + 1 - i = 1 from by omega]
      simp [rq, c1]
    rw [if_neg c1] at h
    by_cases c2 : c = 10
    · rw [if_pos c2] at h; cases h
    rw [if_neg c2] at h
    by_cases c3 : c = 92
    · rw [if_pos c3] at h
      cases l with
      | nil => simp at h
      | cons d l' =>
        simp only at h
        cases he : escB d with
        | none => rw [he] at h; simp at h
        | some e =>
          rw [he] at h
          simp only at h
          obtain ⟨a, b, cc⟩ := rq_some g l' (acc ++ [e]) (i + 2) t n h
          refine ⟨by omega, by simp; omega, fun g' r hg => ?_⟩
          obtain ⟨g'', rfl⟩ : ∃ g'', g' = g'' + 1 := ⟨g' - 1, by omega⟩
          rw [show n - i = (n - (i + 2)) + 1 + 1 from by omega]
          simp only [List.take_succ_cons, List.cons_append, rq]
          rw [if_neg c1, if_neg c2, if_pos c3, he]
          exact cc g'' r (by omega)
    · rw [if_neg c3] at h
      obtain ⟨a, b, cc⟩ := rq_some g l (acc ++ [c]) (i + 1) t n h
      refine ⟨by omega, by simp; omega, fun g' r hg => ?_⟩
      obtain ⟨g'', rfl⟩ : ∃ g'', g' = g'' + 1 := ⟨g' - 1, by omega⟩
      rw [show n - i = (n - (i + 1)) + 1 from by omega]
      simp only [List.take_succ_cons, List.cons_append, rq]
      rw [if_neg c1, if_neg c2, if_neg c3]
      exact cc g'' r (by omega)
/-- what is read at the beginning is read, whatever stands behind a blank; and alone -/
theorem vrd_more (l x : List UInt8) (n : Nat) (v : Int × Int × Nat × List UInt8) (h : vrdSem l = some (n, v)) : 1 ≤ n ∧ n ≤ l.length ∧ vrdSem (l ++ 32 :: x) = some (n, v) ∧ vrdSem (l.take n) = some (n, v) := by
  unfold vrdSem at h
  by_cases hq : Lib.hasPrefix l [39] = true
  · rw [if_pos hq] at h
    have hh := (hp_iff l).1 hq
    obtain ⟨c, l', rfl⟩ : ∃ c l', l = c :: l' := by cases l with | nil => simp at hh | cons c l' => exact ⟨c, l', rfl⟩
    simp only [List.head?_cons, Option.some.injEq] at hh
    subst hh
    cases hr : rq ((39 :: l').length + 1) ((39 :: l').drop 1) [] 1 with
    | none => rw [hr] at h; simp at h
    | some p =>
      obtain ⟨t, m⟩ := p
      rw [hr] at h
      simp at h
      obtain ⟨rfl, rfl⟩ := h
      simp only [List.drop_succ_cons, List.drop_zero] at hr
      obtain ⟨a, b, c⟩ := rq_some _ _ _ _ _ _ hr
      have e : m = (m - 1) + 1 := by omega
      refine ⟨by omega, by simp; omega, ?_, ?_⟩
      · unfold vrdSem
        rw [if_pos (by rw [hp_iff]; simp)]
        have := c ((39 :: l' ++ 32 :: x).length + 1) (l'.drop (m - 1) ++ 32 :: x) (by simp; omega)
        rw [← List.append_assoc, List.take_append_drop] at this
        simp only [List.cons_append, List.drop_succ_cons, List.drop_zero]
        simp only [List.cons_append] at this
        rw [this]
        rfl
      · unfold vrdSem
        rw [e, List.take_succ_cons, if_pos (by rw [hp_iff]; simp)]
        have := c ((39 :: l'.take (m - 1)).length + 1) [] (by simp; omega)
        rw [List.append_nil] at this
        simp only [List.drop_succ_cons, List.drop_zero]
        rw [this]
        simp; omega
  · rw [if_neg hq] at h
    cases hr : findR l (runN 23 l) with
    | none => rw [hr] at h; simp at h
    | some p =>
      obtain ⟨m, u⟩ := p
      rw [hr] at h
      simp at h
      obtain ⟨rfl, rfl⟩ := h
      obtain ⟨a, b, c⟩ := findR_some l _ _ _ hr
      have hl := (runN_le 23 l).2
      have hne : l ≠ [] := fun q => by rw [q] at hl a; simp at hl; omega
      refine ⟨b, by omega, ?_, ?_⟩
      · unfold vrdSem
        rw [if_neg (by rw [hp_iff]; rw [hp_iff] at hq; cases l with | nil => exact absurd rfl hne | cons d l' => simpa using hq), runN_app, findR_app _ _ _ hl, hr]
        rfl
      · unfold vrdSem
        obtain ⟨m', rfl⟩ : ∃ m', m = m' + 1 := ⟨m - 1, by omega⟩
        rw [if_neg (by rw [hp_iff]; rw [hp_iff] at hq; cases l with | nil => exact absurd rfl hne | cons d l' => simpa using hq), runN_take 23 (m' + 1) l a]
        simp only [findR]
        rw [List.take_take, Nat.min_self, c]
        rfl
end Go.Proofs.YtnjlcdemfdokoaaGreatDoor
