import Derived.Test.YtcbogapnhabhkaaPI
namespace Go.Proofs.Ytcbogapnhabhkaa
open Go Go.RowKit
set_option linter.unusedVariables false
/-- the answer of Get -/
def getT : Option (Nat × List UInt8) → Nat → Value
  | some (n, r), L => .tuple #[.int .u64 n, .int .i64 ((L : Int) - (r.length : Int)), .bool true]
  | none, _ => .tuple #[.int .u64 0, .int .i64 0, .bool false]
def textT : Option (List UInt8 × List UInt8) → Nat → Value
  | some (s, r), L => .tuple #[.string ⟨s.toArray⟩, .int .i64 ((L : Int) - (r.length : Int)), .bool true]
  | none, _ => .tuple #[.string ⟨#[]⟩, .int .i64 0, .bool false]
def valT : Option (V4 × List UInt8) → Nat → Value
  | some (x, r), L => .tuple #[.agg #[.int .i64 x.k, .int .i64 x.n, .float .f64 x.f, .string ⟨x.s.toArray⟩], .int .i64 ((L : Int) - (r.length : Int)), .bool true]
  | none, _ => .tuple #[.agg #[.int .i64 0, .int .i64 0, .float .f64 0, .string ⟨#[]⟩], .int .i64 0, .bool false]
theorem numR_len {l r : List UInt8} {n : Nat} (h : numR l = some (n, r)) : r.length ≤ l.length := by rw [(numR_back h).2]; simp
theorem textR_len {l s r : List UInt8} (h : textR l = some (s, r)) : r.length ≤ l.length := by rw [(textR_back h).2]; simp
theorem fltR_len {l r : List UInt8} {f : Nat} (h : fltR l = some (f, r)) : r.length ≤ l.length := by
  unfold fltR at h
  split at h
  · rw [Option.map_eq_some_iff] at h
    obtain ⟨f', hf, he⟩ := h
    cases he; simp
  · cases h
theorem valR_len {l r : List UInt8} {x : V4} (h : valR l = some (x, r)) : r.length ≤ l.length := by
  cases l with
  | nil => simp [valR] at h
  | cons c t =>
    rw [valR_cons] at h
    have key : ∀ {m : List UInt8}, m.length ≤ t.length → m.length ≤ (c :: t).length := fun h => by simp; omega
    repeat' split at h
    all_goals first | (cases h; done) | skip
    all_goals
      simp only [Option.some.injEq, Prod.mk.injEq] at h
      obtain ⟨-, rfl⟩ := h
      first | exact key (Nat.le_refl _) | exact key (numR_len (by assumption)) | exact key (fltR_len (by assumption)) | exact key (textR_len (by assumption))
theorem get_any (v : Value) (l : List UInt8) (w : World) (hB : Bs w.heap.size w v l) (hl : l.length ≤ 1000000) :
    Calls Try.prog 19 #[v] w fun e w' => e = .returned (getT (numR l) l.length) ∧ Below w.heap.size w w' := by
  cases h : numR l with
  | none =>
    have h1 := Lib.hid (first_num_bad v l w hB h hl)
    simp only [getT]
    clear h
    go_enter Try.func19, Try.ntmps19
    go_wp2_with fail
    refine h1.out.mono ?_; rintro e w1 ⟨rfl, hb⟩
    go_wp2_with fail
    go_ret3
    exact ⟨rfl, hb⟩
  | some q =>
    obtain ⟨n, r⟩ := q
    have h1 := Lib.hid (first_num_ok v l r n w hB h hl (numR_len h))
    simp only [getT]
    clear h
    go_enter Try.func19, Try.ntmps19
    go_wp2_with fail
    refine h1.out.mono ?_; rintro e w1 ⟨rfl, hb⟩
    go_wp2_with fail
    go_ret3
    exact ⟨rfl, hb⟩
theorem gtext_any (v : Value) (l : List UInt8) (w : World) (hB : Bs w.heap.size w v l) (hl : l.length ≤ 1000000) :
    Calls Try.prog 21 #[v] w fun e w' => e = .returned (textT (textR l) l.length) ∧ Below w.heap.size w w' := by
  cases h : textR l with
  | none =>
    have h1 := Lib.hid (first_text_bad v l w hB h hl)
    simp only [textT]
    clear h
    go_enter Try.func21, Try.ntmps21
    go_wp2_with fail
    refine h1.out.mono ?_; rintro e w1 ⟨rfl, hb⟩
    go_wp2_with fail
    go_ret3
    exact ⟨rfl, hb⟩
  | some q =>
    obtain ⟨s, r⟩ := q
    have h1 := Lib.hid (first_text_ok v l s r w hB h hl (textR_len h))
    simp only [textT]
    clear h
    go_enter Try.func21, Try.ntmps21
    go_wp2_with fail
    refine h1.out.mono ?_; rintro e w1 ⟨rfl, hb⟩
    go_wp2_with fail
    go_ret3
    exact ⟨rfl, hb⟩
theorem gval_any (v : Value) (l : List UInt8) (w : World) (hB : Bs w.heap.size w v l) (hl : l.length ≤ 1000000) :
    Calls Try.prog 23 #[v] w fun e w' => e = .returned (valT (valR l) l.length) ∧ Below w.heap.size w w' := by
  have hsf := run_store_float
  have hl0 := Lib.hid (lies_new w (.int .i64 0) (.int .i64 0) (.float .f64 0) (.string ⟨#[]⟩) 29)
  have hf0 := Lib.hid (free_new w (.int .i64 0) (.int .i64 0) (.float .f64 0) (.string ⟨#[]⟩) 29)
  have hB' := (hB.below (below_a1 w (.cells #[.int .i64 0, .int .i64 0, .float .f64 0, .string ⟨#[]⟩] 29))).size
  cases h : valR l with
  | none =>
    have h1 := Lib.hid (first_val_bad v l _ hB' h hl)
    simp only [valT]
    clear h hB hB'
    go_enter Try.func23, Try.ntmps23
    go_wp2_with fail
    refine h1.out.mono ?_; rintro e w1 ⟨rfl, hb⟩
    have l1 := hl0.out.below hb
    have g1 := hf0.out.grow (block_lt_of_cell hl0.out.1) (grown_of_below (some (w.heap.size + 1)) hb) (by omega)
    have ⟨a0, a1, a2, a3⟩ := l1
    have ⟨b0, b1, b2, b3⟩ := g1
    have hc := Below.chain (below_a1 _ _) hb
    go_wp2_with fail
    exact ret_vnb rfl rfl rfl rfl rfl (Lies.set l1 _ _ _ _) ⟨rfl, below_set4 hc (Nat.le_refl _) _ _ _ _⟩
  | some q =>
    obtain ⟨⟨k, n, f, s⟩, r⟩ := q
    have h1 := Lib.hid (first_val_ok v l _ r _ hB' h hl (valR_len h))
    simp only [V4.v] at h1
    simp only [valT]
    clear h hB hB'
    go_enter Try.func23, Try.ntmps23
    go_wp2_with fail
    refine h1.out.mono ?_; rintro e w1 ⟨rfl, hb⟩
    have l1 := hl0.out.below hb
    have g1 := hf0.out.grow (block_lt_of_cell hl0.out.1) (grown_of_below (some (w.heap.size + 1)) hb) (by omega)
    have ⟨a0, a1, a2, a3⟩ := l1
    have ⟨b0, b1, b2, b3⟩ := g1
    have hc := Below.chain (below_a1 _ _) hb
    go_wp2_with fail
    exact ret_vnb rfl rfl rfl rfl rfl (Lies.set l1 _ _ _ _) ⟨rfl, below_set4 hc (Nat.le_refl _) _ _ _ _⟩
end Go.Proofs.Ytcbogapnhabhkaa
