import Derived.Test.YtblehbcehfmnkaaLC
namespace Go.Proofs.Ytblehbcehfmnkaa
open Go Go.RowKit
set_option linter.unusedVariables false
theorem and255 (a : Int) : ∃ A : Nat, bits BinOp.and IntKind.i64 a 255 = (A : Int) ∧ A < 256 := by
  refine ⟨(BitVec.ofInt 64 a).toNat % 256, ?_, Nat.mod_lt _ (by decide)⟩
  show IntKind.i64.wrap ((BitVec.ofInt 64 a &&& BitVec.ofInt 64 255).toNat : Int) = _
  have e : (BitVec.ofInt 64 255).toNat = 255 := by decide
  have e2 : (BitVec.ofInt 64 a).toNat &&& 255 = (BitVec.ofInt 64 a).toNat % 256 := Nat.and_two_pow_sub_one_eq_mod _ 8
  rw [BitVec.toNat_and, e, e2, IntKind.wrap_i64]
  have := Nat.mod_lt (BitVec.ofInt 64 a).toNat (show 0 < 256 by decide)
  omega
/-- one of the three -/
def T3 (x : Int) : Prop := x = 0 ∨ x = 1 ∨ x = 2
theorem not_not {x : Int} (h : T3 x) : notI (notI x) = x := by rcases h with rfl | rfl | rfl <;> rfl
theorem is_not {x : Int} (h : T3 x) : isI (notI x) = isI x := by rcases h with rfl | rfl | rfl <;> rfl
theorem is_all (x : Int) : isI x = 0 ∨ isI x = 1 := by unfold isI; split <;> simp
/-- what is joined depends on what is there, not on its order -/
theorem join_same (s : Int) {l m : List Int} (h : ∀ x, x ∈ l ↔ x ∈ m) : joinI s l = joinI s m := by
  unfold joinI
  rw [if_iff (h s), if_iff (p := ∃ x ∈ l, isI x = 1) (q := ∃ x ∈ m, isI x = 1) ⟨fun ⟨x, hx, e⟩ => ⟨x, (h x).1 hx, e⟩, fun ⟨x, hx, e⟩ => ⟨x, (h x).2 hx, e⟩⟩]
theorem join_comm (s : Int) (a b : List Int) : joinI s (a ++ b) = joinI s (b ++ a) := join_same s fun x => by simp [or_comm]
theorem join_twice (s : Int) (a : List Int) : joinI s (a ++ a) = joinI s a := join_same s fun x => by simp
theorem join_hit {s : Int} {l : List Int} (h : s ∈ l) : joinI s l = s := by unfold joinI; rw [if_pos h]
theorem join_unk {s : Int} {l : List Int} (h : s ∉ l) (x : Int) (hx : x ∈ l) (e : isI x = 1) : joinI s l = 2 := by unfold joinI; rw [if_neg h, if_pos ⟨x, hx, e⟩]
theorem join_rest {s : Int} {l : List Int} (h : s ∉ l) (hn : ∀ x ∈ l, isI x = 0) : joinI s l = notI s := by
  unfold joinI; rw [if_neg h, if_neg]
  rintro ⟨x, hx, e⟩; have := hn x hx; omega
theorem join_cases (s : Int) (l : List Int) : s ∈ l ∨ (s ∉ l ∧ ∃ x ∈ l, isI x = 1) ∨ (s ∉ l ∧ ∀ x ∈ l, isI x = 0) := by
  by_cases h : s ∈ l
  · exact .inl h
  · by_cases h2 : ∃ x ∈ l, isI x = 1
    · exact .inr (.inl ⟨h, h2⟩)
    · refine .inr (.inr ⟨h, fun x hx => ?_⟩)
      rcases is_all x with e | e
      · exact e
      · exact absurd ⟨x, hx, e⟩ h2
theorem join_three {s : Int} (hs : s = 0 ∨ s = 1) (l : List Int) : T3 (joinI s l) := by
  rcases join_cases s l with h | ⟨h, x, hx, e⟩ | ⟨h, hn⟩
  · rw [join_hit h]; rcases hs with rfl | rfl <;> simp [T3]
  · rw [join_unk h x hx e]; simp [T3]
  · rw [join_rest h hn]; rcases hs with rfl | rfl <;> simp [T3, notI]
theorem join_parts {s : Int} (hs : s = 0 ∨ s = 1) (a b : List Int) : joinI s (a ++ b) = joinI s [joinI s a, joinI s b] := by
  rcases join_cases s a with h | ⟨h, x, hx, e⟩ | ⟨h, hn⟩
  · rw [join_hit (List.mem_append_left _ h), join_hit h, join_hit (by simp)]
  · rcases join_cases s b with h' | ⟨h', x', hx', e'⟩ | ⟨h', hn'⟩
    · rw [join_hit (List.mem_append_right _ h'), join_hit h', join_hit (by simp)]
    · rw [join_unk (fun k => (List.mem_append.1 k).elim h h') x (List.mem_append_left _ hx) e, join_unk h x hx e, join_unk h' x' hx' e']
      rcases hs with rfl | rfl <;> decide
    · rw [join_unk (fun k => (List.mem_append.1 k).elim h h') x (List.mem_append_left _ hx) e, join_unk h x hx e, join_rest h' hn']
      rcases hs with rfl | rfl <;> decide
  · rcases join_cases s b with h' | ⟨h', x', hx', e'⟩ | ⟨h', hn'⟩
    · rw [join_hit (List.mem_append_right _ h'), join_hit h', join_hit (by simp)]
    · rw [join_unk (fun k => (List.mem_append.1 k).elim h h') x' (List.mem_append_right _ hx') e', join_rest h hn, join_unk h' x' hx' e']
      rcases hs with rfl | rfl <;> decide
    · rw [join_rest (fun k => (List.mem_append.1 k).elim h h') (fun x hx => (List.mem_append.1 hx).elim (hn x) (hn' x)), join_rest h hn, join_rest h' hn']
      rcases hs with rfl | rfl <;> decide
theorem join_one {s x : Int} (hs : s = 0 ∨ s = 1) (hx : T3 x) : joinI s [x] = x := by
  rcases hs with rfl | rfl <;> rcases hx with rfl | rfl | rfl <;> decide
theorem join_turn {s : Int} (hs : s = 0 ∨ s = 1) (l : List Int) (hl : ∀ x ∈ l, T3 x) : notI (joinI s l) = joinI (notI s) (l.map notI) := by
  have hm : notI s ∈ l.map notI ↔ s ∈ l := by
    rw [List.mem_map]
    constructor
    · rintro ⟨x, hx, e⟩
      have hx3 := hl x hx
      have : x = s := by rw [← not_not hx3, e]; rcases hs with rfl | rfl <;> rfl
      rw [← this]; exact hx
    · intro h; exact ⟨s, h, rfl⟩
  rcases join_cases s l with h | ⟨h, x, hx, e⟩ | ⟨h, hn⟩
  · rw [join_hit h, join_hit (hm.2 h)]
  · rw [join_unk h x hx e, join_unk (fun k => h (hm.1 k)) (notI x) (List.mem_map.2 ⟨x, hx, rfl⟩) (by rw [is_not (hl x hx)]; exact e)]
    rfl
  · rw [join_rest h hn, join_rest (fun k => h (hm.1 k)) (fun y hy => by
      obtain ⟨x, hx, rfl⟩ := List.mem_map.1 hy
      rw [is_not (hl x hx)]; exact hn x hx)]
/-- the other one more does not matter -/
theorem join_more {s : Int} (hs : s = 0 ∨ s = 1) (a b : List Int) : joinI s (a ++ [notI s] ++ b) = joinI s (a ++ b) := by
  have hne : s ≠ notI s := by rcases hs with rfl | rfl <;> decide
  have h0 : isI (notI s) = 0 := by rcases hs with rfl | rfl <;> decide
  have hm : s ∈ a ++ [notI s] ++ b ↔ s ∈ a ++ b := by simp [hne]
  unfold joinI
  rw [if_iff hm, if_iff (p := ∃ x ∈ a ++ [notI s] ++ b, isI x = 1) (q := ∃ x ∈ a ++ b, isI x = 1)]
  constructor
  · rintro ⟨x, hx, e⟩
    refine ⟨x, ?_, e⟩
    simp only [List.mem_append, List.mem_singleton] at hx ⊢
    rcases hx with (hx | hx) | hx
    · exact .inl hx
    · rw [hx] at e; omega
    · exact .inr hx
  · rintro ⟨x, hx, e⟩
    refine ⟨x, ?_, e⟩
    simp only [List.mem_append, List.mem_singleton] at hx ⊢
    rcases hx with hx | hx
    · exact .inl (.inl hx)
    · exact .inr hx
theorem mod3 (A : Nat) : T3 (Int.tmod (A : Int) 3) := by
  have : Int.tmod (A : Int) 3 = ((A % 3 : Nat) : Int) := rfl
  rw [this]
  unfold T3; omega
end Go.Proofs.Ytblehbcehfmnkaa
