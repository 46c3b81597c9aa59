import Derived.Test.YtdoefndppoglfaaHG
namespace Go.Proofs.Ytdoefndppoglfaa
set_option linter.unusedVariables false
/-! ### who leads there leads back -/
theorem bit11 : bitB 1 1 = true := by kernel_rfl
theorem bit12 : bitB 1 2 = false := by kernel_rfl
theorem bit14 : bitB 1 4 = false := by kernel_rfl
theorem bit21 : bitB 2 1 = false := by kernel_rfl
theorem bit22 : bitB 2 2 = true := by kernel_rfl
theorem bit24 : bitB 2 4 = false := by kernel_rfl
theorem bit41 : bitB 4 1 = false := by kernel_rfl
theorem bit42 : bitB 4 2 = false := by kernel_rfl
theorem bit44 : bitB 4 4 = true := by kernel_rfl
theorem bit71 : bitB 7 1 = true := by kernel_rfl
theorem bit72 : bitB 7 2 = true := by kernel_rfl
theorem bit74 : bitB 7 4 = true := by kernel_rfl
theorem bit51 : bitB 5 1 = true := by kernel_rfl
theorem bit52 : bitB 5 2 = false := by kernel_rfl
theorem bit54 : bitB 5 4 = true := by kernel_rfl
theorem step_off (n dir : Int) (i : Nat) (f t : Int) (d : Bool) (h : ¬ (f = n ∨ t = n)) : stepE n dir i f t d = none := by unfold stepE; rw [if_neg h]
theorem ends_eq {n f t : Int} (h : f = n ∨ t = n) : (t = f + t - n ↔ f = n) ∧ (f = f + t - n ↔ t = n) := by omega
theorem step7 (n : Int) (i : Nat) (f t : Int) (d : Bool) : stepE n 7 i f t d = if f = n ∨ t = n then some ((i : Int), f + t - n) else none := by
  by_cases h : f = n ∨ t = n
  · unfold stepE
    rw [if_pos h, if_pos h, if_pos]
    obtain ⟨e1, e2⟩ := ends_eq h
    unfold leadsB
    rw [bit71, bit72, bit74]
    cases d
    · simp only [Bool.false_eq_true, if_false, Bool.and_true, Bool.or_eq_true, Bool.and_eq_true, beq_iff_eq]
      rcases h with h | h
      · exact .inl ⟨h, e1.2 h⟩
      · exact .inr ⟨h, e2.2 h⟩
    · simp only [if_true, Bool.and_true, Bool.or_eq_true, Bool.and_eq_true, beq_iff_eq]
      rcases h with h | h
      · exact .inl ⟨h, e1.2 h⟩
      · exact .inr ⟨h, e2.2 h⟩
  · rw [if_neg h]; exact step_off _ _ _ _ _ _ h
theorem step4 (n : Int) (i : Nat) (f t : Int) (d : Bool) : stepE n 4 i f t d = if d = true ∧ f = n then some ((i : Int), f + t - n) else none := by
  by_cases h : f = n ∨ t = n
  · unfold stepE
    rw [if_pos h]
    obtain ⟨e1, e2⟩ := ends_eq h
    unfold leadsB
    rw [bit41, bit42, bit44]
    cases d
    · simp
    · by_cases hf : f = n
      · have := e1.2 hf
        simp only [if_true, Bool.and_true, Bool.and_false, Bool.or_false, Bool.and_eq_true, beq_iff_eq]
        rw [if_pos ⟨hf, this⟩, if_pos ⟨trivial, hf⟩]
      · simp [hf]
  · rw [step_off _ _ _ _ _ _ h, if_neg (fun c => h (.inl c.2))]
theorem step1 (n : Int) (i : Nat) (f t : Int) (d : Bool) : stepE n 1 i f t d = if d = true ∧ t = n then some ((i : Int), f + t - n) else none := by
  by_cases h : f = n ∨ t = n
  · unfold stepE
    rw [if_pos h]
    obtain ⟨e1, e2⟩ := ends_eq h
    unfold leadsB
    rw [bit11, bit12, bit14]
    cases d
    · simp
    · by_cases hf : t = n
      · have := e2.2 hf
        simp only [if_true, Bool.and_true, Bool.and_false, Bool.false_or, Bool.and_eq_true, beq_iff_eq]
        rw [if_pos ⟨hf, this⟩, if_pos ⟨trivial, hf⟩]
      · simp [hf]
  · rw [step_off _ _ _ _ _ _ h, if_neg (fun c => h (.inr c.2))]
theorem step2 (n : Int) (i : Nat) (f t : Int) (d : Bool) : stepE n 2 i f t d = if d = false ∧ (f = n ∨ t = n) then some ((i : Int), f + t - n) else none := by
  by_cases h : f = n ∨ t = n
  · unfold stepE
    rw [if_pos h]
    obtain ⟨e1, e2⟩ := ends_eq h
    unfold leadsB
    rw [bit21, bit22, bit24]
    cases d
    · simp only [Bool.false_eq_true, if_false, Bool.and_true, Bool.or_eq_true, Bool.and_eq_true, beq_iff_eq]
      have hl : (f = n ∧ t = f + t - n) ∨ (t = n ∧ f = f + t - n) := by
        rcases h with h | h
        · exact .inl ⟨h, e1.2 h⟩
        · exact .inr ⟨h, e2.2 h⟩
      rw [if_pos hl, if_pos ⟨trivial, h⟩]
    · simp
  · rw [step_off _ _ _ _ _ _ h, if_neg (fun c => h c.2)]
theorem mem_outN {g : Gd} {n dir : Int} {m : Nat} {x : St} : x ∈ outN g n dir m ↔ ∃ e, e < m ∧ stepE n dir e g.edges[e]!.fro g.edges[e]!.to g.edges[e]!.dir = some x := by
  unfold outN
  rw [List.mem_filterMap]
  constructor
  · rintro ⟨e, he, h⟩; exact ⟨e, List.mem_range.1 he, h⟩
  · rintro ⟨e, he, h⟩; exact ⟨e, List.mem_range.2 he, h⟩
/-- where it leads, and back -/
theorem turn_back {g : Gd} (hr : rightG g = 0) {n dir back : Int} (hd : (dir = 1 ∧ back = 4) ∨ (dir = 2 ∧ back = 2) ∨ (dir = 4 ∧ back = 1)) (hn : 0 ≤ n ∧ n < g.nodes.length) {x : St} (hx : x ∈ outG g n dir) : hasB (outG g x.2 back) x.1 n = true := by
  rw [hasB_mem]
  unfold outG at hx
  rw [if_pos hn, mem_outN] at hx
  obtain ⟨e, he, hs⟩ := hx
  obtain ⟨a1, a2, a3, a4⟩ := right_ends hr g.edges[e] (List.getElem_mem he)
  rw [getElem!_pos g.edges e he] at hs
  have key : ∀ y : Int, (0 ≤ y ∧ y < g.nodes.length) → stepE y back e g.edges[e].fro g.edges[e].to g.edges[e].dir = some (((e : Nat) : Int), n) → ((e : Int), n) ∈ outG g y back := by
    intro y hy h
    unfold outG
    rw [if_pos hy, mem_outN]
    exact ⟨e, he, by rw [getElem!_pos g.edges e he]; exact h⟩
  generalize g.edges[e].fro = f at *
  generalize g.edges[e].to = t at *
  generalize g.edges[e].dir = d at *
  rcases hd with ⟨rfl, rfl⟩ | ⟨rfl, rfl⟩ | ⟨rfl, rfl⟩
  · rw [step1] at hs
    split at hs
    · next h =>
      cases hs
      refine key _ (by dsimp only; omega) ?_
      dsimp only
      rw [step4, if_pos ⟨h.1, by omega⟩, show f + t - (f + t - n) = n by omega]
    · cases hs
  · rw [step2] at hs
    split at hs
    · next h =>
      cases hs
      refine key _ (by dsimp only; omega) ?_
      dsimp only
      rw [step2, if_pos ⟨h.1, by omega⟩, show f + t - (f + t - n) = n by omega]
    · cases hs
  · rw [step4] at hs
    split at hs
    · next h =>
      cases hs
      refine key _ (by dsimp only; omega) ?_
      dsimp only
      rw [step1, if_pos ⟨h.1, by omega⟩, show f + t - (f + t - n) = n by omega]
    · cases hs
/-- a directed loop counts twice -/
def lpW (g : Gd) (x : St) : Nat := if g.edges[x.1.toNat]!.fro = g.edges[x.1.toNat]!.to ∧ g.edges[x.1.toNat]!.dir = true then 1 else 0
def wtW (g : Gd) (x : St) : Nat := if g.edges[x.1.toNat]!.fro = g.edges[x.1.toNat]!.to then 2 else 1
theorem opt_len (c : Prop) [Decidable c] (x : St) : ((if c then some x else none : Option St).toList).length = if c then 1 else 0 := by split <;> rfl
theorem opt_sum (c : Prop) [Decidable c] (x : St) (F : St → Nat) : (((if c then some x else none : Option St).toList).map F).sum = if c then F x else 0 := by split <;> simp
theorem cnt_turn (g : Gd) (n : Int) : ∀ m, m ≤ g.edges.length → (outN g n 1 m).length + (outN g n 2 m).length + (outN g n 4 m).length = (outN g n 7 m).length + ((outN g n 7 m).map (lpW g)).sum
  | 0, _ => rfl
  | m + 1, h => by
    have ih := cnt_turn g n m (by omega)
    have hm : m < g.edges.length := by omega
    rw [outN_succ g n 1 m hm, outN_succ g n 2 m hm, outN_succ g n 4 m hm, outN_succ g n 7 m hm, step1, step2, step4, step7]
    have hw : lpW g ((m : Int), g.edges[m].fro + g.edges[m].to - n) = if g.edges[m].fro = g.edges[m].to ∧ g.edges[m].dir = true then 1 else 0 := by
      unfold lpW
      dsimp only
      rw [Int.toNat_natCast, getElem!_pos g.edges m hm]
    simp only [List.length_append, List.map_append, List.sum_append, opt_len, opt_sum, hw]
    generalize g.edges[m].fro = f at *
    generalize g.edges[m].to = t at *
    generalize g.edges[m].dir = d at *
    by_cases hf : f = n
    · by_cases ht : t = n
      · cases d <;> simp [hf, ht] <;> omega
      · have h2 : ¬ n = t := fun e => ht e.symm
        cases d <;> simp [hf, ht, h2] <;> omega
    · by_cases ht : t = n
      · cases d <;> simp [hf, ht] <;> omega
      · cases d <;> simp [hf, ht] <;> omega
def sumR (F : Nat → Nat) : Nat → Nat
  | 0 => 0
  | k + 1 => sumR F k + F k
theorem sumR_add (F G : Nat → Nat) : ∀ k, sumR (fun i => F i + G i) k = sumR F k + sumR G k
  | 0 => rfl
  | k + 1 => by unfold sumR; rw [sumR_add F G k]; omega
theorem sumR_le (F : Nat → Nat) (c : Nat) (h : ∀ i, F i ≤ c) : ∀ k, sumR F k ≤ c * k
  | 0 => Nat.le_refl _
  | k + 1 => by unfold sumR; have := sumR_le F c h k; have := h k; rw [Nat.mul_succ]; omega
theorem sumR_ends (f t : Nat) : ∀ k, sumR (fun i => if (f : Int) = i ∨ (t : Int) = i then (if f = t then 2 else 1) else 0) k = (if f < k then 1 else 0) + (if t < k then 1 else 0)
  | 0 => rfl
  | k + 1 => by
    unfold sumR
    rw [sumR_ends f t k]
    have lt1 : ∀ x : Nat, (if x < k + 1 then 1 else 0) = (if x < k then 1 else 0) + (if x = k then 1 else 0) := by
      intro x
      by_cases hx : x = k
      · have a : ¬ x < k := by omega
        have b : x < k + 1 := by omega
        rw [if_pos b, if_neg a, if_pos hx]
      · by_cases hy : x < k
        · have b : x < k + 1 := by omega
          rw [if_pos b, if_pos hy, if_neg hx]
        · have b : ¬ x < k + 1 := by omega
          rw [if_neg b, if_neg hy, if_neg hx]
    rw [lt1 f, lt1 t]
    have main : (if (f : Int) = k ∨ (t : Int) = k then (if f = t then 2 else 1) else 0) = (if f = k then 1 else 0) + (if t = k then 1 else 0) := by
      by_cases h1 : f = k
      · by_cases h2 : t = k
        · rw [if_pos (Or.inl (by omega)), if_pos (by omega), if_pos h1, if_pos h2]
        · rw [if_pos (Or.inl (by omega)), if_neg (by omega), if_pos h1, if_neg h2]
      · by_cases h2 : t = k
        · rw [if_pos (Or.inr (by omega)), if_neg (by omega), if_neg h1, if_pos h2]
        · rw [if_neg (by omega), if_neg h1, if_neg h2]
    omega
/-- what a node's steps count -/
def turnW (g : Gd) (m i : Nat) : Nat := ((outN g i 7 m).map (wtW g)).sum
theorem turnW_succ (g : Gd) (m i : Nat) (hm : m < g.edges.length) : turnW g (m + 1) i = turnW g m i + (if g.edges[m].fro = (i : Int) ∨ g.edges[m].to = (i : Int) then (if g.edges[m].fro = g.edges[m].to then 2 else 1) else 0) := by
  unfold turnW
  rw [outN_succ g i 7 m hm, List.map_append, List.sum_append, step7]
  congr 1
  have hw : wtW g ((m : Int), g.edges[m].fro + g.edges[m].to - i) = if g.edges[m].fro = g.edges[m].to then 2 else 1 := by
    unfold wtW
    dsimp only
    rw [Int.toNat_natCast, getElem!_pos g.edges m hm]
  by_cases h : g.edges[m].fro = (i : Int) ∨ g.edges[m].to = (i : Int)
  · rw [if_pos h, if_pos h]
    simp [hw]
  · rw [if_neg h, if_neg h]
    rfl
theorem sum_turn {g : Gd} (hr : rightG g = 0) : ∀ m, m ≤ g.edges.length → sumR (turnW g m) g.nodes.length = 2 * m
  | 0, _ => by
    have : ∀ k, sumR (turnW g 0) k = 0 := by
      intro k
      induction k with
      | zero => rfl
      | succ k ih => unfold sumR; rw [ih]; rfl
    exact this _
  | m + 1, h => by
    have hm : m < g.edges.length := by omega
    have ih := sum_turn hr m (by omega)
    obtain ⟨a1, a2, a3, a4⟩ := right_ends hr g.edges[m] (List.getElem_mem hm)
    obtain ⟨f, hf⟩ := Int.eq_ofNat_of_zero_le a1
    obtain ⟨t, ht⟩ := Int.eq_ofNat_of_zero_le a3
    have e : turnW g (m + 1) = fun i => turnW g m i + (if (f : Int) = (i : Int) ∨ (t : Int) = (i : Int) then (if f = t then 2 else 1) else 0) := by
      funext i
      rw [turnW_succ g m i hm, hf, ht]
      congr 1
      by_cases hft : f = t
      · subst hft; simp
      · rw [if_neg hft, if_neg (show ¬ (f : Int) = (t : Int) by omega)]
    rw [e, sumR_add, ih, sumR_ends, if_pos (by omega), if_pos (by omega)]
    omega
theorem out7_edge {g : Gd} {n : Int} {m : Nat} (hm : m ≤ g.edges.length) {x : St} (hx : x ∈ outN g n 7 m) : ∃ e, ∃ he : e < g.edges.length, e < m ∧ x.1 = (e : Int) ∧ (g.edges[e].fro = n ∨ g.edges[e].to = n) := by
  rw [mem_outN] at hx
  obtain ⟨e, he, hs⟩ := hx
  rw [step7] at hs
  split at hs
  · next h =>
    cases hs
    rw [getElem!_pos g.edges e (by omega)] at h
    exact ⟨e, by omega, he, rfl, h⟩
  · cases hs
theorem out_less {g : Gd} {n dir : Int} : ∀ m, m ≤ g.edges.length → (outN g n dir m).Pairwise (fun a b => a.1 < b.1)
  | 0, _ => List.Pairwise.nil
  | m + 1, h => by
    rw [outN_succ g n dir m (by omega), List.pairwise_append]
    have low : ∀ e f t d x, stepE n dir e f t d = some x → x.1 = (e : Int) := by
      intro e f t d x hs
      unfold stepE at hs
      split at hs
      · split at hs
        · cases hs; rfl
        · cases hs
      · cases hs
    refine ⟨out_less m (by omega), ?_, ?_⟩
    · cases stepE n dir m g.edges[m].fro g.edges[m].to g.edges[m].dir <;> simp
    · intro a ha b hb
      rw [mem_outN] at ha
      obtain ⟨e, he, hs⟩ := ha
      have h1 := low _ _ _ _ _ hs
      have h2 := low _ _ _ _ _ (Option.mem_toList.1 hb)
      omega
end Go.Proofs.Ytdoefndppoglfaa
