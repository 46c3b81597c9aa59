import Derived.Test.YtlnmjbheohkanaaRows
import Derived.Lib.SlicesCompact
import Derived.Sort.Walk0
namespace Go.Proofs.Ytlnmjbheohkanaa
open Go
set_option linter.unusedVariables false
theorem bl_irr : ∀ x : List UInt8, Op.bytesLess x x = false
  | [] => rfl
  | a :: x => by simp [Op.bytesLess, bl_irr x]
theorem bl_tri : ∀ x y : List UInt8, (Op.bytesLess x y = true ∧ Op.bytesLess y x = false ∧ x ≠ y) ∨ (Op.bytesLess x y = false ∧ Op.bytesLess y x = true ∧ x ≠ y) ∨ (Op.bytesLess x y = false ∧ Op.bytesLess y x = false ∧ x = y)
  | [], [] => by simp [Op.bytesLess]
  | [], _ :: _ => by simp [Op.bytesLess]
  | _ :: _, [] => by simp [Op.bytesLess]
  | a :: x, b :: y => by
    have h := bl_tri x y
    by_cases e : a = b
    · subst e
      simp [Op.bytesLess]
      rcases h with h | h | h <;> simp [h, bl_irr]
    · have e' : ¬ b = a := fun q => e q.symm
      simp [Op.bytesLess, e, e']
      have : a.toNat ≠ b.toNat := fun q => e (UInt8.toNat_inj.1 q)
      simp only [UInt8.lt_iff_toNat_lt, UInt8.le_iff_toNat_le]
      omega
theorem bl_trans : ∀ x y z : List UInt8, Op.bytesLess x y = true → Op.bytesLess y z = true → Op.bytesLess x z = true
  | x, [], z, h, _ => by cases x <;> simp [Op.bytesLess] at h
  | x, b :: y, [], _, h => by simp [Op.bytesLess] at h
  | [], b :: y, c :: z, _, _ => by simp [Op.bytesLess]
  | a :: x, b :: y, c :: z, h1, h2 => by
    have ih := bl_trans x y z
    simp only [Op.bytesLess, Bool.or_eq_true, Bool.and_eq_true, decide_eq_true_eq, beq_iff_eq] at h1 h2 ⊢
    rcases h1 with h1 | ⟨rfl, h1⟩
    · rcases h2 with h2 | ⟨rfl, h2⟩
      · left
        simp only [UInt8.lt_iff_toNat_lt] at *
        omega
      · left; exact h1
    · rcases h2 with h2 | ⟨rfl, h2⟩
      · left; exact h2
      · right; exact ⟨rfl, ih h1 h2⟩
abbrev By := List UInt8
/-- each less than all behind it -/
def Rising (l : List By) : Prop := l.Pairwise fun a b => Op.bytesLess a b = true
theorem rising_ext : ∀ (a b : List By), Rising a → Rising b → (∀ x, x ∈ a ↔ x ∈ b) → a = b
  | [], [], _, _, _ => rfl
  | [], y :: b, _, _, h => by have := (h y).2 (by simp); simp at this
  | x :: a, [], _, _, h => by have := (h x).1 (by simp); simp at this
  | x :: a, y :: b, ha, hb, h => by
    have ha' := List.pairwise_cons.1 ha
    have hb' := List.pairwise_cons.1 hb
    have exy : x = y := by
      have h1 := (h x).1 (by simp)
      have h2 := (h y).2 (by simp)
      rcases List.mem_cons.1 h1 with e | h1
      · exact e
      rcases List.mem_cons.1 h2 with e | h2
      · exact e.symm
      have q1 := hb'.1 x h1
      have q2 := ha'.1 y h2
      have := bl_trans x y x q2 q1
      rw [bl_irr] at this; cases this
    subst exy
    rw [rising_ext a b ha'.2 hb'.2 fun z => ?_]
    constructor
    · intro hz
      rcases List.mem_cons.1 ((h z).1 (by simp [hz])) with e | h1
      · subst e
        have := ha'.1 z hz
        rw [bl_irr] at this; cases this
      · exact h1
    · intro hz
      rcases List.mem_cons.1 ((h z).2 (by simp [hz])) with e | h1
      · subst e
        have := hb'.1 z hz
        rw [bl_irr] at this; cases this
      · exact h1
def insW (l : List By) (s : By) : List By := if s ∈ l then l else l.takeWhile (fun x => Op.bytesLess x s) ++ s :: l.dropWhile (fun x => Op.bytesLess x s)
theorem insW_mem (l : List By) (s x : By) : x ∈ insW l s ↔ x ∈ l ∨ x = s := by
  unfold insW
  split
  · rename_i h
    constructor
    · exact .inl
    · rintro (h1 | rfl)
      · exact h1
      · exact h
  · have e := List.takeWhile_append_dropWhile (p := fun x => Op.bytesLess x s) (l := l)
    have hm : x ∈ l ↔ x ∈ l.takeWhile (fun x => Op.bytesLess x s) ∨ x ∈ l.dropWhile (fun x => Op.bytesLess x s) := by
      rw [← List.mem_append, e]
    rw [hm, List.mem_append, List.mem_cons]
    constructor
    · rintro (h | h | h)
      · exact .inl (.inl h)
      · exact .inr h
      · exact .inl (.inr h)
    · rintro ((h | h) | h)
      · exact .inl h
      · exact .inr (.inr h)
      · exact .inr (.inl h)
theorem drop_head (l : List By) (s : By) (hl : Rising l) (hs : s ∉ l) : ∀ y ∈ l.dropWhile (fun x => Op.bytesLess x s), Op.bytesLess s y = true := by
  induction l with
  | nil => intro y hy; simp at hy
  | cons z l ih =>
    have hl' := List.pairwise_cons.1 hl
    intro y hy
    cases hz : Op.bytesLess z s with
    | true =>
      rw [List.dropWhile_cons, hz] at hy
      exact ih hl'.2 (fun h => hs (by simp [h])) y (by simpa using hy)
    | false =>
      rw [List.dropWhile_cons, hz] at hy
      have hsz : Op.bytesLess s z = true := by
        rcases bl_tri s z with h | h | h
        · exact h.1
        · rw [hz] at h; exact absurd h.2.1 (by simp)
        · exact absurd h.2.2 (fun e => hs (by simp [e]))
      have hy' : y = z ∨ y ∈ l := by simpa using hy
      rcases hy' with rfl | hy'
      · exact hsz
      · exact bl_trans s z y hsz (hl'.1 y hy')
theorem take_less (l : List By) (s : By) : ∀ y ∈ l.takeWhile (fun x => Op.bytesLess x s), Op.bytesLess y s = true := by
  induction l with
  | nil => intro y hy; simp at hy
  | cons z l ih =>
    intro y hy
    cases hz : Op.bytesLess z s with
    | true =>
      rw [List.takeWhile_cons, hz] at hy
      have hy' : y = z ∨ y ∈ l.takeWhile (fun x => Op.bytesLess x s) := by simpa using hy
      rcases hy' with rfl | hy'
      · exact hz
      · exact ih y hy'
    | false => rw [List.takeWhile_cons, hz] at hy; simp at hy
theorem insW_rising (l : List By) (s : By) (hl : Rising l) : Rising (insW l s) := by
  unfold insW
  split
  · exact hl
  · rename_i hs
    have e := List.takeWhile_append_dropWhile (p := fun x => Op.bytesLess x s) (l := l)
    have h1 := drop_head l s hl hs
    have h2 := take_less l s
    unfold Rising at hl ⊢
    rw [← e, List.pairwise_append] at hl
    rw [List.pairwise_append, List.pairwise_cons]
    refine ⟨hl.1, ⟨h1, hl.2.1⟩, fun a ha b hb => ?_⟩
    rcases List.mem_cons.1 hb with rfl | hb
    · exact h2 a ha
    · exact hl.2.2 a ha b hb
def addW (l ns : List By) : List By := ns.foldl insW l
theorem addW_cons (l ns : List By) (s : By) : addW l (s :: ns) = addW (insW l s) ns := rfl
theorem addW_app (l ns ms : List By) : addW l (ns ++ ms) = addW (addW l ns) ms := by unfold addW; rw [List.foldl_append]
theorem addW_rising (ns : List By) : ∀ l, Rising l → Rising (addW l ns) := by
  induction ns with
  | nil => intro l h; exact h
  | cons s ns ih => intro l h; rw [addW_cons]; exact ih _ (insW_rising l s h)
theorem addW_mem (ns : List By) (x : By) : ∀ l, x ∈ addW l ns ↔ x ∈ l ∨ x ∈ ns := by
  induction ns with
  | nil => intro l; simp [addW]
  | cons s ns ih =>
    intro l
    rw [addW_cons, ih, insW_mem, List.mem_cons]
    constructor
    · rintro ((h | h) | h)
      · exact .inl h
      · exact .inr (.inl h)
      · exact .inr (.inr h)
    · rintro (h | h | h)
      · exact .inl (.inl h)
      · exact .inl (.inr h)
      · exact .inr h
theorem rising_nil : Rising [] := List.Pairwise.nil
def LeW (x y : By) : Prop := Op.bytesLess y x = false
/-- of a sorted row what is left, each once, and each of them -/
theorem compact_upto (d : Array By) (hd : ∀ i j, i < j → j < d.size → LeW d[i]! d[j]!) : ∀ m, m ≤ d.size → Rising (Lib.compactUpTo d m) ∧ (∀ x, x ∈ Lib.compactUpTo d m ↔ ∃ j, j < m ∧ d[j]! = x) := by
  intro m
  induction m with
  | zero => intro _; exact ⟨List.Pairwise.nil, fun x => by simp [Lib.compactUpTo]⟩
  | succ m ih =>
    intro hm
    obtain ⟨h1, h2⟩ := ih (by omega)
    rw [Lib.compactUpTo_succ]
    cases hk : Lib.keeps d m with
    | false =>
      have hk' : ¬ (m = 0 ∨ d[m]! ≠ d[m - 1]!) := by unfold Lib.keeps at hk; simpa using hk
      have h0 : ¬ m = 0 := fun e => hk' (.inl e)
      have he : d[m]! = d[m - 1]! := Classical.byContradiction fun e => hk' (.inr e)
      simp only [Bool.false_eq_true, if_false, List.append_nil]
      refine ⟨h1, fun x => ?_⟩
      rw [h2]
      constructor
      · rintro ⟨j, hj, hx⟩; exact ⟨j, by omega, hx⟩
      · rintro ⟨j, hj, hx⟩
        by_cases e : j = m
        · subst e; exact ⟨j - 1, by omega, by rw [← he]; exact hx⟩
        · exact ⟨j, by omega, hx⟩
    | true =>
      simp only [if_true]
      have hlt : ∀ x ∈ Lib.compactUpTo d m, Op.bytesLess x d[m]! = true := by
        intro x hx
        obtain ⟨j, hj, rfl⟩ := (h2 x).1 hx
        have hk' : m = 0 ∨ d[m]! ≠ d[m - 1]! := by unfold Lib.keeps at hk; simpa using hk
        have hne : d[m]! ≠ d[m - 1]! := by
          rcases hk' with e | e
          · omega
          · exact e
        have a1 : LeW d[m - 1]! d[m]! := hd _ _ (by omega) (by omega)
        have a2 : Op.bytesLess d[m - 1]! d[m]! = true := by
          rcases bl_tri d[m - 1]! d[m]! with h | h | h
          · exact h.1
          · unfold LeW at a1; rw [h.2.1] at a1; cases a1
          · exact absurd h.2.2.symm hne
        by_cases e : j = m - 1
        · subst e; exact a2
        · have a3 : LeW d[j]! d[m - 1]! := hd _ _ (by omega) (by omega)
          rcases bl_tri d[j]! d[m - 1]! with h | h | h
          · exact bl_trans _ _ _ h.1 a2
          · unfold LeW at a3; rw [h.2.1] at a3; cases a3
          · rw [h.2.2]; exact a2
      refine ⟨?_, fun x => ?_⟩
      · unfold Rising at h1 ⊢
        rw [List.pairwise_append]
        refine ⟨h1, List.pairwise_singleton _ _, fun a ha b hb => ?_⟩
        rw [List.mem_singleton.1 hb]; exact hlt a ha
      · rw [List.mem_append, h2, List.mem_singleton]
        constructor
        · rintro (⟨j, hj, hx⟩ | rfl)
          · exact ⟨j, by omega, hx⟩
          · exact ⟨m, by omega, rfl⟩
        · rintro ⟨j, hj, hx⟩
          by_cases e : j = m
          · subst e; exact .inr hx.symm
          · exact .inl ⟨j, by omega, hx⟩
theorem le_of (x y : By) : decide (x ≤ y) = !(Op.bytesLess y x) := by
  rw [bytesLess_eq, Bool.eq_iff_iff]
  simp
theorem compact_sort (ns : List By) : Lib.compact (ns.mergeSort fun x y => decide (x ≤ y)) = addW [] ns := by
  have hp := List.mergeSort_perm ns fun x y => decide (x ≤ y)
  have hs : (ns.mergeSort fun x y => decide (x ≤ y)).Pairwise fun x y => decide (x ≤ y) = true := by
    refine List.pairwise_mergeSort (fun a b c h1 h2 => ?_) (fun a b => ?_) ns
    · rw [le_of] at *
      simp only [Bool.not_eq_true'] at *
      rcases bl_tri c a with h | h | h
      · rcases bl_tri b a with k | k | k
        · rw [k.1] at h1; cases h1
        · have := bl_trans c a b h.1 k.2.1
          rw [this] at h2; cases h2
        · rw [k.2.2] at h2; rw [h.1] at h2; cases h2
      · exact h.1
      · exact h.1
    · rw [le_of, le_of]
      rcases bl_tri a b with h | h | h <;> simp [h, bl_irr]
  generalize ns.mergeSort (fun x y => decide (x ≤ y)) = zs at *
  have hd : ∀ i j, i < j → j < zs.toArray.size → LeW zs.toArray[i]! zs.toArray[j]! := by
    intro i j hij hj
    have hj' : j < zs.length := by simpa using hj
    have := List.pairwise_iff_getElem.1 hs i j (by omega) hj' hij
    rw [le_of] at this
    unfold LeW
    have e1 : zs.toArray[i]! = zs[i] := by simp [getElem!_pos, show i < zs.length by omega]
    have e2 : zs.toArray[j]! = zs[j] := by simp [getElem!_pos, hj']
    rw [e1, e2]
    simpa using this
  obtain ⟨h1, h2⟩ := compact_upto zs.toArray hd zs.length (by simp)
  refine rising_ext _ _ h1 (addW_rising ns [] rising_nil) fun x => ?_
  rw [addW_mem]
  have h3 := h2 x
  unfold Lib.compact
  rw [h3, ← hp.mem_iff]
  constructor
  · rintro ⟨j, hj, rfl⟩
    right
    have e1 : zs.toArray[j]! = zs[j] := by simp [getElem!_pos, hj]
    rw [e1]; exact List.getElem_mem hj
  · rintro (h | h)
    · simp at h
    · obtain ⟨j, hj, rfl⟩ := List.getElem_of_mem h
      exact ⟨j, hj, by simp [getElem!_pos, hj]⟩
end Go.Proofs.Ytlnmjbheohkanaa
