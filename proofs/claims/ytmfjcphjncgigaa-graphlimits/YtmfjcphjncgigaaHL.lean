import Derived.Test.YtmfjcphjncgigaaHJ
import Derived.Lib.ItoaNum
namespace Go.Proofs.Ytmfjcphjncgigaa
set_option linter.unusedVariables false
/-! ### a graph of so many nodes and edges, with numbers in their names -/
theorem dec_more {u : Nat} (h : ¬ u < 10) : Lib.decDigits u = Lib.decDigits (u / 10) ++ [UInt8.ofNat (48 + u % 10)] := by rw [Lib.decDigits, dif_neg h]
theorem dig_nat (k : Nat) (h : k < 10) : (UInt8.ofNat (48 + k)).toNat = 48 + k := by
  rw [UInt8.toNat_ofNat']
  omega
theorem dec_all (u : Nat) : ∀ c ∈ Lib.decDigits u, 48 ≤ c.toNat ∧ c.toNat ≤ 57 := by
  induction u using Nat.strongRecOn with
  | ind u ih =>
    intro c hc
    by_cases h : u < 10
    · rw [Lib.decDigits_one h] at hc
      rw [List.mem_singleton] at hc
      subst hc
      rw [dig_nat u h]
      omega
    · rw [dec_more h, List.mem_append] at hc
      rcases hc with hc | hc
      · exact ih (u / 10) (by omega) c hc
      · rw [List.mem_singleton] at hc
        subst hc
        rw [dig_nat _ (by omega)]
        omega
theorem dec_short : ∀ (k u : Nat), u < 10 ^ (k + 1) → (Lib.decDigits u).length ≤ k + 1
  | 0, u, h => by
    rw [Lib.decDigits_one (by simpa using h)]
    exact Nat.le_refl _
  | k + 1, u, h => by
    by_cases h10 : u < 10
    · rw [Lib.decDigits_one h10]
      simp
    · rw [dec_more h10, List.length_append]
      have : u / 10 < 10 ^ (k + 1) := by
        rw [Nat.pow_succ] at h
        omega
      have := dec_short k (u / 10) this
      simp only [List.length_singleton]
      omega
def decVal (l : List UInt8) : Nat := l.foldl (fun a c => 10 * a + (c.toNat - 48)) 0
theorem decVal_dec (u : Nat) : decVal (Lib.decDigits u) = u := by
  induction u using Nat.strongRecOn with
  | ind u ih =>
    by_cases h : u < 10
    · rw [Lib.decDigits_one h]
      unfold decVal
      rw [List.foldl_cons, List.foldl_nil, dig_nat u h]
      omega
    · have := ih (u / 10) (by omega)
      rw [dec_more h]
      unfold decVal at this ⊢
      rw [List.foldl_append, this, List.foldl_cons, List.foldl_nil, dig_nat _ (by omega)]
      omega
theorem dec_inj {a b : Nat} (h : Lib.decDigits a = Lib.decDigits b) : a = b := by rw [← decVal_dec a, ← decVal_dec b, h]
def nmN (c : UInt8) (i : Nat) : ByteArray := ⟨(c :: Lib.decDigits i).toArray⟩
theorem byt_nm (c : UInt8) (i : Nat) : byt (nmN c i) = c :: Lib.decDigits i := rfl
theorem nm_inj {c : UInt8} {i j : Nat} (h : byt (nmN c i) = byt (nmN c j)) : i = j := by
  rw [byt_nm, byt_nm] at h
  exact dec_inj (List.cons.inj h).2
theorem nm_word (c : UInt8) (hc : digitB c.toNat = false ∧ okc c.toNat = true) (i : Nat) (hi : i < 10000) : wordB (nmN c i) = true := by
  unfold wordB
  rw [show (nmN c i).data.toList = c :: Lib.decDigits i from rfl, wordL_cons]
  have h1 := dec_short 3 i (by simpa using hi)
  have h2 : (c :: Lib.decDigits i).length ≤ 40 := by simp only [List.length_cons]; omega
  rw [decide_eq_true h2, hc.1, Bool.true_and, Bool.not_false, Bool.true_and, List.all_cons, hc.2, Bool.true_and, List.all_eq_true]
  intro d hd
  have := dec_all i d hd
  unfold okc
  have a1 : decide (48 ≤ d.toNat) = true := decide_eq_true this.1
  have a2 : decide (d.toNat ≤ 57) = true := decide_eq_true this.2
  rw [a1, a2]
  simp
def ndL (i : Nat) : Nd := ⟨nmN 110 i, [], []⟩
def edL (n i : Nat) : Ed := ⟨nmN 101 i, ((i % n : Nat) : Int), ((i * 7 % n : Nat) : Int), false, [], []⟩
def gL (n m : Nat) (tw : Bool) : Gd := ⟨if tw = true then ((List.range n).map ndL).set (n - 1) (ndL 0) else (List.range n).map ndL, (List.range m).map (edL n)⟩
theorem findB_self {l : List ByteArray} (hd : ∀ i j (hi : i < l.length) (hj : j < l.length), byt l[i] = byt l[j] → i = j) (i : Nat) (hi : i < l.length) : findB l l[i] = i :=
  findB_at hi rfl fun j hj e => by have := hd j i (by omega) hi e; omega
theorem ok110 : digitB (110 : UInt8).toNat = false ∧ okc (110 : UInt8).toNat = true := by decide
theorem ok101 : digitB (101 : UInt8).toNat = false ∧ okc (101 : UInt8).toNat = true := by decide
theorem edges_gL (nodes : List Nd) (n m : Nat) (hn : nodes.length = n) (h1 : 1 ≤ n) (hm : m ≤ 1000) : edgesB ⟨nodes, (List.range m).map (edL n)⟩ m = true := by
  unfold edgesB
  rw [List.all_eq_true]
  intro i hi
  rw [List.mem_range] at hi
  dsimp only
  have hl : i < ((List.range m).map (edL n)).length := by simpa using hi
  rw [getElem!_pos _ i hl, List.getElem_map, List.getElem_range]
  unfold edgeB
  have hN : namesD ⟨nodes, (List.range m).map (edL n)⟩ = (List.range m).map (nmN 101) := by unfold namesD; rw [List.map_map]; rfl
  have hf : findB ((List.range m).map (nmN 101)) (nmN 101 i) = i := by
    have := findB_self (l := (List.range m).map (nmN 101)) (fun a b ha hb e => by
      rw [List.getElem_map, List.getElem_map, List.getElem_range, List.getElem_range] at e
      exact nm_inj e) i (by simpa using hi)
    rw [List.getElem_map, List.getElem_range] at this
    exact this
  have he : endsB nodes.length (edL n i) = true := by
    unfold endsB edL
    dsimp only
    have b1 := Nat.mod_lt i (show 0 < n by omega)
    have b2 := Nat.mod_lt (i * 7) (show 0 < n by omega)
    rw [hn, decide_eq_true (show (0 : Int) ≤ min ((i % n : Nat) : Int) ((i * 7 % n : Nat) : Int) by omega), decide_eq_true (show max ((i % n : Nat) : Int) ((i * 7 % n : Nat) : Int) < (n : Int) by omega)]
    rfl
  rw [hN, show (edL n i).name = nmN 101 i from rfl, hf, he, nm_word 101 ok101 i (by omega)]
  simp only [decide_true, Bool.and_true, Bool.true_and]
  rfl
theorem node_gL (ns : List ByteArray) (i : Nat) (k : Nat) (hk : k < 10000) : nodeB ns i (ndL k) = decide (findB ns (nmN 110 k) = i) := by
  unfold nodeB
  rw [show (ndL k).name = nmN 110 k from rfl, nm_word 110 ok110 k hk]
  rfl
theorem right_gL (n m : Nat) (tw : Bool) (h1 : 1 ≤ n) : rightG (gL n m tw) = if 1000 < n ∨ 1000 < m then 6 else if tw = true ∧ 1 < n then 1 else 0 := by
  have ln : (gL n m tw).nodes.length = n := by unfold gL; cases tw <;> simp
  have lm : (gL n m tw).edges.length = m := by unfold gL; simp
  unfold rightG
  rw [ln, lm]
  by_cases hb : 1000 < n ∨ 1000 < m
  · rw [if_pos hb, if_pos hb]
  · rw [if_neg hb, if_neg hb]
    have he : edgesB (gL n m tw) m = true := edges_gL _ n m ln h1 (by omega)
    rw [he, Bool.and_true]
    by_cases ht : tw = true ∧ 1 < n
    · rw [if_pos ht]
      obtain ⟨rfl, h2⟩ := ht
      have hf : nodesB (gL n m true) (gL n m true).nodes.length = false := by
        refine nodesB_no (n := n - 1) (by rw [ln]; omega) ?_
        have e : (gL n m true).nodes[n - 1]'(by rw [ln]; omega) = ndL 0 := by
          unfold gL
          simp
        rw [e, node_gL _ _ _ (by omega)]
        refine decide_eq_false fun hh => ?_
        have h0 : findB (namesN (gL n m true)) (nmN 110 0) = ((0 : Nat) : Int) := by
          have hl : 0 < (namesN (gL n m true)).length := by unfold namesN; rw [List.length_map, ln]; omega
          refine findB_at hl ?_ (fun j hj => by omega)
          have : (namesN (gL n m true))[0] = nmN 110 0 := by
            unfold namesN gL
            simp only [if_true, List.getElem_map]
            rw [List.getElem_set_ne (by omega), List.getElem_map, List.getElem_range]
            rfl
          rw [this]
        rw [h0] at hh
        omega
      rw [ln] at hf
      rw [hf]
      rfl
    · rw [if_neg ht]
      have en : (gL n m tw).nodes = (List.range n).map ndL := by
        unfold gL
        cases tw
        · rfl
        · have : n = 1 := by
            by_cases h : 1 < n
            · exact absurd ⟨rfl, h⟩ ht
            · omega
          subst this
          rfl
      have hN : namesN (gL n m tw) = (List.range n).map (nmN 110) := by unfold namesN; rw [en, List.map_map]; rfl
      have hok : nodesB (gL n m tw) n = true := by
        unfold nodesB
        rw [List.all_eq_true]
        intro i hi
        rw [List.mem_range] at hi
        rw [hN, en]
        have hl : i < ((List.range n).map ndL).length := by simpa using hi
        rw [getElem!_pos _ i hl, List.getElem_map, List.getElem_range, node_gL _ _ _ (by omega)]
        refine decide_eq_true ?_
        have := findB_self (l := (List.range n).map (nmN 110)) (fun a b ha hb e => by
          rw [List.getElem_map, List.getElem_map, List.getElem_range, List.getElem_range] at e
          exact nm_inj e) i (by simpa using hi)
        rw [List.getElem_map, List.getElem_range] at this
        exact this
      rw [hok]
      rfl
end Go.Proofs.Ytmfjcphjncgigaa
