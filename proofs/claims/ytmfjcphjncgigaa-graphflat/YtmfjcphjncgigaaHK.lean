import Derived.Test.YtmfjcphjncgigaaHJ
namespace Go.Proofs.Ytmfjcphjncgigaa
set_option linter.unusedVariables false
/-! ### a graph with no edge directed, a graph with all edges turned -/
def flE (d : Ed) : Ed := ⟨d.name, d.fro, d.to, false, d.labels, d.props⟩
def bkE (d : Ed) : Ed := ⟨d.name, d.to, d.fro, d.dir, d.labels, d.props⟩
def flatG (g : Gd) : Gd := ⟨g.nodes, g.edges.map flE⟩
def backG (g : Gd) : Gd := ⟨g.nodes, g.edges.map bkE⟩
theorem namesD_map (g : Gd) (F : Ed → Ed) (hF : ∀ d, (F d).name = d.name) : namesD ⟨g.nodes, g.edges.map F⟩ = namesD g := by
  unfold namesD
  rw [List.map_map]
  exact List.map_congr_left fun d _ => hF d
theorem right_map {g : Gd} (hr : rightG g = 0) (F : Ed → Ed) (hF : ∀ d, (F d).name = d.name ∧ (F d).labels = d.labels ∧ (F d).props = d.props ∧ endsB g.nodes.length (F d) = endsB g.nodes.length d) : rightG ⟨g.nodes, g.edges.map F⟩ = 0 := by
  obtain ⟨h1, h2, h3, h4⟩ := right_parts hr
  have e1 : nodesB ⟨g.nodes, g.edges.map F⟩ g.nodes.length = nodesB g g.nodes.length := rfl
  have e2 : edgesB ⟨g.nodes, g.edges.map F⟩ g.edges.length = edgesB g g.edges.length := by
    unfold edgesB
    rw [namesD_map g F (fun d => (hF d).1)]
    rw [Bool.eq_iff_iff, List.all_eq_true, List.all_eq_true]
    have key : ∀ i ∈ List.range g.edges.length, edgeB (namesD g) g.nodes.length i (g.edges.map F)[i]! = edgeB (namesD g) g.nodes.length i g.edges[i]! := by
      intro i hi
      rw [List.mem_range] at hi
      rw [getElem!_pos (g.edges.map F) i (by simpa using hi), getElem!_pos g.edges i hi, List.getElem_map]
      obtain ⟨q1, q2, q3, q4⟩ := hF g.edges[i]
      unfold edgeB
      rw [q1, q2, q3, q4]
    exact ⟨fun h i hi => (key i hi) ▸ h i hi, fun h i hi => (key i hi).symm ▸ h i hi⟩
  unfold rightG
  rw [if_neg (by simp; omega)]
  dsimp only
  rw [List.length_map, e1, e2, h3, h4]
  rfl
theorem flat_right {g : Gd} (hr : rightG g = 0) : rightG (flatG g) = 0 := right_map hr flE fun d => ⟨rfl, rfl, rfl, rfl⟩
theorem back_right {g : Gd} (hr : rightG g = 0) : rightG (backG g) = 0 := right_map hr bkE fun d => ⟨rfl, rfl, rfl, by
  unfold endsB bkE
  dsimp only
  rw [Int.min_comm, Int.max_comm]⟩
theorem fm_congr {α β : Type} {F G : α → Option β} : ∀ {l : List α}, (∀ x ∈ l, F x = G x) → l.filterMap F = l.filterMap G
  | [], _ => rfl
  | a :: l, h => by
    rw [List.filterMap_cons, List.filterMap_cons, h a (List.mem_cons_self ..), fm_congr fun x hx => h x (List.mem_cons_of_mem _ hx)]
theorem outG_map (g : Gd) (F : Ed → Ed) (n dir dir' : Int) (h : ∀ e f t d, stepE n dir e (F ⟨⟨#[]⟩, f, t, d, [], []⟩).fro (F ⟨⟨#[]⟩, f, t, d, [], []⟩).to (F ⟨⟨#[]⟩, f, t, d, [], []⟩).dir = stepE n dir' e f t d)
    (hF : ∀ x, (F x).fro = (F ⟨⟨#[]⟩, x.fro, x.to, x.dir, [], []⟩).fro ∧ (F x).to = (F ⟨⟨#[]⟩, x.fro, x.to, x.dir, [], []⟩).to ∧ (F x).dir = (F ⟨⟨#[]⟩, x.fro, x.to, x.dir, [], []⟩).dir) : outG ⟨g.nodes, g.edges.map F⟩ n dir = outG g n dir' := by
  unfold outG
  dsimp only
  rw [List.length_map]
  have e : outN ⟨g.nodes, g.edges.map F⟩ n dir g.edges.length = outN g n dir' g.edges.length := by
    unfold outN
    apply fm_congr
    intro i hi
    rw [List.mem_range] at hi
    rw [getElem!_pos (g.edges.map F) i (by simpa using hi), getElem!_pos g.edges i hi, List.getElem_map]
    obtain ⟨q1, q2, q3⟩ := hF g.edges[i]
    rw [q1, q2, q3]
    exact h _ _ _ _
  rw [e]
theorem flat_flat (g : Gd) (n : Int) : outG (flatG g) n 2 = outG g n 7 := outG_map g flE n 2 7 (fun e f t d => by
  show stepE n 2 e f t false = _
  rw [step2, step7]
  simp) fun _ => ⟨rfl, rfl, rfl⟩
theorem step5_f (n : Int) (i : Nat) (f t : Int) : stepE n 5 i f t false = none := by
  unfold stepE leadsB
  rw [bit52]
  simp
theorem flat_none (g : Gd) (n : Int) : outG (flatG g) n 5 = [] := by
  unfold outG
  split
  · unfold outN
    rw [List.filterMap_eq_nil_iff]
    intro i hi
    have hl : i < (flatG g).edges.length := List.mem_range.1 hi
    have hl2 : i < g.edges.length := by simpa [flatG] using hl
    rw [getElem!_pos (flatG g).edges i hl]
    have e : (flatG g).edges[i] = flE g.edges[i] := by simp [flatG]
    rw [e]
    exact step5_f _ _ _ _
  · rfl
theorem back_left (g : Gd) (n : Int) : outG (backG g) n 1 = outG g n 4 := outG_map g bkE n 1 4 (fun e f t d => by
  show stepE n 1 e t f d = _
  rw [step1, step4, Int.add_comm t f]) fun _ => ⟨rfl, rfl, rfl⟩
theorem back_rights (g : Gd) (n : Int) : outG (backG g) n 4 = outG g n 1 := outG_map g bkE n 4 1 (fun e f t d => by
  show stepE n 4 e t f d = _
  rw [step4, step1, Int.add_comm t f]) fun _ => ⟨rfl, rfl, rfl⟩
theorem back_flat (g : Gd) (n : Int) : outG (backG g) n 2 = outG g n 2 := outG_map g bkE n 2 2 (fun e f t d => by
  show stepE n 2 e t f d = _
  rw [step2, step2, Int.add_comm t f]
  have ho : (t = n ∨ f = n) ↔ (f = n ∨ t = n) := or_comm
  simp only [ho]) fun _ => ⟨rfl, rfl, rfl⟩
end Go.Proofs.Ytmfjcphjncgigaa
