import Derived.Test.YtblehbcehfmnkaaRows
import Derived.WalkKit
import Derived.WalkSpells
import Derived.WalkLawsBesides
import Derived.Lib.Hide
import Derived.Deep.QuietTactic
import Derived.BigQuiet
import Derived.StillTailTactics
import Derived.Deep.RegionWith
import Derived.BigRegion
import Derived.OwnWalk
import Derived.Laws.OwnMore
import Derived.Laws.Externs
import Derived.Lib.AppendZeros
import Derived.DataElems
import Derived.Deep.LoopGhost
namespace Go.Proofs.Ytblehbcehfmnkaa
open Go Go.RowKit
set_option linter.unusedVariables false
abbrev av (k n : Int) (f : Nat) (s : ByteArray) : Value := .agg #[.int .i64 k, .int .i64 n, .float .f64 f, .string s]
theorem Below.chain {w w' w'' : World} (h : Below w.heap.size w w') (k : Below w'.heap.size w' w'') : Below w.heap.size w w'' := h.trans (k.mono h.size)
theorem below_a1 (w : World) (o : Obj) : Below w.heap.size w (w.alloc o) := (Below.refl _ _).alloc (Nat.le_refl _) o
theorem add_block (a : Addr) (j : Nat) : (a.add j).block = a.block := by unfold Addr.add; split <;> rfl
/-- numbers, as the machine's cells hold them -/
def i64s (l : List Int) : List Value := l.map fun c => .int .i64 c
/-- a slice of truths that the call itself made, from block 'base' on -/
def Own (w : World) (base : Nat) (v : Value) (l : List Int) : Prop := w.ownsRow base 27 1 v l.length (i64s l)
/-- a slice of numbers that lies somewhere below block n -/
def Ts (n : Nat) (w : World) (v : Value) (l : List Int) : Prop :=
  ∃ ao cap, v = .slice ao l.length cap ∧ l.length ≤ cap ∧ cap ≤ maxLen ∧ (ao = none → cap = 0) ∧ ∀ j u, l[j]? = some u → ∃ a, ao = some a ∧ a.block < n ∧ w.cell? (a.add j) = some (.int .i64 u)
theorem Ts.below {n : Nat} {w w' : World} {v : Value} {l : List Int} (h : Ts n w v l) (hb : Below n w w') : Ts n w' v l := by
  obtain ⟨ao, cap, h1, h2, h3, h4, h5⟩ := h
  refine ⟨ao, cap, h1, h2, h3, h4, fun j u hj => ?_⟩
  obtain ⟨a, ha, hl, hc⟩ := h5 j u hj
  exact ⟨a, ha, hl, (hb.cell (by rw [add_block]; exact hl)).trans hc⟩
theorem Ts.mono {n m : Nat} {w : World} {v : Value} {l : List Int} (h : Ts n w v l) (hm : n ≤ m) : Ts m w v l := by
  obtain ⟨ao, cap, h1, h2, h3, h4, h5⟩ := h
  exact ⟨ao, cap, h1, h2, h3, h4, fun j u hj => let ⟨a, ha, hl, hc⟩ := h5 j u hj; ⟨a, ha, by omega, hc⟩⟩
theorem Ts.nil (n : Nat) (w : World) : Ts n w (.slice none 0 0) [] := ⟨none, 0, rfl, Nat.le_refl _, by simp [maxLen], fun _ => rfl, fun j u h => by simp at h⟩
theorem Ts.size {n : Nat} {w : World} {v : Value} {l : List Int} (h : Ts n w v l) : Ts w.heap.size w v l := by
  obtain ⟨ao, cap, h1, h2, h3, h4, h5⟩ := h
  exact ⟨ao, cap, h1, h2, h3, h4, fun j u hj => let ⟨a, ha, hl, hc⟩ := h5 j u hj; ⟨a, ha, by have := block_lt_of_cell hc; rwa [add_block] at this, hc⟩⟩
theorem Ts.later {w w' : World} {v : Value} {l : List Int} (h : Ts w.heap.size w v l) (hb : Below w.heap.size w w') : Ts w'.heap.size w' v l := (h.below hb).size
theorem Ts.shape {n : Nat} {w : World} {v : Value} {l : List Int} (h : Ts n w v l) : ∃ ao cap, v = .slice ao l.length cap := let ⟨ao, cap, h1, _⟩ := h; ⟨ao, cap, h1⟩
theorem i64s_get (l : List Int) (j : Nat) : (i64s l)[j]? = (l[j]?).map fun c => .int .i64 c := by simp [i64s]
theorem i64s_len (l : List Int) : (i64s l).length = l.length := by simp [i64s]
theorem i64s_app (l m : List Int) : i64s (l ++ m) = i64s l ++ i64s m := by simp [i64s]
theorem i64s_one (l : List Int) : ∀ u ∈ i64s l, u.oneCell' = true := by
  intro u hu; simp only [i64s, List.mem_map] at hu; obtain ⟨c, _, rfl⟩ := hu; rfl
theorem Own.ts {w : World} {base : Nat} {v : Value} {l : List Int} (h : Own w base v l) : Ts w.heap.size w v l := by
  rcases h.2 with ⟨rfl, hn⟩ | ⟨g, cap, cur, rfl, hb, hg, hnc, hcm, hcs, htake⟩
  · have : l = [] := List.eq_nil_of_length_eq_zero hn
    subst this; exact Ts.nil _ _
  · refine ⟨some ⟨g, 0, none⟩, cap, rfl, hnc, hcm, fun h => (by cases h), fun j u hj => ⟨_, rfl, (Array.getElem?_eq_some_iff.1 hg).1, ?_⟩⟩
    exact h.cells (g := g) rfl j _ (by rw [i64s_get, hj]; rfl)
theorem Own.below {w w' : World} {base : Nat} {v : Value} {l : List Int} (h : Own w base v l) (hb : Below w.heap.size w w') : Own w' base v l := by
  refine ⟨h.1, ?_⟩
  rcases h.2 with h0 | ⟨g, cap, cur, rfl, hbg, hg, rest⟩
  · exact .inl h0
  · exact .inr ⟨g, cap, cur, rfl, hbg, (hb.block g (Array.getElem?_eq_some_iff.1 hg).1).trans hg, rest⟩
theorem Own.lit (w : World) (base : Nat) (l : List Int) (hb : base ≤ w.heap.size) (hl : l.length ≤ 1000000) (cs : Array Value) (hcs : cs.toList = i64s l) :
    Own (w.alloc (.cells cs 27)) base (.slice (some ⟨w.heap.size, 0, none⟩) l.length l.length) l := by
  have := World.ownsRow_lit (base := base) (e := 27) (size := 1) w cs l.length hb (by simp only [maxLen]; omega) (by rw [← Array.length_toList, hcs, i64s_len]; simp)
  rw [hcs] at this; exact this
theorem Own.nil (w : World) (base : Nat) : Own w base (.slice none 0 0) [] := World.ownsRow_nil w base _ _
theorem Own.row {w : World} {base : Nat} {v : Value} {l : List Int} (h : Own w base v l) : ∀ k, v.ownBlock = some k → base ≤ k := fun k hk => (World.ownsRow.lt h k hk).1
theorem Own.shape {w : World} {base : Nat} {v : Value} {l : List Int} (h : Own w base v l) : ∃ ao cap, v = .slice ao l.length cap := h.ts.shape
theorem info_t : (Try.prog.info? 27).map (fun i => (i.zero, i.size, i.bytes)) = some (some (.int .i64 0), 1, 8) := by kernel_rfl
/-- append of truths to truths of the call's own -/
theorem run_append_ts {w : World} {base n : Nat} {v x : Value} {l m : List Int} (ty : TypeId) (h : Own w base v l) (hx : Ts n w x m) (hlen : l.length + m.length ≤ 1000000) (hbase : base ≤ w.heap.size) :
    ∃ v' w', (Builtin.append_ #[33, 33] ty #[v, x]).run Try.prog w = .ok v' w' ∧ Own w' base v' (l ++ m) ∧ w.grownBy w' v.ownBlock := by
  obtain ⟨i, hi, hz, hs, hby⟩ := info_parts info_t
  obtain ⟨ao, cap, rfl, h2, h3, h4, h5⟩ := hx
  cases ao with
  | none =>
    have hc := h4 rfl
    have hm : m = [] := List.eq_nil_of_length_eq_zero (by omega)
    subst hm
    subst hc
    have hr := run_append_owned_none (P := Try.prog) w base 33 ty 27 i 1 Try.underlying33 hi v l.length (i64s l) h
    exact ⟨v, w, hr, by rw [List.append_nil]; exact h, ⟨rfl, rfl, rfl, Nat.le_refl _, fun _ _ _ => rfl⟩⟩
  | some a =>
    obtain ⟨v', w', hr, ho, hg, _⟩ := run_append_own (P := Try.prog) w base 33 ty 27 i (.int .i64 0) 1 8 Try.underlying33 hi hz hs hby rfl (by decide) v l.length (i64s l) h a m.length cap (i64s m)
      (by rw [i64s_len]; simp) (fun j u hu => by
        rw [i64s_get] at hu
        cases hj : m[j]? with
        | none => rw [hj] at hu; cases hu
        | some c =>
          rw [hj] at hu
          obtain ⟨a', ha, _, hc⟩ := h5 j c hj
          cases ha
          simp only [Option.map_some, Option.some.injEq] at hu
          rw [← hu]; exact hc) (i64s_one m) (by simp only [maxLen]; omega) (by omega) hbase
    refine ⟨v', w', hr, ?_, hg⟩
    unfold Own
    rw [List.length_append, i64s_app]; exact ho
theorem wpList_append_ts {w : World} {ops : Array Oper} {rest : List Oper} {o : Oper} {a : Act} {Q : Exit → Act → World → Prop} (hgd : o.guard = none) (s x : Operand)
    (ho : o.op = .call { callee := .builtin .append, args := #[s, x], argTypes := #[33, 33] }) {base n : Nat} {v vx : Value} {l m : List Int} (hs : a.eval s = v) (hx : a.eval x = vx)
    (h : Own w base v l) (hm : Ts n w vx m) (hlen : l.length + m.length ≤ 1000000) (hbase : base ≤ w.heap.size)
    (hk : ∀ v' w', Own w' base v' (l ++ m) → w.grownBy w' v.ownBlock → wpList Try.prog ops Q rest (a.put o.dst v') w') : wpList Try.prog ops Q (o :: rest) a w := by
  obtain ⟨v', w', hr, h1, h2⟩ := run_append_ts o.type h hm hlen hbase
  exact Lib.wpList_append_run w hgd s x 33 33 ho v vx hs hx v' w' hr (hk v' w' h1 h2)
/-- a piece of numbers -/
theorem Ts.sliced {n : Nat} {w : World} {ao : Option Addr} {len cap : Nat} {l : List Int} (h : Ts n w (.slice ao len cap) l) (lo hi mx : Nat) (h1 : lo ≤ hi) (h2 : hi ≤ l.length) (h3 : hi ≤ mx) (h4 : mx ≤ cap) :
    Ts n w (Go.sliced ao lo hi mx 1) ((l.take hi).drop lo) := by
  obtain ⟨ao', cap', he, k2, k3, k4, k5⟩ := h
  cases he
  have hlen : ((l.take hi).drop lo).length = hi - lo := by simp; omega
  refine ⟨_, mx - lo, by unfold Go.sliced; rw [hlen], by omega, by omega, ?_, fun j u hj => ?_⟩
  · split
    · intro _; omega
    · cases ao with
      | none => intro _; have := k4 rfl; omega
      | some a => intro h; cases h
  · have hj' : lo + j < hi := by
      have := (List.getElem?_eq_some_iff.1 hj).1
      rw [hlen] at this; omega
    rw [List.getElem?_drop, List.getElem?_take, if_pos hj'] at hj
    obtain ⟨a, ha, hl, hc⟩ := k5 _ u hj
    subst ha
    rw [if_neg (by omega)]
    refine ⟨a.add (lo * 1), rfl, by rw [add_block]; exact hl, ?_⟩
    rw [Addr.add_add, Nat.mul_one]; exact hc
/-- what one call after the other leaves -/
theorem grown_trans {w w' w'' : World} {r : Option Nat} (h : w.grownBy w' r) (k : w'.grownBy w'' r) : w.grownBy w'' r :=
  ⟨k.os.trans h.os, k.tape.trans h.tape, k.output.trans h.output, Nat.le_trans h.size k.size, fun i hi hr => (k.block i (Nat.lt_of_lt_of_le hi h.size) hr).trans (h.block i hi hr)⟩
theorem below_of_grown {w w' : World} {r : Option Nat} (h : w.grownBy w' r) {B : Nat} (hB : B ≤ w.heap.size) (hr : ∀ k, r = some k → B ≤ k) : Below B w w' := (Below.refl B w).grown h hB hr
theorem Own.kept {w w' : World} {base : Nat} {v : Value} {l : List Int} {r : Option Nat} (h : Own w base v l) (hg : w.grownBy w' r) (hr : ∀ k, r = some k → k < base) : Own w' base v l :=
  World.ownsRow.kept h hg (by
    cases hv : v.ownBlock with
    | none => exact .inl rfl
    | some k =>
      refine .inr fun e => ?_
      have h1 := (World.ownsRow.lt h k hv).1
      have h2 := hr k e.symm
      omega)
theorem if_iff {p q : Prop} [Decidable p] [Decidable q] (h : p ↔ q) {α : Type} (a b : α) : (if p then a else b) = if q then a else b := by
  by_cases hp : p
  · rw [if_pos hp, if_pos (h.1 hp)]
  · rw [if_neg hp, if_neg (fun hq => hp (h.2 hq))]
/-- what the document says of truths -/
def notI (a : Int) : Int := if a = 0 then 1 else if a = 1 then 0 else 2
def isI (a : Int) : Int := if a = 0 ∨ a = 1 then 0 else 1
def joinI (s : Int) (l : List Int) : Int := if s ∈ l then s else if ∃ x ∈ l, isI x = 1 then 2 else notI s
theorem not_any (a : Int) (w : World) : Calls Try.prog 18 #[.int .i64 a] w fun e w' => e = .returned (.int .i64 (notI a)) ∧ w = w' := by
  by_cases h0 : a = 0
  · subst h0
    go_enter Try.func18, Try.ntmps18
    go_wp2
    go_ret
    exact ⟨rfl, rfl⟩
  · by_cases h1 : a = 1
    · subst h1
      go_enter Try.func18, Try.ntmps18
      go_wp2
      go_ret
      exact ⟨rfl, rfl⟩
    · have e : notI a = 2 := by unfold notI; rw [if_neg h0, if_neg h1]
      rw [e]
      have b0 : (a == 0) = false := by simpa using h0
      have b1 : (a == 1) = false := by simpa using h1
      go_enter Try.func18, Try.ntmps18
      go_wp2
      go_ret
      exact ⟨rfl, rfl⟩
theorem is_any (a : Int) (w : World) : Calls Try.prog 20 #[.int .i64 a] w fun e w' => e = .returned (.int .i64 (isI a)) ∧ w = w' := by
  by_cases h0 : a = 0
  · subst h0
    go_enter Try.func20, Try.ntmps20
    go_wp2
    go_ret
    exact ⟨rfl, rfl⟩
  · by_cases h1 : a = 1
    · subst h1
      go_enter Try.func20, Try.ntmps20
      go_wp2
      go_ret
      exact ⟨rfl, rfl⟩
    · have e : isI a = 1 := by unfold isI; rw [if_neg (by omega)]
      rw [e]
      have b0 : (a == 0) = false := by simpa using h0
      have b1 : (a == 1) = false := by simpa using h1
      go_enter Try.func20, Try.ntmps20
      go_wp2
      go_ret
      exact ⟨rfl, rfl⟩
/-- the first i of them: none settles, and what has been joined so far -/
def soFar (s : Int) (l : List Int) : Int := if ∃ x ∈ l, isI x = 1 then 2 else notI s
theorem join_any (s : Int) (l : List Int) (v : Value) (n : Nat) (w : World) (h : Ts n w v l) :
    Calls Try.prog 22 #[.int .i64 s, v] w fun e w' => e = .returned (.int .i64 (joinI s l)) ∧ w = w' := by
  obtain ⟨ao, cap, rfl, h2, h3, h4, h5⟩ := h
  have H5 := Lib.hid h5
  clear h5
  simp only [maxLen] at h3
  generalize hL : l.length = L at *
  have HL := Lib.hid hL
  clear hL
  go_enter Try.func22, Try.ntmps22
  go_wp2_with fail
  refine (not_any s _).mono ?_; rintro e w1 ⟨rfl, rfl⟩
  go_wp2_with fail
  go_loopg [5, 7, 12] L (fun g s5 s7 s12 wr => ∃ i : Nat, g + i = L ∧ s12 = .int .i64 i ∧ s5 = .int .i64 (soFar s (l.take i)) ∧ s ∉ l.take i ∧ wr = w)
  case atStart => exact ⟨0, rfl, rfl, by simp [soFar], by simp, rfl⟩
  case round =>
    obtain ⟨i, hg, rfl, rfl, hns, rfl⟩ := hrel
    by_cases hlt : i < L
    · have hi : i < l.length := by rw [HL.out]; exact hlt
      obtain ⟨a, rfl, hab, hcell⟩ := H5.out i l[i] (List.getElem?_eq_getElem hi)
      have ii : (i : Int) < (L : Int) := by omega
      have HT := Lib.hid (List.take_succ_eq_append_getElem hi)
      have HM := Lib.hid (List.getElem_mem hi)
      generalize l[i] = x at *
      by_cases hx : x = s
      · subst hx
        have bx : (x == x) = true := by simp
        go_wp2_with fail
        go_ret
        refine ⟨?_, rfl⟩
        unfold joinI; rw [if_pos HM.out]; rfl
      · have bx : (x == s) = false := by simpa using hx
        have HX := Lib.hid hx
        have HN := Lib.hid (show s ∉ l.take (i + 1) by
          rw [HT.out]; simp only [List.mem_append, List.mem_singleton]
          rintro (h | h)
          · exact hns h
          · exact hx h.symm)
        clear hx hns
        go_wp2_with fail
        refine (is_any x _).mono ?_; rintro e w1 ⟨rfl, rfl⟩
        by_cases hk : x = 0 ∨ x = 1
        · have e0 : isI x = 0 := by unfold isI; rw [if_pos hk]
          have HS := Lib.hid (show soFar s (l.take (i + 1)) = soFar s (l.take i) by
            rw [HT.out]; unfold soFar
            refine if_iff ⟨?_, ?_⟩ _ _
            · rintro ⟨y, hy, hy1⟩
              rcases List.mem_append.1 hy with hy | hy
              · exact ⟨y, hy, hy1⟩
              · rw [List.mem_singleton.1 hy] at hy1; omega
            · rintro ⟨y, hy, hy1⟩; exact ⟨y, List.mem_append_left _ hy, hy1⟩)
          rw [e0]
          clear hk e0
          go_wp2_with fail
          go_roundg (L - (i + 1))
          case rel => exact ⟨i + 1, by omega, by go_num, by rw [HS.out], HN.out, rfl⟩
          case measure => omega
        · have e0 : isI x = 1 := by unfold isI; rw [if_neg hk]
          have HS := Lib.hid (show soFar s (l.take (i + 1)) = 2 by
            rw [HT.out]; unfold soFar; rw [if_pos ⟨x, by simp, e0⟩])
          rw [e0]
          clear hk e0
          go_wp2_with fail
          go_roundg (L - (i + 1))
          case rel => exact ⟨i + 1, by omega, by go_num, by rw [HS.out], HN.out, rfl⟩
          case measure => omega
    · obtain rfl : L = i := by omega
      have ht : l.take L = l := List.take_of_length_le (by rw [HL.out]; exact Nat.le_refl _)
      rw [ht] at hns ⊢
      have HNS := Lib.hid hns
      clear hns ht
      go_wp2_with fail
      go_ret
      refine ⟨?_, rfl⟩
      unfold joinI soFar; rw [if_neg HNS.out]; rfl
theorem and_any (l : List Int) (v : Value) (n : Nat) (w : World) (h : Ts n w v l) :
    Calls Try.prog 15 #[v] w fun e w' => e = .returned (.int .i64 (joinI 0 l)) ∧ w = w' := by
  go_enter Try.func15, Try.ntmps15
  go_wp2_with fail
  refine (join_any 0 l v n _ h).mono ?_; rintro e w1 ⟨rfl, rfl⟩
  go_wp2_with fail
  go_ret
  exact ⟨rfl, rfl⟩
theorem or_any (l : List Int) (v : Value) (n : Nat) (w : World) (h : Ts n w v l) :
    Calls Try.prog 17 #[v] w fun e w' => e = .returned (.int .i64 (joinI 1 l)) ∧ w = w' := by
  go_enter Try.func17, Try.ntmps17
  go_wp2_with fail
  refine (join_any 1 l v n _ h).mono ?_; rintro e w1 ⟨rfl, rfl⟩
  go_wp2_with fail
  go_ret
  exact ⟨rfl, rfl⟩
end Go.Proofs.Ytblehbcehfmnkaa
