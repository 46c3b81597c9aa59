import Derived.Test.YtfhnjilflffdfaaEX
namespace Go.Proofs.Ytfhnjilflffdfaa
open Go Go.RowKit
set_option linter.unusedVariables false
theorem add_block (a : Addr) (j : Nat) : (a.add j).block = a.block := by unfold Addr.add; split <;> rfl
/-- numbers, as the machine's cells hold them -/
def i64s (l : List Int) : List Value := l.map fun c => .int .i64 c
/-- a slice of truths that the call itself made, from block 'base' on -/
def Own (w : World) (base : Nat) (v : Value) (l : List Int) : Prop := w.ownsRow base 59 1 v l.length (i64s l)
/-- a slice of numbers that lies somewhere below block n -/
def Ts (n : Nat) (w : World) (v : Value) (l : List Int) : Prop :=
  ∃ ao cap, v = .slice ao l.length cap ∧ l.length ≤ cap ∧ cap ≤ maxLen ∧ (ao = none → cap = 0) ∧ ∀ j u, l[j]? = some u → ∃ a, ao = some a ∧ a.block < n ∧ w.cell? (a.add j) = some (.int .i64 u)
theorem Ts.below {n : Nat} {w w' : World} {v : Value} {l : List Int} (h : Ts n w v l) (hb : Below n w w') : Ts n w' v l := by
  obtain ⟨ao, cap, h1, h2, h3, h4, h5⟩ := h
  refine ⟨ao, cap, h1, h2, h3, h4, fun j u hj => ?_⟩
  obtain ⟨a, ha, hl, hc⟩ := h5 j u hj
  exact ⟨a, ha, hl, (hb.cell (by rw [add_block]; exact hl)).trans hc⟩
theorem Ts.mono {n m : Nat} {w : World} {v : Value} {l : List Int} (h : Ts n w v l) (hm : n ≤ m) : Ts m w v l := by
  obtain ⟨ao, cap, h1, h2, h3, h4, h5⟩ := h
  exact ⟨ao, cap, h1, h2, h3, h4, fun j u hj => let ⟨a, ha, hl, hc⟩ := h5 j u hj; ⟨a, ha, by omega, hc⟩⟩
theorem Ts.nil (n : Nat) (w : World) : Ts n w (.slice none 0 0) [] := ⟨none, 0, rfl, Nat.le_refl _, by simp [maxLen], fun _ => rfl, fun j u h => by simp at h⟩
theorem Ts.size {n : Nat} {w : World} {v : Value} {l : List Int} (h : Ts n w v l) : Ts w.heap.size w v l := by
  obtain ⟨ao, cap, h1, h2, h3, h4, h5⟩ := h
  exact ⟨ao, cap, h1, h2, h3, h4, fun j u hj => let ⟨a, ha, hl, hc⟩ := h5 j u hj; ⟨a, ha, by have := block_lt_of_cell hc; rwa [add_block] at this, hc⟩⟩
theorem Ts.later {w w' : World} {v : Value} {l : List Int} (h : Ts w.heap.size w v l) (hb : Below w.heap.size w w') : Ts w'.heap.size w' v l := (h.below hb).size
theorem Ts.shape {n : Nat} {w : World} {v : Value} {l : List Int} (h : Ts n w v l) : ∃ ao cap, v = .slice ao l.length cap := let ⟨ao, cap, h1, _⟩ := h; ⟨ao, cap, h1⟩
theorem i64s_get (l : List Int) (j : Nat) : (i64s l)[j]? = (l[j]?).map fun c => .int .i64 c := by simp [i64s]
theorem i64s_len (l : List Int) : (i64s l).length = l.length := by simp [i64s]
theorem i64s_app (l m : List Int) : i64s (l ++ m) = i64s l ++ i64s m := by simp [i64s]
theorem i64s_one (l : List Int) : ∀ u ∈ i64s l, u.oneCell' = true := by
  intro u hu; simp only [i64s, List.mem_map] at hu; obtain ⟨c, _, rfl⟩ := hu; rfl
theorem Own.ts {w : World} {base : Nat} {v : Value} {l : List Int} (h : Own w base v l) : Ts w.heap.size w v l := by
  rcases h.2 with ⟨rfl, hn⟩ | ⟨g, cap, cur, rfl, hb, hg, hnc, hcm, hcs, htake⟩
  · have : l = [] := List.eq_nil_of_length_eq_zero hn
    subst this; exact Ts.nil _ _
  · refine ⟨some ⟨g, 0, none⟩, cap, rfl, hnc, hcm, fun h => (by cases h), fun j u hj => ⟨_, rfl, (Array.getElem?_eq_some_iff.1 hg).1, ?_⟩⟩
    exact h.cells (g := g) rfl j _ (by rw [i64s_get, hj]; rfl)
theorem Own.below {w w' : World} {base : Nat} {v : Value} {l : List Int} (h : Own w base v l) (hb : Below w.heap.size w w') : Own w' base v l := by
  refine ⟨h.1, ?_⟩
  rcases h.2 with h0 | ⟨g, cap, cur, rfl, hbg, hg, rest⟩
  · exact .inl h0
  · exact .inr ⟨g, cap, cur, rfl, hbg, (hb.block g (Array.getElem?_eq_some_iff.1 hg).1).trans hg, rest⟩
theorem Own.lit (w : World) (base : Nat) (l : List Int) (hb : base ≤ w.heap.size) (hl : l.length ≤ 1000000) (cs : Array Value) (hcs : cs.toList = i64s l) :
    Own (w.alloc (.cells cs 59)) base (.slice (some ⟨w.heap.size, 0, none⟩) l.length l.length) l := by
  have := World.ownsRow_lit (base := base) (e := 59) (size := 1) w cs l.length hb (by simp only [maxLen]; omega) (by rw [← Array.length_toList, hcs, i64s_len]; simp)
  rw [hcs] at this; exact this
theorem Own.nil (w : World) (base : Nat) : Own w base (.slice none 0 0) [] := World.ownsRow_nil w base _ _
theorem Own.row {w : World} {base : Nat} {v : Value} {l : List Int} (h : Own w base v l) : ∀ k, v.ownBlock = some k → base ≤ k := fun k hk => (World.ownsRow.lt h k hk).1
theorem Own.shape {w : World} {base : Nat} {v : Value} {l : List Int} (h : Own w base v l) : ∃ ao cap, v = .slice ao l.length cap := h.ts.shape
theorem info_t : (Try.prog.info? 59).map (fun i => (i.zero, i.size, i.bytes)) = some (some (.int .i64 0), 1, 8) := by kernel_rfl
/-- append of truths to truths of the call's own -/
theorem run_append_ts {w : World} {base n : Nat} {v x : Value} {l m : List Int} (ty : TypeId) (h : Own w base v l) (hx : Ts n w x m) (hlen : l.length + m.length ≤ 1000000) (hbase : base ≤ w.heap.size) :
    ∃ v' w', (Builtin.append_ #[83, 83] ty #[v, x]).run Try.prog w = .ok v' w' ∧ Own w' base v' (l ++ m) ∧ w.grownBy w' v.ownBlock := by
  obtain ⟨i, hi, hz, hs, hby⟩ := info_parts info_t
  obtain ⟨ao, cap, rfl, h2, h3, h4, h5⟩ := hx
  cases ao with
  | none =>
    have hc := h4 rfl
    have hm : m = [] := List.eq_nil_of_length_eq_zero (by omega)
    subst hm
    subst hc
    have hr := run_append_owned_none (P := Try.prog) w base 83 ty 59 i 1 Try.underlying83 hi v l.length (i64s l) h
    exact ⟨v, w, hr, by rw [List.append_nil]; exact h, ⟨rfl, rfl, rfl, Nat.le_refl _, fun _ _ _ => rfl⟩⟩
  | some a =>
    obtain ⟨v', w', hr, ho, hg, _⟩ := run_append_own (P := Try.prog) w base 83 ty 59 i (.int .i64 0) 1 8 Try.underlying83 hi hz hs hby rfl (by decide) v l.length (i64s l) h a m.length cap (i64s m)
      (by rw [i64s_len]; simp) (fun j u hu => by
        rw [i64s_get] at hu
        cases hj : m[j]? with
        | none => rw [hj] at hu; cases hu
        | some c =>
          rw [hj] at hu
          obtain ⟨a', ha, _, hc⟩ := h5 j c hj
          cases ha
          simp only [Option.map_some, Option.some.injEq] at hu
          rw [← hu]; exact hc) (i64s_one m) (by simp only [maxLen]; omega) (by omega) hbase
    refine ⟨v', w', hr, ?_, hg⟩
    unfold Own
    rw [List.length_append, i64s_app]; exact ho
theorem wpList_append_ts {w : World} {ops : Array Oper} {rest : List Oper} {o : Oper} {a : Act} {Q : Exit → Act → World → Prop} (hgd : o.guard = none) (s x : Operand)
    (ho : o.op = .call { callee := .builtin .append, args := #[s, x], argTypes := #[83, 83] }) {base n : Nat} {v vx : Value} {l m : List Int} (hs : a.eval s = v) (hx : a.eval x = vx)
    (h : Own w base v l) (hm : Ts n w vx m) (hlen : l.length + m.length ≤ 1000000) (hbase : base ≤ w.heap.size)
    (hk : ∀ v' w', Own w' base v' (l ++ m) → w.grownBy w' v.ownBlock → wpList Try.prog ops Q rest (a.put o.dst v') w') : wpList Try.prog ops Q (o :: rest) a w := by
  obtain ⟨v', w', hr, h1, h2⟩ := run_append_ts o.type h hm hlen hbase
  exact Lib.wpList_append_run w hgd s x 83 83 ho v vx hs hx v' w' hr (hk v' w' h1 h2)
/-- a piece of numbers -/
theorem Ts.sliced {n : Nat} {w : World} {ao : Option Addr} {len cap : Nat} {l : List Int} (h : Ts n w (.slice ao len cap) l) (lo hi mx : Nat) (h1 : lo ≤ hi) (h2 : hi ≤ l.length) (h3 : hi ≤ mx) (h4 : mx ≤ cap) :
    Ts n w (Go.sliced ao lo hi mx 1) ((l.take hi).drop lo) := by
  obtain ⟨ao', cap', he, k2, k3, k4, k5⟩ := h
  cases he
  have hlen : ((l.take hi).drop lo).length = hi - lo := by simp; omega
  refine ⟨_, mx - lo, by unfold Go.sliced; rw [hlen], by omega, by omega, ?_, fun j u hj => ?_⟩
  · split
    · intro _; omega
    · cases ao with
      | none => intro _; have := k4 rfl; omega
      | some a => intro h; cases h
  · have hj' : lo + j < hi := by
      have := (List.getElem?_eq_some_iff.1 hj).1
      rw [hlen] at this; omega
    rw [List.getElem?_drop, List.getElem?_take, if_pos hj'] at hj
    obtain ⟨a, ha, hl, hc⟩ := k5 _ u hj
    subst ha
    rw [if_neg (by omega)]
    refine ⟨a.add (lo * 1), rfl, by rw [add_block]; exact hl, ?_⟩
    rw [Addr.add_add, Nat.mul_one]; exact hc
/-- what one call after the other leaves -/
theorem grown_trans {w w' w'' : World} {r : Option Nat} (h : w.grownBy w' r) (k : w'.grownBy w'' r) : w.grownBy w'' r :=
  ⟨k.os.trans h.os, k.tape.trans h.tape, k.output.trans h.output, Nat.le_trans h.size k.size, fun i hi hr => (k.block i (Nat.lt_of_lt_of_le hi h.size) hr).trans (h.block i hi hr)⟩
theorem Own.kept {w w' : World} {base : Nat} {v : Value} {l : List Int} {r : Option Nat} (h : Own w base v l) (hg : w.grownBy w' r) (hr : ∀ k, r = some k → k < base) : Own w' base v l :=
  World.ownsRow.kept h hg (by
    cases hv : v.ownBlock with
    | none => exact .inl rfl
    | some k =>
      refine .inr fun e => ?_
      have h1 := (World.ownsRow.lt h k hv).1
      have h2 := hr k e.symm
      omega)
theorem if_iff {p q : Prop} [Decidable p] [Decidable q] (h : p ↔ q) {α : Type} (a b : α) : (if p then a else b) = if q then a else b := by
  by_cases hp : p
  · rw [if_pos hp, if_pos (h.1 hp)]
  · rw [if_neg hp, if_neg (fun hq => hp (h.2 hq))]
/-- what the document says of truths -/
def notI (a : Int) : Int := if a = 0 then 1 else if a = 1 then 0 else 2
def isI (a : Int) : Int := if a = 0 ∨ a = 1 then 0 else 1
def joinI (s : Int) (l : List Int) : Int := if s ∈ l then s else if ∃ x ∈ l, isI x = 1 then 2 else notI s
theorem not_any (a : Int) (w : World) : Calls Try.prog 45 #[.int .i64 a] w fun e w' => e = .returned (.int .i64 (notI a)) ∧ w = w' := by
  by_cases h0 : a = 0
  · subst h0
    go_enter Try.func45, Try.ntmps45
    go_wp2
    go_ret
    exact ⟨rfl, rfl⟩
  · by_cases h1 : a = 1
    · subst h1
      go_enter Try.func45, Try.ntmps45
      go_wp2
      go_ret
      exact ⟨rfl, rfl⟩
    · have e : notI a = 2 := by unfold notI; rw [if_neg h0, if_neg h1]
      rw [e]
      have b0 : (a == 0) = false := by simpa using h0
      have b1 : (a == 1) = false := by simpa using h1
      go_enter Try.func45, Try.ntmps45
      go_wp2
      go_ret
      exact ⟨rfl, rfl⟩
theorem is_any (a : Int) (w : World) : Calls Try.prog 63 #[.int .i64 a] w fun e w' => e = .returned (.int .i64 (isI a)) ∧ w = w' := by
  by_cases h0 : a = 0
  · subst h0
    go_enter Try.func63, Try.ntmps63
    go_wp2
    go_ret
    exact ⟨rfl, rfl⟩
  · by_cases h1 : a = 1
    · subst h1
      go_enter Try.func63, Try.ntmps63
      go_wp2
      go_ret
      exact ⟨rfl, rfl⟩
    · have e : isI a = 1 := by unfold isI; rw [if_neg (by omega)]
      rw [e]
      have b0 : (a == 0) = false := by simpa using h0
      have b1 : (a == 1) = false := by simpa using h1
      go_enter Try.func63, Try.ntmps63
      go_wp2
      go_ret
      exact ⟨rfl, rfl⟩
/-- the first i of them: none settles, and what has been joined so far -/
def soFar (s : Int) (l : List Int) : Int := if ∃ x ∈ l, isI x = 1 then 2 else notI s
theorem join_any (s : Int) (l : List Int) (v : Value) (n : Nat) (w : World) (h : Ts n w v l) :
    Calls Try.prog 55 #[.int .i64 s, v] w fun e w' => e = .returned (.int .i64 (joinI s l)) ∧ w = w' := by
  obtain ⟨ao, cap, rfl, h2, h3, h4, h5⟩ := h
  have H5 := Lib.hid h5
  clear h5
  simp only [maxLen] at h3
  generalize hL : l.length = L at *
  have HL := Lib.hid hL
  clear hL
  go_enter Try.func55, Try.ntmps55
  go_wp2_with fail
  refine (not_any s _).mono ?_; rintro e w1 ⟨rfl, rfl⟩
  go_wp2_with fail
  go_loopg [5, 7, 12] L (fun g s5 s7 s12 wr => ∃ i : Nat, g + i = L ∧ s12 = .int .i64 i ∧ s5 = .int .i64 (soFar s (l.take i)) ∧ s ∉ l.take i ∧ wr = w)
  case atStart => exact ⟨0, rfl, rfl, by simp [soFar], by simp, rfl⟩
  case round =>
    obtain ⟨i, hg, rfl, rfl, hns, rfl⟩ := hrel
    by_cases hlt : i < L
    · have hi : i < l.length := by rw [HL.out]; exact hlt
      obtain ⟨a, rfl, hab, hcell⟩ := H5.out i l[i] (List.getElem?_eq_getElem hi)
      have ii : (i : Int) < (L : Int) := by omega
      have HT := Lib.hid (List.take_succ_eq_append_getElem hi)
      have HM := Lib.hid (List.getElem_mem hi)
      generalize l[i] = x at *
      by_cases hx : x = s
      · subst hx
        have bx : (x == x) = true := by simp
        go_wp2_with fail
        go_ret
        refine ⟨?_, rfl⟩
        unfold joinI; rw [if_pos HM.out]; rfl
      · have bx : (x == s) = false := by simpa using hx
        have HX := Lib.hid hx
        have HN := Lib.hid (show s ∉ l.take (i + 1) by
          rw [HT.out]; simp only [List.mem_append, List.mem_singleton]
          rintro (h | h)
          · exact hns h
          · exact hx h.symm)
        clear hx hns
        go_wp2_with fail
        refine (is_any x _).mono ?_; rintro e w1 ⟨rfl, rfl⟩
        by_cases hk : x = 0 ∨ x = 1
        · have e0 : isI x = 0 := by unfold isI; rw [if_pos hk]
          have HS := Lib.hid (show soFar s (l.take (i + 1)) = soFar s (l.take i) by
            rw [HT.out]; unfold soFar
            refine if_iff ⟨?_, ?_⟩ _ _
            · rintro ⟨y, hy, hy1⟩
              rcases List.mem_append.1 hy with hy | hy
              · exact ⟨y, hy, hy1⟩
              · rw [List.mem_singleton.1 hy] at hy1; omega
            · rintro ⟨y, hy, hy1⟩; exact ⟨y, List.mem_append_left _ hy, hy1⟩)
          rw [e0]
          clear hk e0
          go_wp2_with fail
          go_roundg (L - (i + 1))
          case rel => exact ⟨i + 1, by omega, by go_num, by rw [HS.out], HN.out, rfl⟩
          case measure => omega
        · have e0 : isI x = 1 := by unfold isI; rw [if_neg hk]
          have HS := Lib.hid (show soFar s (l.take (i + 1)) = 2 by
            rw [HT.out]; unfold soFar; rw [if_pos ⟨x, by simp, e0⟩])
          rw [e0]
          clear hk e0
          go_wp2_with fail
          go_roundg (L - (i + 1))
          case rel => exact ⟨i + 1, by omega, by go_num, by rw [HS.out], HN.out, rfl⟩
          case measure => omega
    · obtain rfl : L = i := by omega
      have ht : l.take L = l := List.take_of_length_le (by rw [HL.out]; exact Nat.le_refl _)
      rw [ht] at hns ⊢
      have HNS := Lib.hid hns
      clear hns ht
      go_wp2_with fail
      go_ret
      refine ⟨?_, rfl⟩
      unfold joinI soFar; rw [if_neg HNS.out]; rfl
theorem and_any (l : List Int) (v : Value) (n : Nat) (w : World) (h : Ts n w v l) :
    Calls Try.prog 48 #[v] w fun e w' => e = .returned (.int .i64 (joinI 0 l)) ∧ w = w' := by
  go_enter Try.func48, Try.ntmps48
  go_wp2_with fail
  refine (join_any 0 l v n _ h).mono ?_; rintro e w1 ⟨rfl, rfl⟩
  go_wp2_with fail
  go_ret
  exact ⟨rfl, rfl⟩
theorem or_any (l : List Int) (v : Value) (n : Nat) (w : World) (h : Ts n w v l) :
    Calls Try.prog 49 #[v] w fun e w' => e = .returned (.int .i64 (joinI 1 l)) ∧ w = w' := by
  go_enter Try.func49, Try.ntmps49
  go_wp2_with fail
  refine (join_any 1 l v n _ h).mono ?_; rintro e w1 ⟨rfl, rfl⟩
  go_wp2_with fail
  go_ret
  exact ⟨rfl, rfl⟩
end Go.Proofs.Ytfhnjilflffdfaa

namespace Go.Proofs.Ytfhnjilflffdfaa
open Go Go.RowKit
set_option linter.unusedVariables false
/-- the truth that a value stands for, and the error -/
def ofI (k n : Int) : Int := if k = 0 then 2 else if k = 1 ∧ n = 0 then 0 else if k = 1 ∧ n = 1 then 1 else 2
def ofE (k n : Int) : Int := if k = 0 then 0 else if k = 1 ∧ n = 0 then 0 else if k = 1 ∧ n = 1 then 0 else 4
abbrev ofR (k n : Int) : Value := .tuple #[.int .i64 (ofI k n), .int .i64 (ofE k n)]
theorem of_any (k n : Int) (f : Nat) (s : ByteArray) (w : World) : Calls Try.prog 28 #[av k n f s] w fun e w' => e = .returned (ofR k n) ∧ Below w.heap.size w w' := by
  by_cases h0 : k = 0
  · subst h0
    go_enter Try.func28, Try.ntmps28
    go_wp2
    go_ret2
    exact ⟨rfl, below_a1 _ _⟩
  · have b0 : (k == 0) = false := by simpa using h0
    by_cases h1 : k = 1
    · subst h1
      by_cases n0 : n = 0
      · subst n0
        go_enter Try.func28, Try.ntmps28
        go_wp2
        go_ret2
        exact ⟨rfl, below_a1 _ _⟩
      · have c0 : (n == 0) = false := by simpa using n0
        by_cases n1 : n = 1
        · subst n1
          go_enter Try.func28, Try.ntmps28
          go_wp2
          go_ret2
          exact ⟨rfl, below_a1 _ _⟩
        · have c1 : (n == 1) = false := by simpa using n1
          have e1 : ofR 1 n = .tuple #[.int .i64 2, .int .i64 4] := by simp [ofR, ofI, ofE, n0, n1]
          rw [e1]
          go_enter Try.func28, Try.ntmps28
          go_wp2
          go_ret2
          exact ⟨rfl, below_a1 _ _⟩
    · have b1 : (k == 1) = false := by simpa using h1
      have e1 : ofR k n = .tuple #[.int .i64 2, .int .i64 4] := by simp [ofR, ofI, ofE, h0, h1]
      rw [e1]
      go_enter Try.func28, Try.ntmps28
      go_wp2
      go_ret2
      exact ⟨rfl, below_a1 _ _⟩
/-- a truth as a value -/
def vK (t : Int) : Int := if t = 0 ∨ t = 1 then 1 else 0
def vN (t : Int) : Int := if t = 1 then 1 else 0
theorem value_any (t : Int) (w : World) : Calls Try.prog 47 #[.int .i64 t] w fun e w' => e = .returned (av (vK t) (vN t) 0 ⟨#[]⟩) ∧ Below w.heap.size w w' := by
  have hsf := run_store_float
  by_cases h0 : t = 0
  · subst h0
    go_enter Try.func47, Try.ntmps47
    go_wp2_with fail
    refine ret_v rfl rfl rfl (lies_new _ _ _ _ _ _) ?_
    exact ⟨rfl, below_a1 _ _⟩
  · by_cases h1 : t = 1
    · subst h1
      go_enter Try.func47, Try.ntmps47
      go_wp2_with fail
      refine ret_v rfl rfl rfl (lies_new _ _ _ _ _ _) ?_
      exact ⟨rfl, below_a1 _ _⟩
    · have b0 : (t == 0) = false := by simpa using h0
      have b1 : (t == 1) = false := by simpa using h1
      have e1 : vK t = 0 := by unfold vK; rw [if_neg (by omega)]
      have e2 : vN t = 0 := by unfold vN; rw [if_neg h1]
      rw [e1, e2]
      go_enter Try.func47, Try.ntmps47
      go_wp2_with fail
      refine ret_v rfl rfl rfl (lies_new _ _ _ _ _ _) ?_
      exact ⟨rfl, below_a1 _ _⟩
def knB (a : Int) : Bool := (a == 0) || (a == 1)
theorem kn_is (x : Int) : knB x = decide (isI x = 0) := by
  unfold knB isI
  by_cases h0 : x = 0
  · subst h0; rfl
  · by_cases h1 : x = 1
    · subst h1; rfl
    · simp [h0, h1]
end Go.Proofs.Ytfhnjilflffdfaa

namespace Go.Proofs.Ytfhnjilflffdfaa
open Go Go.RowKit
set_option linter.unusedVariables false
theorem Ts.head {n : Nat} {w : World} {ao : Option Addr} {len cap : Nat} {l : List Int} (h : Ts n w (.slice ao len cap) l) (c : Nat) (hc : c ≤ l.length) : Ts n w (.slice ao c cap) (l.take c) := by
  obtain ⟨ao', cap', he, k2, k3, k4, k5⟩ := h
  cases he
  have hlen : (l.take c).length = c := by simp; omega
  refine ⟨ao, cap, by rw [hlen], by omega, k3, k4, fun j u hj => ?_⟩
  have hj' : j < c := by have := (List.getElem?_eq_some_iff.1 hj).1; omega
  rw [List.getElem?_take, if_pos hj'] at hj
  exact k5 j u hj
theorem pair_ts (w : World) (x y : Int) : Ts (w.alloc (.cells #[.int .i64 x, .int .i64 y] 59)).heap.size (w.alloc (.cells #[.int .i64 x, .int .i64 y] 59)) (.slice (some ⟨w.heap.size, 0, none⟩) 2 2) [x, y] :=
  (Own.lit w w.heap.size [x, y] (Nat.le_refl _) (by simp) _ rfl).ts
theorem pair_ts' (w : World) (o : Obj) (x y : Int) : Ts ((w.alloc o).alloc (.cells #[.int .i64 x, .int .i64 y] 59)).heap.size ((w.alloc o).alloc (.cells #[.int .i64 x, .int .i64 y] 59)) (.slice (some ⟨w.heap.size + 1, 0, none⟩) 2 2) [x, y] := by
  have h := pair_ts (w.alloc o) x y
  have e : (w.alloc o).heap.size = w.heap.size + 1 := by simp
  rw [e] at h; exact h
theorem one_ts (w : World) (x : Int) : Ts (w.alloc (.cells #[.int .i64 x] 59)).heap.size (w.alloc (.cells #[.int .i64 x] 59)) (.slice (some ⟨w.heap.size, 0, none⟩) 1 1) [x] :=
  (Own.lit w w.heap.size [x] (Nat.le_refl _) (by simp) _ rfl).ts
end Go.Proofs.Ytfhnjilflffdfaa

namespace Go.Proofs.Ytfhnjilflffdfaa
open Go Go.RowKit
set_option linter.unusedVariables false
theorem and255 (a : Int) : ∃ A : Nat, bits BinOp.and IntKind.i64 a 255 = (A : Int) ∧ A < 256 := by
  refine ⟨(BitVec.ofInt 64 a).toNat % 256, ?_, Nat.mod_lt _ (by decide)⟩
  show IntKind.i64.wrap ((BitVec.ofInt 64 a &&& BitVec.ofInt 64 255).toNat : Int) = _
  have e : (BitVec.ofInt 64 255).toNat = 255 := by decide
  have e2 : (BitVec.ofInt 64 a).toNat &&& 255 = (BitVec.ofInt 64 a).toNat % 256 := Nat.and_two_pow_sub_one_eq_mod _ 8
  rw [BitVec.toNat_and, e, e2, IntKind.wrap_i64]
  have := Nat.mod_lt (BitVec.ofInt 64 a).toNat (show 0 < 256 by decide)
  omega
/-- one of the three -/
def T3 (x : Int) : Prop := x = 0 ∨ x = 1 ∨ x = 2
theorem not_not {x : Int} (h : T3 x) : notI (notI x) = x := by rcases h with rfl | rfl | rfl <;> rfl
theorem is_not {x : Int} (h : T3 x) : isI (notI x) = isI x := by rcases h with rfl | rfl | rfl <;> rfl
theorem is_all (x : Int) : isI x = 0 ∨ isI x = 1 := by unfold isI; split <;> simp
/-- what is joined depends on what is there, not on its order -/
theorem join_same (s : Int) {l m : List Int} (h : ∀ x, x ∈ l ↔ x ∈ m) : joinI s l = joinI s m := by
  unfold joinI
  rw [if_iff (h s), if_iff (p := ∃ x ∈ l, isI x = 1) (q := ∃ x ∈ m, isI x = 1) ⟨fun ⟨x, hx, e⟩ => ⟨x, (h x).1 hx, e⟩, fun ⟨x, hx, e⟩ => ⟨x, (h x).2 hx, e⟩⟩]
theorem join_comm (s : Int) (a b : List Int) : joinI s (a ++ b) = joinI s (b ++ a) := join_same s fun x => by simp [or_comm]
theorem join_twice (s : Int) (a : List Int) : joinI s (a ++ a) = joinI s a := join_same s fun x => by simp
theorem join_hit {s : Int} {l : List Int} (h : s ∈ l) : joinI s l = s := by unfold joinI; rw [if_pos h]
theorem join_unk {s : Int} {l : List Int} (h : s ∉ l) (x : Int) (hx : x ∈ l) (e : isI x = 1) : joinI s l = 2 := by unfold joinI; rw [if_neg h, if_pos ⟨x, hx, e⟩]
theorem join_rest {s : Int} {l : List Int} (h : s ∉ l) (hn : ∀ x ∈ l, isI x = 0) : joinI s l = notI s := by
  unfold joinI; rw [if_neg h, if_neg]
  rintro ⟨x, hx, e⟩; have := hn x hx; omega
theorem join_cases (s : Int) (l : List Int) : s ∈ l ∨ (s ∉ l ∧ ∃ x ∈ l, isI x = 1) ∨ (s ∉ l ∧ ∀ x ∈ l, isI x = 0) := by
  by_cases h : s ∈ l
  · exact .inl h
  · by_cases h2 : ∃ x ∈ l, isI x = 1
    · exact .inr (.inl ⟨h, h2⟩)
    · refine .inr (.inr ⟨h, fun x hx => ?_⟩)
      rcases is_all x with e | e
      · exact e
      · exact absurd ⟨x, hx, e⟩ h2
theorem join_three {s : Int} (hs : s = 0 ∨ s = 1) (l : List Int) : T3 (joinI s l) := by
  rcases join_cases s l with h | ⟨h, x, hx, e⟩ | ⟨h, hn⟩
  · rw [join_hit h]; rcases hs with rfl | rfl <;> simp [T3]
  · rw [join_unk h x hx e]; simp [T3]
  · rw [join_rest h hn]; rcases hs with rfl | rfl <;> simp [T3, notI]
theorem join_parts {s : Int} (hs : s = 0 ∨ s = 1) (a b : List Int) : joinI s (a ++ b) = joinI s [joinI s a, joinI s b] := by
  rcases join_cases s a with h | ⟨h, x, hx, e⟩ | ⟨h, hn⟩
  · rw [join_hit (List.mem_append_left _ h), join_hit h, join_hit (by simp)]
  · rcases join_cases s b with h' | ⟨h', x', hx', e'⟩ | ⟨h', hn'⟩
    · rw [join_hit (List.mem_append_right _ h'), join_hit h', join_hit (by simp)]
    · rw [join_unk (fun k => (List.mem_append.1 k).elim h h') x (List.mem_append_left _ hx) e, join_unk h x hx e, join_unk h' x' hx' e']
      rcases hs with rfl | rfl <;> decide
    · rw [join_unk (fun k => (List.mem_append.1 k).elim h h') x (List.mem_append_left _ hx) e, join_unk h x hx e, join_rest h' hn']
      rcases hs with rfl | rfl <;> decide
  · rcases join_cases s b with h' | ⟨h', x', hx', e'⟩ | ⟨h', hn'⟩
    · rw [join_hit (List.mem_append_right _ h'), join_hit h', join_hit (by simp)]
    · rw [join_unk (fun k => (List.mem_append.1 k).elim h h') x' (List.mem_append_right _ hx') e', join_rest h hn, join_unk h' x' hx' e']
      rcases hs with rfl | rfl <;> decide
    · rw [join_rest (fun k => (List.mem_append.1 k).elim h h') (fun x hx => (List.mem_append.1 hx).elim (hn x) (hn' x)), join_rest h hn, join_rest h' hn']
      rcases hs with rfl | rfl <;> decide
theorem join_one {s x : Int} (hs : s = 0 ∨ s = 1) (hx : T3 x) : joinI s [x] = x := by
  rcases hs with rfl | rfl <;> rcases hx with rfl | rfl | rfl <;> decide
theorem join_turn {s : Int} (hs : s = 0 ∨ s = 1) (l : List Int) (hl : ∀ x ∈ l, T3 x) : notI (joinI s l) = joinI (notI s) (l.map notI) := by
  have hm : notI s ∈ l.map notI ↔ s ∈ l := by
    rw [List.mem_map]
    constructor
    · rintro ⟨x, hx, e⟩
      have hx3 := hl x hx
      have : x = s := by rw [← not_not hx3, e]; rcases hs with rfl | rfl <;> rfl
      rw [← this]; exact hx
    · intro h; exact ⟨s, h, rfl⟩
  rcases join_cases s l with h | ⟨h, x, hx, e⟩ | ⟨h, hn⟩
  · rw [join_hit h, join_hit (hm.2 h)]
  · rw [join_unk h x hx e, join_unk (fun k => h (hm.1 k)) (notI x) (List.mem_map.2 ⟨x, hx, rfl⟩) (by rw [is_not (hl x hx)]; exact e)]
    rfl
  · rw [join_rest h hn, join_rest (fun k => h (hm.1 k)) (fun y hy => by
      obtain ⟨x, hx, rfl⟩ := List.mem_map.1 hy
      rw [is_not (hl x hx)]; exact hn x hx)]
/-- the other one more does not matter -/
theorem join_more {s : Int} (hs : s = 0 ∨ s = 1) (a b : List Int) : joinI s (a ++ [notI s] ++ b) = joinI s (a ++ b) := by
  have hne : s ≠ notI s := by rcases hs with rfl | rfl <;> decide
  have h0 : isI (notI s) = 0 := by rcases hs with rfl | rfl <;> decide
  have hm : s ∈ a ++ [notI s] ++ b ↔ s ∈ a ++ b := by simp [hne]
  unfold joinI
  rw [if_iff hm, if_iff (p := ∃ x ∈ a ++ [notI s] ++ b, isI x = 1) (q := ∃ x ∈ a ++ b, isI x = 1)]
  constructor
  · rintro ⟨x, hx, e⟩
    refine ⟨x, ?_, e⟩
    simp only [List.mem_append, List.mem_singleton] at hx ⊢
    rcases hx with (hx | hx) | hx
    · exact .inl hx
    · rw [hx] at e; omega
    · exact .inr hx
  · rintro ⟨x, hx, e⟩
    refine ⟨x, ?_, e⟩
    simp only [List.mem_append, List.mem_singleton] at hx ⊢
    rcases hx with hx | hx
    · exact .inl (.inl hx)
    · exact .inr hx
theorem mod3 (A : Nat) : T3 (Int.tmod (A : Int) 3) := by
  have : Int.tmod (A : Int) 3 = ((A % 3 : Nat) : Int) := rfl
  rw [this]
  unfold T3; omega
end Go.Proofs.Ytfhnjilflffdfaa

