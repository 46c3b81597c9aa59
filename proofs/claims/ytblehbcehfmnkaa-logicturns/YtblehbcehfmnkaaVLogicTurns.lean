/- The walk of the law LogicTurns. -/
import Derived.Test.YtblehbcehfmnkaaLM
import Derived.Maps.AppendAt
namespace Go.Proofs.Ytblehbcehfmnkaa.LogicTurns
open Go Go.RowKit
set_option linter.unusedVariables false
theorem wpList_append_at {w : World} {ops : Array Oper} {rest : List Oper} {o : Oper} {a : Act} {Q : Exit → Act → World → Prop} (hgd : o.guard = none) (s x : Operand)
    (ho : o.op = .call { callee := .builtin .append, args := #[s, x], argTypes := #[33, 33] }) {base c : Nat} {ad : Addr} {v : Value} {X Y : List Int} (hs : a.eval s = v) (hx : a.eval x = .slice (some ad) Y.length c)
    (h : Own w base v X) (hm : ∀ j u, (i64s Y)[j]? = some u → w.cell? (ad.add j) = some u) (hlen : X.length + Y.length ≤ 1000000) (hbase : base ≤ w.heap.size)
    (hk : ∀ v' w', Own w' base v' (X ++ Y) → w.grownBy w' v.ownBlock → (v'.ownBlock = v.ownBlock ∨ v'.ownBlock = some w.heap.size) → wpList Try.prog ops Q rest (a.put o.dst v') w') : wpList Try.prog ops Q (o :: rest) a w := by
  obtain ⟨i, hi, hz, hsz, hby⟩ := info_parts info_t
  obtain ⟨v', w', hr, h1, h2, _, h4⟩ := run_append_own_at (P := Try.prog) w base 33 o.type 27 i _ 1 8 Try.underlying33 hi hz hsz hby rfl (by decide) v X.length (i64s X) h ad Y.length c (i64s Y)
    (by rw [i64s_len]; simp) hm (i64s_one Y) (by simp only [maxLen]; omega) (by omega) hbase
  refine Lib.wpList_append_run w hgd s x 33 33 ho v _ hs hx v' w' hr (hk v' w' ?_ h2 h4)
  unfold Own
  rw [List.length_append, i64s_app]; exact h1
/-- two slices that lie in different blocks -/
def Apart (u v : Value) : Prop := ∀ k, u.ownBlock = some k → v.ownBlock ≠ some k
theorem Apart.symm {u v : Value} (h : Apart u v) : Apart v u := fun k hk hu => h k hu hk
theorem own_beside {w w' : World} {base : Nat} {u v : Value} {l : List Int} (h : Own w base v l) (hg : w.grownBy w' u.ownBlock) (ha : Apart u v) : Own w' base v l :=
  World.ownsRow.kept h hg (by
    cases hv : v.ownBlock with
    | none => exact .inl rfl
    | some k => exact .inr fun e => ha k e.symm hv)
theorem Apart.grow {w : World} {base : Nat} {u u' v : Value} {l : List Int} (h : Apart u v) (hv : Own w base v l) (hat : u'.ownBlock = u.ownBlock ∨ u'.ownBlock = some w.heap.size) : Apart u' v := by
  intro k hk hv'
  rcases hat with e | e
  · exact h k (e.symm.trans hk) hv'
  · have := (World.ownsRow.lt hv k hv').2
    rw [e] at hk
    simp at hk
    omega
theorem one_cells (w : World) (x : Int) : ∀ j u, (i64s [x])[j]? = some u → (w.alloc (.cells #[.int .i64 x] 27)).cell? ((⟨w.heap.size, 0, none⟩ : Addr).add j) = some u := by
  intro j u h
  match j with
  | 0 => simp [i64s] at h; simp [Addr.add, h]
  | j + 1 => simp [i64s] at h
def f3 (y : Int) : Int := Int.tmod (bits BinOp.and IntKind.i64 y 255) 3
theorem f3_three (y : Int) : T3 (f3 y) := by
  obtain ⟨A, hA, hA2⟩ := and255 y
  unfold f3; rw [hA]; exact mod3 A
set_option maxHeartbeats 8000000 in
theorem walk_core (l : List Int) (ao : Option Addr) (cap L m : Nat) (w : World) (hm : m = min L 100) (hl : l.length = m) (hL : L ≤ 9223372036854775807)
    (h : ∀ j u, l[j]? = some u → ∃ a, ao = some a ∧ a.block < w.heap.size ∧ w.cell? (a.add j) = some (.int .i64 u)) :
    Calls Try.prog 4 #[.slice ao L cap] w fun e w' => e = .returned (.bool true) ∧ Below w.heap.size w w' := by
  have H := Lib.hid h
  have m100 : m ≤ 100 := by omega
  have mL : m ≤ L := by omega
  obtain ⟨t, ht⟩ : ∃ t, t = l.map f3 := ⟨_, rfl⟩
  have htl : t.length = m := by rw [ht]; simp [hl]
  have ht3 : ∀ x ∈ t, T3 x := fun x hx => by
    rw [ht, List.mem_map] at hx
    obtain ⟨y, _, rfl⟩ := hx
    exact f3_three y
  have HTL := Lib.hid htl
  have HL := Lib.hid hl
  have H3 := Lib.hid ht3
  have HTT := Lib.hid ht
  have HM := Lib.hid hm
  clear h htl ht3 hl ht hm
  go_enter Try.func4, Try.ntmps4
  go_wp2_with fail
  refine (shown_any _).mono ?_; rintro e w1 ⟨rfl, hb1⟩
  go_wp2_with fail
  go_loopg [4, 5, 6, 7] m (fun g s4 s5 s6 s7 wr => ∃ i : Nat, g + i = m ∧ s6 = .int .i64 i ∧ Own wr w1.heap.size s4 (t.take i) ∧ Own wr w1.heap.size s5 ((t.take i).map notI) ∧ Apart s4 s5 ∧ Below w1.heap.size w1 wr)
  case atStart => exact ⟨0, rfl, rfl, Own.nil _ _, Own.nil _ _, fun k hk => by simp [Value.ownBlock] at hk, Below.refl _ _⟩
  case round =>
    obtain ⟨i, hg, rfl, hO4, hO5, hap, hb⟩ := hrel
    by_cases hlt : i < m
    · have hi : i < l.length := by rw [HL.out]; exact hlt
      have hit : i < t.length := by rw [HTL.out]; exact hlt
      obtain ⟨a, rfl, hab, hcell⟩ := H.out i l[i] (List.getElem?_eq_getElem hi)
      have hcr : wr.cell? (a.add i) = some (.int .i64 l[i]) := ((Below.chain hb1 hb).cell (by rw [add_block]; exact hab)).trans hcell
      have ii : (i : Int) < (L : Int) := by omega
      have i100 : (i : Int) < 100 := by omega
      have hx3 : T3 t[i] := H3.out _ (List.getElem_mem hit)
      have hxe : t[i] = f3 l[i] := by have := HTT.out; subst this; simp
      have HT := Lib.hid (List.take_succ_eq_append_getElem hit)
      obtain ⟨A, hA, hA2⟩ := and255 l[i]
      unfold f3 at hxe
      rw [hA] at hxe
      generalize l[i] = y at *
      generalize t[i] = x at *
      have hxf := hxe.symm
      clear hxe
      have hlen : (t.take i).length ≤ 100 := by simp; omega
      generalize t.take i = ti at *
      have HLn := Lib.hid hlen
      have N1 := Lib.hid (not_any x)
      have N2 := Lib.hid (not_any (notI x))
      rw [not_not hx3] at N2
      have I1 := Lib.hid (is_any x)
      have I2 := Lib.hid (is_any (notI x))
      rw [is_not hx3] at I2
      generalize hnx : notI x = nx at *
      have HNX := Lib.hid hnx
      generalize isI x = ix at *
      have bx : (x != x) = false := by simp
      have bix : (ix != ix) = false := by simp
      clear hlen hx3 hnx
      have HO4 := Lib.hid hO4
      have HO5 := Lib.hid hO5
      have HA := Lib.hid hap
      clear hO4 hO5 hap
      have hsz := hb.size
      go_wp2_with (at_builtin; refine wpList_append_at rfl _ _ rfl (Y := [x]) rfl rfl (HO4.out.below (below_a1 _ _)) (one_cells wr x) (by have := HLn.out; simp; omega) (by simp; omega) ?_; intro v4 w4 hO4 hg4 hat4)
      have hO5 := (HO5.out.below (below_a1 wr (.cells #[.int .i64 x] 27)))
      have ap4 := HA.out.grow hO5 hat4
      have hO5 := own_beside hO5 hg4 HA.out
      have b4 := (hb.alloc hb.size _).trans (below_of_grown hg4 (by simp; omega) HO4.out.row)
      clear hat4 hg4
      (with_reducible refine (N1.out _).mono ?_); rintro e wz ⟨rfl, rfl⟩
      have hsz4 := b4.size
      go_wp2_with (at_builtin; refine wpList_append_at rfl _ _ rfl (Y := [nx]) rfl rfl (hO5.below (below_a1 _ _)) (one_cells w4 nx) (by have := HLn.out; simp; omega) (by simp; omega) ?_; intro v5 w5 hO6 hg5 hat5)
      have hO7 := (hO4.below (below_a1 w4 (.cells #[.int .i64 nx] 27)))
      have ap5 := (ap4.symm.grow hO7 hat5).symm
      have hO7 := own_beside hO7 hg5 ap4.symm
      have b5 := (b4.alloc b4.size _).trans (below_of_grown hg5 (by simp; omega) hO5.row)
      clear hat5 hg5
      (with_reducible refine (N1.out _).mono ?_); rintro e wz ⟨rfl, rfl⟩
      go_wp2_with fail
      (with_reducible refine (N2.out _).mono ?_); rintro e wz ⟨rfl, rfl⟩
      go_wp2_with fail
      (with_reducible refine (I1.out _).mono ?_); rintro e wz ⟨rfl, rfl⟩
      go_wp2_with fail
      (with_reducible refine (N1.out _).mono ?_); rintro e wz ⟨rfl, rfl⟩
      go_wp2_with fail
      (with_reducible refine (I2.out _).mono ?_); rintro e wz ⟨rfl, rfl⟩
      go_wp2_with fail
      go_roundg (m - (i + 1))
      case rel => exact ⟨i + 1, by omega, by go_num, by rw [HT.out]; exact hO7, by rw [HT.out, List.map_append]; simp only [List.map_cons, List.map_nil]; rw [HNX.out]; exact hO6, ap5, b5⟩
      case measure => omega
    · obtain rfl : m = i := by omega
      have htk : t.take m = t := List.take_of_length_le (by rw [HTL.out]; exact Nat.le_refl _)
      rw [htk] at hO4 hO5
      clear htk
      have hT4 := hO4.ts
      have hT5 := hO5.ts
      have cw := Below.chain hb1 hb
      rename World => wA
      have A4 := Lib.hid (and_any _ _ _ _ hT4)
      have O4 := Lib.hid (or_any _ _ _ _ hT4)
      have A5 := Lib.hid (and_any _ _ _ _ hT5)
      have O5 := Lib.hid (or_any _ _ _ _ hT5)
      have NA := Lib.hid (not_any (joinI 0 t))
      have NO := Lib.hid (not_any (joinI 1 t))
      rw [join_turn (.inl rfl) t H3.out, show notI 0 = 1 from rfl] at NA
      rw [join_turn (.inr rfl) t H3.out, show notI 1 = 0 from rfl] at NO
      clear hO4 hO5 hT4 hT5 hap
      generalize joinI 0 t = p0 at *
      generalize joinI 1 t = p1 at *
      generalize joinI 0 (t.map notI) = q0 at *
      generalize joinI 1 (t.map notI) = q1 at *
      have e0 : (q0 == q0) = true := by simp
      have e1 : (q1 == q1) = true := by simp
      by_cases hLm : m < L
      · obtain rfl : 100 = m := by have := HM.out; omega
        have ii : ((100 : Nat) : Int) < (L : Int) := by omega
        go_wp2_with fail
        (with_reducible refine A4.out.mono ?_); rintro e wz ⟨rfl, rfl⟩
        go_wp2_with fail
        (with_reducible refine (NA.out _).mono ?_); rintro e wz ⟨rfl, rfl⟩
        go_wp2_with fail
        (with_reducible refine O5.out.mono ?_); rintro e wz ⟨rfl, rfl⟩
        go_wp2_with fail
        (with_reducible refine O4.out.mono ?_); rintro e wz ⟨rfl, rfl⟩
        go_wp2_with fail
        (with_reducible refine (NO.out _).mono ?_); rintro e wz ⟨rfl, rfl⟩
        go_wp2_with fail
        (with_reducible refine A5.out.mono ?_); rintro e wz ⟨rfl, rfl⟩
        go_wp2_with fail
        go_ret
        exact ⟨rfl, cw⟩
      · obtain rfl : L = m := by omega
        go_wp2_with fail
        (with_reducible refine A4.out.mono ?_); rintro e wz ⟨rfl, rfl⟩
        go_wp2_with fail
        (with_reducible refine (NA.out _).mono ?_); rintro e wz ⟨rfl, rfl⟩
        go_wp2_with fail
        (with_reducible refine O5.out.mono ?_); rintro e wz ⟨rfl, rfl⟩
        go_wp2_with fail
        (with_reducible refine O4.out.mono ?_); rintro e wz ⟨rfl, rfl⟩
        go_wp2_with fail
        (with_reducible refine (NO.out _).mono ?_); rintro e wz ⟨rfl, rfl⟩
        go_wp2_with fail
        (with_reducible refine A5.out.mono ?_); rintro e wz ⟨rfl, rfl⟩
        go_wp2_with fail
        go_ret
        exact ⟨rfl, cw⟩
theorem walk (v : Value) (l : List Int) (w : World) (h : Ts w.heap.size w v l) :
    Calls Try.prog 4 #[v] w fun e w' => e = .returned (.bool true) ∧ Below w.heap.size w w' := by
  obtain ⟨ao, cap, rfl, h2, h3, h4, h5⟩ := h
  simp only [maxLen] at h3
  exact walk_core (l.take 100) ao cap l.length (min l.length 100) w rfl (by simp; omega) (by omega) fun j u hj => by
    have hj' : j < 100 := by have := (List.getElem?_eq_some_iff.1 hj).1; simp at this; omega
    rw [List.getElem?_take, if_pos hj'] at hj
    exact h5 j u hj
end Go.Proofs.Ytblehbcehfmnkaa.LogicTurns
