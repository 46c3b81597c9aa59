import Derived.Test.YtdoefndppoglfaaG4
import Derived.ProofKit
import Derived.OpenShut
import Derived.Carry
import Derived.ChangeSlices
import Derived.Lib.SmallJoins
import Derived.Laws.Cover2
import Derived.Deep.Slices
import Derived.WalkLawsBesides
namespace Go.Proofs.Ytdoefndppoglfaa
open Go Go.ChangeShapes Go.WideShapes Go.ChangeAt Go.RowKit
open Go.Joins
set_option linter.unusedVariables false
section
variable {α : Type} {sz : Nat} {E : Enc α sz} {e : TypeId}
theorem run_append_wide {P : Program} {w : World} {base : Nat} {v x : Value} {l m : List α} (t ty : TypeId) {z : Value} {bytes : Nat} (ht : P.underlying t = some (.slice e)) (hinfo : (P.info? e).map (fun i => (i.zero, i.size, i.bytes)) = some (some z, sz, bytes)) (hzs : z.cells.size = sz) (hsz : 0 < sz) (hb1 : 1 ≤ bytes)
    (h : Ow E e w base v l) (hx : Rw E w x m) (hlen : (l.length + m.length) * bytes ≤ 140737488355328) (hbase : base ≤ w.heap.size) :
    ∃ v' w', (Builtin.append_ #[t, t] ty #[v, x]).run P w = .ok v' w' ∧ Ow E e w' base v' (l ++ m) ∧ w.grownBy w' v.ownBlock ∧ (v'.ownBlock = v.ownBlock ∨ v'.ownBlock = some w.heap.size) := by
  obtain ⟨i, hi, hz, hs, hb⟩ := info_parts hinfo
  have hx' := hx
  obtain ⟨ao, cap, rfl, h2, h3, h4, h5⟩ := hx
  cases ao with
  | none =>
    have hc := h4 rfl
    have hm : m = [] := List.eq_nil_of_length_eq_zero (by omega)
    subst hm
    subst hc
    have hr := run_append_owned_none (P := P) w base t ty e i sz ht hi v l.length (E.cells l) h
    exact ⟨v, w, hr, by rw [List.append_nil]; exact h, ⟨rfl, rfl, rfl, Nat.le_refl _, fun _ _ _ => rfl⟩, .inl rfl⟩
  | some a =>
    have hle : l.length + m.length ≤ 140737488355328 := Nat.le_trans (Nat.le_mul_of_pos_right _ hb1) hlen
    obtain ⟨v', w', hr, ho, hg, _, hat⟩ := run_append_own_at (P := P) w base t ty e i z sz bytes ht hi hz hs hb hzs hsz v l.length (E.cells l) h a m.length cap (E.cells m) (E.cells_len m) (hx'.cellsAt hsz) (E.cells_one m) (by simp only [maxLen]; omega) hlen hbase
    refine ⟨v', w', hr, ?_, hg, hat⟩
    unfold Ow
    rw [List.length_append, E.cells_app]; exact ho
theorem wpList_append_wide {P : Program} {w : World} {ops : Array Oper} {rest : List Oper} {o : Oper} {a : Act} {Q : Exit → Act → World → Prop} (hgd : o.guard = none) (s x : Operand) (t : TypeId)
    (ho : o.op = .call { callee := .builtin .append, args := #[s, x], argTypes := #[t, t] }) {base : Nat} {v vx z : Value} {bytes : Nat} {l m : List α} (ht : P.underlying t = some (.slice e)) (hinfo : (P.info? e).map (fun i => (i.zero, i.size, i.bytes)) = some (some z, sz, bytes)) (hzs : z.cells.size = sz) (hsz : 0 < sz) (hb1 : 1 ≤ bytes) (hs : a.eval s = v) (hx : a.eval x = vx)
    (h : Ow E e w base v l) (hm : Rw E w vx m) (hlen : (l.length + m.length) * bytes ≤ 140737488355328) (hbase : base ≤ w.heap.size)
    (hk : ∀ v' w', Ow E e w' base v' (l ++ m) → w.grownBy w' v.ownBlock → (v'.ownBlock = v.ownBlock ∨ v'.ownBlock = some w.heap.size) → wpList P ops Q rest (a.put o.dst v') w') : wpList P ops Q (o :: rest) a w := by
  obtain ⟨v', w', hr, h1, h2, h3⟩ := run_append_wide (E := E) t o.type ht hinfo hzs hsz hb1 h hm hlen hbase
  exact Lib.wpList_append_run w hgd s x t t ho v vx hs hx v' w' hr (hk v' w' h1 h2 h3)
theorem step_append_wide {P : Program} {w : World} {ops : Array Oper} {o : Oper} {a : Act} {K : Act → World → Prop} {Q : Exit → Act → World → Prop} {F : Prop} (hgd : o.guard = none) (s x : Operand) (t : TypeId)
    (ho : o.op = .call { callee := .builtin .append, args := #[s, x], argTypes := #[t, t] }) {base : Nat} {v vx z : Value} {bytes : Nat} {l m : List α} (ht : P.underlying t = some (.slice e)) (hinfo : (P.info? e).map (fun i => (i.zero, i.size, i.bytes)) = some (some z, sz, bytes)) (hzs : z.cells.size = sz) (hsz : 0 < sz) (hb1 : 1 ≤ bytes) (hs : a.eval s = v) (hx : a.eval x = vx)
    (h : Ow E e w base v l) (hm : Rw E w vx m) (hlen : (l.length + m.length) * bytes ≤ 140737488355328) (hbase : base ≤ w.heap.size)
    (hk : ∀ v' w', Ow E e w' base v' (l ++ m) → w.grownBy w' v.ownBlock → (v'.ownBlock = v.ownBlock ∨ v'.ownBlock = some w.heap.size) → K (a.put o.dst v') w') : if Region.wanted o (yielded ops a.tmps) = true then Oper.wp P o a w K Q else F := by
  have hw : Region.wanted o (yielded ops a.tmps) = true := by simp [Region.wanted, hgd]
  rw [if_pos hw]
  obtain ⟨v', w', hr, h1, h2, h3⟩ := run_append_wide (E := E) t o.type ht hinfo hzs hsz hb1 h hm hlen hbase
  exact Lib.wp_append_run w s x t t ho v vx hs hx v' w' hr (hk v' w' h1 h2 h3)
end
/-- may a property's value be? -/
def valB (p : Pr) : Bool := rightB p.2.k p.2.n p.2.f p.2.s && !decide (p.2.k = 0)
/-- may properties be? -/
def propsB (l : List Pr) : Bool := l.all valB && risingB (l.map Prod.fst)
theorem props_no {l : List Pr} {i : Nat} (hi : i < l.length) (h : valB l[i] = false) : propsB l = false := by
  unfold propsB
  rw [Bool.eq_false_iff]
  intro ha
  rw [Bool.and_eq_true] at ha
  have := List.all_eq_true.1 ha.1 l[i] (List.getElem_mem hi)
  rw [h] at this
  cases this
set_option maxRecDepth 100000 in
set_option maxHeartbeats 4000000 in
theorem rprops_core (l : List Pr) (ao : Option Addr) (L cap : Nat) (w : World) (h : RwP w (.slice ao L cap) l) (hok : ∀ q ∈ l, q.2.Ok) (hlim : Lim l.length 56) :
    Calls Try.prog 33 #[.slice ao L cap] w fun e w' => e = .returned (.bool (propsB l)) ∧ Below w.heap.size w w' := by
  have hL : l.length = L := by obtain ⟨a, c, e, -⟩ := h; cases e; rfl
  have HR := Lib.hid h
  have HL := Lib.hid hL
  have HO := Lib.hid hok
  have lim := hlim.le
  rw [hL] at lim
  have HE := Lib.hid (Ow.lit (E := encS) (e := 9) w w.heap.size [] (Nat.le_refl _) (by simp) #[] rfl)
  have B0 := Lib.hid (below_a1 w (.cells #[] 9))
  clear h hok hlim hL
  go_enter Try.func33, Try.ntmps33
  go_wp2_with fail
  go_loopg [3, 4, 5] L (fun g s3 s4 s5 wr => ∃ i : Nat, g + i = L ∧ s4 = .int .i64 i ∧ OwS wr w.heap.size s3 ((l.take i).map Prod.fst) ∧ (l.take i).all valB = true ∧ Below w.heap.size w wr)
  case atStart => exact ⟨0, rfl, rfl, HE.out, rfl, B0.out⟩
  case round =>
    obtain ⟨i, hg, rfl, hO, hy, hb⟩ := hrel
    by_cases hlt : i < L
    · have ii : (i : Int) < (L : Int) := by omega
      have hi : i < l.length := by rw [HL.out]; exact hlt
      obtain ⟨b, o, rfl, q0, q1, q2, q3, q4⟩ := RwP.at (HR.out.keep hb) i hi
      have HK := Lib.hid (HO.out _ (List.getElem_mem hi))
      have HF := Lib.hid (show valB l[i] = false → propsB l = false from props_no hi)
      have HT := Lib.hid (show valB l[i] = true → (l.take (i + 1)).all valB = true by
        intro e
        rw [List.take_succ_eq_append_getElem hi, List.all_append, hy]
        simp [e])
      have HM := Lib.hid (show (l.take (i + 1)).map Prod.fst = (l.take i).map Prod.fst ++ [l[i].1] by rw [List.take_succ_eq_append_getElem hi, List.map_append]; rfl)
      have HN := Lib.hid (show ((l.take i).map Prod.fst).length = i by simp; omega)
      have HOw := Lib.hid hO
      have HRow := Lib.hid hO.row
      have HB := Lib.hid hb
      have hbsz := hb.size
      clear hO hy hb
      generalize l[i] = z at *
      obtain ⟨nm, k, n, f, s⟩ := z
      dsimp only at q0 q1 q2 q3 q4 HK HM
      generalize (l.take i).map Prod.fst = ns at *
      have R := Lib.hid (rright_any k n f HK.out.f2 s)
      cases hr : rightB k n f s
      · rw [hr] at R
        have HF2 := Lib.hid (HF.out (by simp [valB, hr]))
        clear hr
        go_wp2_with fail
        (with_reducible refine (R.out _).mono ?_); rintro e w2 ⟨rfl, hb2⟩
        have hw := Lib.hid ((HB.out.trans (hb2.mono hbsz)))
        go_wp2_with fail
        go_ret
        exact ⟨by rw [HF2.out]; rfl, hw.out⟩
      · rw [hr] at R
        by_cases hk : k = 0
        · subst hk
          have HF2 := Lib.hid (HF.out (by simp [valB]))
          clear hr
          go_wp2_with fail
          (with_reducible refine (R.out _).mono ?_); rintro e w2 ⟨rfl, hb2⟩
          have hw := Lib.hid ((HB.out.trans (hb2.mono hbsz)))
          have z1 := (hb2.cell (block_lt_of_cell q1)).trans q1
          clear q0 q1 q2 q3 q4
          go_wp2_with fail
          go_ret
          exact ⟨by rw [HF2.out]; rfl, hw.out⟩
        · have HT2 := Lib.hid (HT.out (by simp [valB, hr, hk]))
          clear hr
          go_wp2_with fail
          (with_reducible refine (R.out _).mono ?_); rintro e w2 ⟨rfl, hb2⟩
          have hw := Lib.hid ((HB.out.trans (hb2.mono hbsz)))
          have z0 := (hb2.cell (block_lt_of_cell q0)).trans q0
          have z1 := (hb2.cell (block_lt_of_cell q1)).trans q1
          have HOs := Lib.hid (HOw.out.below hb2)
          clear q0 q1 q2 q3 q4
          go_wp2_with (at_builtin; refine wpList_append_wide (E := encS) rfl _ _ _ rfl Try.underlying40 info_str rfl (by decide) (by decide) rfl rfl (HOs.out.below (below_a1 _ _)) (Ow.lit (E := encS) (e := 9) _ w.heap.size [nm] hw.out.size (by simp) _ rfl).rw (by have := HN.out; simp; omega) (hw.out.alloc hw.out.size _).size ?_; intro v5 w5 hO5 hg5 hat5)
          go_roundg (L - (i + 1))
          case rel => exact ⟨i + 1, by omega, by go_num, by rw [HM.out]; exact hO5, HT2.out, (hw.out.alloc hw.out.size _).trans (below_of_grown hg5 (hw.out.alloc hw.out.size _).size HRow.out)⟩
          case measure => omega
    · obtain rfl : L = i := by omega
      have ii : ¬ ((L : Int) < (L : Int)) := by omega
      have ht : l.take L = l := List.take_of_length_le (by rw [HL.out]; exact Nat.le_refl _)
      rw [ht] at hO hy
      have HP := Lib.hid (show propsB l = risingB (l.map Prod.fst) by unfold propsB; rw [hy]; rfl)
      have C := Lib.hid (rising_any (l.map Prod.fst) _ wr hO.rw)
      have hbs := Lib.hid hb
      clear hO hy ht hb
      go_wp2_with fail
      (with_reducible refine C.out.mono ?_); rintro e w2 ⟨rfl, hb2⟩
      go_wp2_with fail
      go_ret
      exact ⟨by rw [HP.out]; rfl, hbs.out.trans (hb2.mono hbs.out.size)⟩
/-- may properties be, in memory? -/
theorem rprops_any (l : List Pr) (v : Value) (w : World) (h : RwP w v l) (hok : ∀ q ∈ l, q.2.Ok) (hlim : Lim l.length 56) :
    Calls Try.prog 33 #[v] w fun e w' => e = .returned (.bool (propsB l)) ∧ Below w.heap.size w w' := by
  obtain ⟨ao, cap, rfl⟩ := h.shape
  exact rprops_core l ao _ cap w h hok hlim
end Go.Proofs.Ytdoefndppoglfaa
