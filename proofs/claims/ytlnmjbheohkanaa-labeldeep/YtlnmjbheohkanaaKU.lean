import Derived.Test.YtlnmjbheohkanaaKT
namespace Go.Proofs.Ytlnmjbheohkanaa
open Go Go.RowKit
set_option linter.unusedVariables false
/-- an expression in memory, whose slices lie in blocks of S -/
inductive TrS (S : Nat → Prop) (w : World) : Ex → List Value → Prop
  | mk (kind : Int) (name : ByteArray) (v : Vl) (kids : List Ex) (ao : Option Addr) (cap : Nat) (cs : Nat → List Value)
    (hv : v.Ok) (hcap : kids.length ≤ cap) (hm : cap ≤ maxLen) (hn : ao = none → cap = 0)
    (hc : ∀ i, i < kids.length → ∃ b o, ao = some ⟨b, o, none⟩ ∧ S b ∧ (cs i).length = 7 ∧ ∀ j, j < 7 → w.cell? ⟨b, o + i * 7 + j, none⟩ = (cs i)[j]?)
    (hk : ∀ i (h : i < kids.length), TrS S w kids[i] (cs i)) :
    TrS S w (.node kind name v kids) [.int .i64 kind, .string name, .int .i64 v.k, .int .i64 v.n, .float .f64 v.f, .string v.s, .slice ao kids.length cap]
theorem TrS.tr {S : Nat → Prop} {w : World} {t : Ex} {cs : List Value} (h : TrS S w t cs) : Tr w t cs := by
  induction h with
  | mk kind name v kids ao cap cs hv hcap hm hn hc hk ih =>
    exact .mk kind name v kids ao cap cs hv hcap hm hn (fun i hi => let ⟨b, o, ha, _, hl, hcell⟩ := hc i hi; ⟨b, o, ha, hl, hcell⟩) ih
theorem TrS.move {S S' : Nat → Prop} {w w' : World} {t : Ex} {cs : List Value} (h : TrS S w t cs) (hm : ∀ b o u, S b → w.cell? ⟨b, o, none⟩ = some u → S' b ∧ w'.cell? ⟨b, o, none⟩ = some u) : TrS S' w' t cs := by
  induction h with
  | mk kind name v kids ao cap cs hv hcap hm' hn hc hk ih =>
    refine .mk kind name v kids ao cap cs hv hcap hm' hn (fun i hi => ?_) ih
    obtain ⟨b, o, ha, hs, hl, hcell⟩ := hc i hi
    have hx : ∀ j, (hj : j < 7) → S' b ∧ w'.cell? ⟨b, o + i * 7 + j, none⟩ = (cs i)[j]? := fun j hj => by
      have hcj := hcell j hj
      rw [List.getElem?_eq_getElem (by omega)] at hcj ⊢
      exact hm b _ _ hs hcj
    exact ⟨b, o, ha, (hx 0 (by omega)).1, hl, fun j hj => (hx j hj).2⟩
def TxS (S : Nat → Prop) (w : World) (t : Ex) (x : Xc) : Prop := TrS S w t (encX.enc x)
theorem TxS.tx {S : Nat → Prop} {w : World} {t : Ex} {x : Xc} (h : TxS S w t x) : Tx w t x := TrS.tr h
def TxsS (S : Nat → Prop) (w : World) (l : List Ex) (xs : List Xc) : Prop := l.length = xs.length ∧ ∀ i (h : i < l.length) (h' : i < xs.length), TxS S w l[i] xs[i]
theorem TxsS.nil (S : Nat → Prop) (w : World) : TxsS S w [] [] := ⟨rfl, fun i h => by simp at h⟩
theorem TxsS.move {S S' : Nat → Prop} {w w' : World} {l : List Ex} {xs : List Xc} (h : TxsS S w l xs) (hm : ∀ b o u, S b → w.cell? ⟨b, o, none⟩ = some u → S' b ∧ w'.cell? ⟨b, o, none⟩ = some u) : TxsS S' w' l xs := ⟨h.1, fun i hi hi' => TrS.move (h.2 i hi hi') hm⟩
theorem TxsS.keep {S : Nat → Prop} {w w' : World} {l : List Ex} {xs : List Xc} (h : TxsS S w l xs) (hb : Below w.heap.size w w') : TxsS S w' l xs := h.move fun b o u hs hc => ⟨hs, (hb.cell (block_lt_of_cell hc)).trans hc⟩
theorem TxS.keep {S : Nat → Prop} {w w' : World} {t : Ex} {x : Xc} (h : TxS S w t x) (hb : Below w.heap.size w w') : TxS S w' t x := TrS.move h fun b o u hs hc => ⟨hs, (hb.cell (block_lt_of_cell hc)).trans hc⟩
theorem TxsS.app {S : Nat → Prop} {w : World} {l : List Ex} {xs : List Xc} {t : Ex} {x : Xc} (h : TxsS S w l xs) (k : TxS S w t x) : TxsS S w (l ++ [t]) (xs ++ [x]) := by
  refine ⟨by simp [h.1], fun i hi hi' => ?_⟩
  by_cases hl : i < l.length
  · rw [List.getElem_append_left hl, List.getElem_append_left (by rw [← h.1]; exact hl)]; exact h.2 i hl (by rw [← h.1]; exact hl)
  · have hi2 : i < l.length + 1 := by simpa using hi
    rw [List.getElem_append_right (by omega), List.getElem_append_right (by rw [← h.1]; omega)]
    have e : i - l.length = 0 := by omega
    have e' : i - xs.length = 0 := by have := h.1; omega
    simp only [e, e']; exact k
theorem TxS.mk1 {S : Nat → Prop} {w : World} {g : Nat} {t : Ex} {x : Xc} {kind : Int} (hV : Vr w g 28 (xcs x)) (hS : S g) (hk : TxS S w t x) : TxS S w (.node kind ⟨#[]⟩ vz [t]) ⟨kind, ⟨#[]⟩, vz, some ⟨g, 0, none⟩, 1, 1⟩ :=
  TrS.mk (S := S) (w := w) kind ⟨#[]⟩ vz [t] (some ⟨g, 0, none⟩) 1 (fun _ => encX.enc x) zero_ok (Nat.le_refl _) (by simp [maxLen]) (fun h => (by cases h)) (fun i hi => ⟨g, 0, rfl, hS, rfl, fun j hj => by
    have : i = 0 := by simpa using hi
    subst this
    have := hV.lies7 rfl j hj
    simpa using this⟩) (fun i hi => by
    have : i = 0 := by simpa using hi
    subst this
    exact hk)
theorem TxS.leaf (S : Nat → Prop) (w : World) (s : ByteArray) : TxS S w (nmE s) ⟨4, s, vz, none, 0, 0⟩ :=
  TrS.mk (S := S) (w := w) 4 s vz [] none 0 (fun _ => []) zero_ok (Nat.le_refl _) (by simp [maxLen]) (fun _ => rfl) (fun i hi => by simp at hi) (fun i hi => by simp at hi)
theorem TxS.of_leaf {S : Nat → Prop} {w : World} {k : Int} {nm : ByteArray} {v : Vl} {x : Xc} (h : Tx w (.node k nm v []) x) : TxS S w (.node k nm v []) x := by
  obtain ⟨h1, h2, h3, hv, xs, hr, hk⟩ := Tx.inv h
  have hx : xs = [] := by
    have := hk.1
    exact List.eq_nil_of_length_eq_zero this.symm
  subst hx
  obtain ⟨k0, n0, v0, ao, len, cap⟩ := x
  simp only at h1 h2 h3 hr
  subst h1 h2 h3
  obtain ⟨ao', cap', he, e1, e2, e3, -⟩ := hr
  cases he
  exact TrS.mk (S := S) (w := w) k0 n0 v0 [] ao cap (fun _ => []) hv (Nat.zero_le _) e2 e3 (fun i hi => by simp at hi) (fun i hi => by simp at hi)
set_option maxHeartbeats 1000000 in
theorem not6S_any (S : Nat → Prop) (t : Ex) (x : Xc) (w : World) (h : TxS S w t x) (hS : ∀ b, w.heap.size ≤ b → S b) :
    Calls Try.prog 25 #[xv x] w fun e w' => ∃ y, e = .returned (xv y) ∧ TxS S w' (.node 6 ⟨#[]⟩ ⟨0, 0, 0, ⟨#[]⟩⟩ [t]) y ∧ Below w.heap.size w w' := by
  have c0 := below_a2 w (.cells (xcs x) 28) (.cells #[.int .i64 0, .string ⟨#[]⟩, .int .i64 0, .int .i64 0, .float .f64 0, .string ⟨#[]⟩, .slice none 0 0] 28)
  have L := ((lies7_new w x 28 (xcs x) rfl).keep (below_a1 (w.alloc (.cells (xcs x) 28)) (.cells #[.int .i64 0, .string ⟨#[]⟩, .int .i64 0, .int .i64 0, .float .f64 0, .string ⟨#[]⟩, .slice none 0 0] 28)))
  have V := Vr.at' (w.alloc (.cells (xcs x) 28)) 28 #[.int .i64 0, .string ⟨#[]⟩, .int .i64 0, .int .i64 0, .float .f64 0, .string ⟨#[]⟩, .slice none 0 0] (w.heap.size + 1) (by simp)
  have HT := Lib.hid h
  have hz : ((w.alloc (.cells (xcs x) 28)).alloc (.cells #[.int .i64 0, .string ⟨#[]⟩, .int .i64 0, .int .i64 0, .float .f64 0, .string ⟨#[]⟩, .slice none 0 0] 28)).heap.size = w.heap.size + 1 + 1 := by simp
  have ⟨q0, q1, q2, q3, q4, q5, q6⟩ := L.at
  have SZ := Lib.hid hz
  clear h L hz
  generalize hW : (w.alloc (.cells (xcs x) 28)).alloc (.cells #[.int .i64 0, .string ⟨#[]⟩, .int .i64 0, .int .i64 0, .float .f64 0, .string ⟨#[]⟩, .slice none 0 0] 28) = W0 at *
  have a1 := below_a1 W0 (.cells (xcs x) 28)
  have V1 := Lib.hid (V.keep a1)
  have X1 := Lib.hid (Vr.new W0 28 (xcs x))
  go_enter Try.func25, Try.ntmps25
  go_upto_region 1 with fail
  try rw [hW]
  clear hW
  go_wp2_with (refine wpList_store_x ⟨6, ⟨#[]⟩, ⟨0, 0, 0, ⟨#[]⟩⟩, some ⟨W0.heap.size, 0, none⟩, 1, 1⟩ rfl _ _ rfl rfl rfl V1.out rfl ?_)
  refine ret_x ⟨6, ⟨#[]⟩, ⟨0, 0, 0, ⟨#[]⟩⟩, some ⟨W0.heap.size, 0, none⟩, 1, 1⟩ rfl rfl rfl ((V1.out.set _).lies7 rfl) ?_
  have b4 := below_setRow (Below.chain c0 a1) (show w.heap.size ≤ w.heap.size + 1 by omega) (xcs ⟨6, ⟨#[]⟩, ⟨0, 0, 0, ⟨#[]⟩⟩, some ⟨W0.heap.size, 0, none⟩, 1, 1⟩)
  have g4 := (X1.out.grown (grown_rowS _ (w.heap.size + 1) (xcs ⟨6, ⟨#[]⟩, ⟨0, 0, 0, ⟨#[]⟩⟩, some ⟨W0.heap.size, 0, none⟩, 1, 1⟩)) (by have := SZ.out; simp; omega))
  exact ⟨_, rfl, TxS.mk1 g4 (hS _ (by have := SZ.out; omega)) (HT.out.keep b4), b4⟩
end Go.Proofs.Ytlnmjbheohkanaa
