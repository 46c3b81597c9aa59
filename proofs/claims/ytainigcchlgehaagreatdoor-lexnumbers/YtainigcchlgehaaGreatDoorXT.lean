import Derived.Test.YtainigcchlgehaaGreatDoorXG
import Derived.Shelf.Strings.BuilderK
namespace Go.Proofs.YtainigcchlgehaaGreatDoor
open Go Go.ChangeShapes Go.WideShapes Go.ChangeAt Go.RowKit
open Go.Joins
set_option linter.unusedVariables false
/-- tokens as a text -/
def joinT : List Tk → Bt
  | [] => []
  | [t] => t.text
  | t :: u :: r => t.text ++ 32 :: joinT (u :: r)
theorem joinT_snoc : ∀ (l : List Tk) (t : Tk), l ≠ [] → joinT (l ++ [t]) = joinT l ++ 32 :: t.text
  | [], t, h => absurd rfl h
  | [a], t, _ => rfl
  | a :: b :: r, t, _ => by
    show a.text ++ 32 :: joinT ((b :: r) ++ [t]) = _
    rw [joinT_snoc (b :: r) t (by simp)]
    simp [joinT]
theorem joinT_take {l : List Tk} {i : Nat} (hi : i < l.length) : joinT (l.take (i + 1)) = if i = 0 then l[i].text else joinT (l.take i) ++ 32 :: l[i].text := by
  rw [List.take_succ_eq_append_getElem hi]
  split
  · rename_i h; subst h; rfl
  · rename_i h
    exact joinT_snoc _ _ (by intro h2; have := congrArg List.length h2; rw [List.length_take, List.length_nil] at this; omega)
theorem joinT_le : ∀ (l : List Tk) (t : Tk), t ∈ l → t.text.length ≤ (joinT l).length
  | [], t, h => by cases h
  | [a], t, h => by
    rcases List.mem_cons.1 h with rfl | h
    · exact Nat.le_refl _
    · cases h
  | a :: b :: r, t, h => by
    have e : joinT (a :: b :: r) = a.text ++ 32 :: joinT (b :: r) := rfl
    rw [e, List.length_append, List.length_cons]
    rcases List.mem_cons.1 h with rfl | h
    · omega
    · have := joinT_le (b :: r) t h; omega
theorem joinT_mono (l : List Tk) : ∀ i, (joinT (l.take i)).length ≤ (joinT (l.take (i + 1))).length := by
  intro i
  by_cases hi : i < l.length
  · rw [joinT_take hi]
    split
    · rename_i h; subst h; simp [joinT]
    · simp
  · rw [List.take_of_length_le (by omega), List.take_of_length_le (by omega)]; exact Nat.le_refl _
theorem joinT_part (l : List Tk) : ∀ (d i : Nat), (joinT (l.take i)).length ≤ (joinT (l.take (i + d))).length
  | 0, i => Nat.le_refl _
  | d + 1, i => Nat.le_trans (joinT_part l d i) (joinT_mono l (i + d))
theorem joinT_all (l : List Tk) (i : Nat) : (joinT (l.take i)).length ≤ (joinT l).length := by
  have := joinT_part l l.length i
  rwa [List.take_of_length_le (show l.length ≤ i + l.length by omega)] at this
theorem RwK.at {w : World} {ao : Option Addr} {n cap : Nat} {l : List Tk} (h : RwK w (.slice ao n cap) l) (i : Nat) (hi : i < l.length) :
    ∃ b o, ao = some ⟨b, o, none⟩ ∧ ∀ j (hj : j < l.length), w.cell? ⟨b, o + j * 3, none⟩ = some (.int .i64 (l[j].kind : Int)) ∧ w.cell? ⟨b, o + j * 3 + 1, none⟩ = some (.string ⟨l[j].text.toArray⟩) ∧ w.cell? ⟨b, o + j * 3 + 2, none⟩ = some (.int .i64 (l[j].pos : Int)) := by
  obtain ⟨ao', cap', he, -, -, -, h5⟩ := h
  cases he
  obtain ⟨b, o, ha, -⟩ := h5 i hi
  refine ⟨b, o, ha, fun j hj => ?_⟩
  obtain ⟨b', o', ha', hc⟩ := h5 j hj
  rw [ha] at ha'
  cases ha'
  exact ⟨hc 0 (by omega), hc 1 (by omega), hc 2 (by omega)⟩
theorem lx_isb {T e : TypeId} {B b : Nat} {bs : List Value} {w w' : World} (h : Lib.IsBuilder T e B b bs w) (hb : Below w.heap.size w w') : Lib.IsBuilder T e B b bs w' := by
  have key : ∀ p, Lib.BuilderAt T e B b p bs w → Lib.BuilderAt T e B b p bs w' := by
    rintro p ⟨hB, v, hv, hown, hne⟩
    refine ⟨hB, v, (hb.block b (Array.getElem?_eq_some_iff.1 hv).1).trans hv, ⟨hown.1, ?_⟩, hne⟩
    rcases hown.2 with h0 | ⟨g, cap, cur, rfl, hbg, hg, rest⟩
    · exact .inl h0
    · exact .inr ⟨g, cap, cur, rfl, hbg, (hb.block g (Array.getElem?_eq_some_iff.1 hg).1).trans hg, rest⟩
  exact h.imp (key _) (key _)
theorem tk_size (l : Bt) : (⟨l.toArray⟩ : ByteArray).size = l.length := by simp [ByteArray.size]
abbrev IsBF (B : Nat) (l : Bt) (w : World) : Prop := Lib.IsBuilderF 54 5 B B (Lib.byteCells l) w
/-- blocks that are neither the builder's nor rows of bytes -/
abbrev Oth (B : Nat) (w w' : World) : Prop := Lib.OthersKept 5 (some B) w w'
theorem isbf_below {B : Nat} {l : Bt} {w w' : World} (h : IsBF B l w) (hb : Below w.heap.size w w') : IsBF B l w' := by
  have key : ∀ p, Lib.BuilderAtF 54 5 B B p (Lib.byteCells l) w → Lib.BuilderAtF 54 5 B B p (Lib.byteCells l) w' := by
    rintro p ⟨hB, v, hv, hown, hne⟩
    refine ⟨hB, v, (hb.block B (Array.getElem?_eq_some_iff.1 hv).1).trans hv, ⟨hown.1, ?_⟩, hne⟩
    rcases hown.2 with h0 | ⟨g, cap, cur, fz, rfl, hbg, hg, rest⟩
    · exact .inl h0
    · exact .inr ⟨g, cap, cur, fz, rfl, hbg, (hb.block g (Array.getElem?_eq_some_iff.1 hg).1).trans hg, rest⟩
  exact h.imp (key _) (key _)
theorem wbyte_k (B : Nat) (acc : Bt) (c : UInt8) (w : World) (h : IsBF B acc w) (hlen : acc.length + 1 ≤ 140737488355328) (hBw : B ≤ w.heap.size) :
    Calls Tryz.prog 19 #[.pointer (some ⟨B, 0, none⟩), .int .u8 (c.toNat : Int)] w fun e w' => e = .returned .nilIface ∧ IsBF B (acc ++ [c]) w' ∧ Below B w w' ∧ Oth B w w' := by
  have W := Any.Builder_WriteByte_k Tryz.lays167 Tryz.Builder_Extra_167 B B (Lib.byteCells acc) (c.toNat : Int) w h (by rw [Lib.byteCells_length]; exact hlen) hBw
  rw [bc_snoc] at W
  exact W.mono fun e w' ⟨he, h1, h2, h3⟩ => ⟨he, .inr h1, h2, h3⟩
theorem wstr_k (B : Nat) (acc x : Bt) (w : World) (h : IsBF B acc w) (hlen : acc.length + x.length ≤ 140737488355328) (hBw : B ≤ w.heap.size) :
    Calls Tryz.prog 20 #[.pointer (some ⟨B, 0, none⟩), .string ⟨x.toArray⟩] w fun e w' => (∃ n, e = .returned (.tuple #[.int .i64 n, .nilIface])) ∧ IsBF B (acc ++ x) w' ∧ Below B w w' ∧ Oth B w w' := by
  have W := Any.Builder_WriteString_k Tryz.lays166 Tryz.Builder_Extra_166 B B (Lib.byteCells acc) ⟨x.toArray⟩ w h (by rw [Lib.byteCells_length, tk_size]; exact hlen) hBw
  have hbc : Lib.byteCells acc ++ Lib.strCells ⟨x.toArray⟩ = Lib.byteCells (acc ++ x) := by rw [show Lib.strCells ⟨x.toArray⟩ = Lib.byteCells x from rfl, bc_app]
  rw [hbc] at W
  exact W.mono fun e w' ⟨he, h1, h2, h3⟩ => ⟨⟨_, he⟩, .inr h1, h2, h3⟩
theorem bstr_k (B : Nat) (acc : Bt) (w : World) (h : IsBF B acc w) (hBw : B ≤ w.heap.size) :
    Calls Tryz.prog 21 #[.pointer (some ⟨B, 0, none⟩)] w fun e w' => e = .returned (.string ⟨acc.toArray⟩) ∧ IsBF B acc w' ∧ Below B w w' ∧ Oth B w w' :=
  Any.Builder_String_any_k Tryz.lays169 Tryz.Builder_Extra_169 B B acc w h hBw
theorem isbf_fresh (w : World) : IsBF w.heap.size [] (w.alloc (.cells #[.pointer none, .slice none 0 0] 54)) := Lib.IsBuilderF.of (Lib.fresh_isBuilder 54 5 w)
theorem Vr.oth {w w' : World} {b B : Nat} {e : TypeId} {cs : Array Value} (h : Vr w b e cs) (ho : Oth B w w') (hb : b ≠ B) (he : e ≠ 5) : Vr w' b e cs :=
  ho b _ h (fun hh => hb (Option.some.inj hh)) (fun c fz hh => he (by injection hh))
set_option maxHeartbeats 4000000 in
set_option maxRecDepth 100000 in
theorem lxtext_any (l : List Tk) (v : Value) (hj : (joinT l).length ≤ 1000000) (w : World) (h : RwK w v l) : Calls Tryz.prog 13 #[v] w fun e w' => e = .returned (.string ⟨(joinT l).toArray⟩) ∧ Below w.heap.size w w' := by
  have hL : ∃ ao L cap, v = .slice ao L cap ∧ l.length = L ∧ L ≤ 9223372036854775807 := by
    obtain ⟨a, c, e, e1, e2, -⟩ := h
    simp only [maxLen] at e2
    exact ⟨a, _, c, e, rfl, by omega⟩
  obtain ⟨ao, L, cap, rfl, hL, hLm⟩ := hL
  have HR := Lib.hid h
  have HL := Lib.hid hL
  have HJ := Lib.hid (fun i => Nat.le_trans (joinT_all l i) hj)
  have I0 := Lib.hid (isbf_fresh w)
  have B0 := Lib.hid (below_a1 w (.cells #[.pointer none, .slice none 0 0] 54))
  clear h hL hj
  go_enter Tryz.func13, Tryz.ntmps13
  go_wp2_with fail
  go_loopg [4, 5, 8] L (fun g s4 s5 s8 wr => ∃ i : Nat, g + i = L ∧ s8 = .int .i64 i ∧ IsBF w.heap.size (joinT (l.take i)) wr ∧ Below w.heap.size w wr)
  case atStart => exact ⟨0, rfl, rfl, I0.out, B0.out⟩
  case round =>
    obtain ⟨i, hg, rfl, hI, hb⟩ := hrel
    have HI := Lib.hid hI
    have HB := Lib.hid hb
    have hz := hb.size
    clear hI hb
    by_cases hlt : i < L
    · have ii : (i : Int) < (L : Int) := by omega
      have i0 : (0 : Int) ≤ (i : Int) := by omega
      have hi : i < l.length := by rw [HL.out]; exact hlt
      obtain ⟨b, o, rfl, hc⟩ := RwK.at (HR.out.keep HB.out) i hi
      obtain ⟨q0, q1, q2⟩ := hc i hi
      have HTK := Lib.hid (joinT_take hi)
      have HJ1 := Lib.hid (HJ.out (i + 1))
      generalize l[i] = t at *
      obtain ⟨tk, tx, tp⟩ := t
      simp only at q0 q1 q2 HTK
      have WV := below_a1 wr (.cells #[.int .i64 (tk : Int), .string ⟨tx.toArray⟩, .int .i64 (tp : Int)] 34)
      have HB1 := Lib.hid (HB.out.trans (WV.mono hz))
      have HI1 := Lib.hid (isbf_below HI.out WV)
      have hz1 := HB1.out.size
      clear hc WV
      by_cases hi0 : i = 0
      · have ig : ¬ ((0 : Int) < (i : Int)) := by omega
        have HT2 := Lib.hid (show joinT (l.take (i + 1)) = tx by rw [HTK.out, if_pos hi0])
        have e0 : joinT (l.take i) = [] := by rw [hi0]; rfl
        rw [e0] at HI1
        have W1 := wstr_k w.heap.size [] tx _ HI1.out (by have := HJ1.out; rw [HT2.out] at this; simp; omega) hz1
        rw [List.nil_append] at W1
        clear hi0 e0
        go_wp2_with fail
        (with_reducible refine W1.mono ?_); rintro e w5 ⟨⟨n5, rfl⟩, h5, h5b, -⟩
        have HB5 := Lib.hid (HB1.out.trans h5b)
        have H5 := Lib.hid h5
        clear h5 h5b W1
        go_wp2_with fail
        go_roundg (L - (i + 1))
        case rel => exact ⟨i + 1, by omega, by go_num, by rw [HT2.out]; exact H5.out, HB5.out⟩
        case measure => omega
      · have ig : (0 : Int) < (i : Int) := by omega
        have HT2 := Lib.hid (show joinT (l.take (i + 1)) = joinT (l.take i) ++ 32 :: tx by rw [HTK.out, if_neg hi0])
        have HLN := Lib.hid (show (joinT (l.take i)).length + 1 + tx.length ≤ 1000000 by have := HJ1.out; rw [HT2.out] at this; simp at this; omega)
        generalize joinT (l.take i) = acc at *
        have W0 := wbyte_k w.heap.size acc 32 _ HI1.out (by have := HLN.out; omega) hz1
        rw [show (((32 : UInt8).toNat : Nat) : Int) = 32 from rfl] at W0
        have HW1 := Lib.hid (fun (u : World) (hI : IsBF w.heap.size (acc ++ [32]) u) (hz : w.heap.size ≤ u.heap.size) => wstr_k w.heap.size (acc ++ [32]) tx u hI (by have := HLN.out; simp; omega) hz)
        rw [List.append_assoc] at HW1
        have V1 := Lib.hid (Vr.new wr 34 #[.int .i64 (tk : Int), .string ⟨tx.toArray⟩, .int .i64 (tp : Int)])
        have hne : w.heap.size < wr.heap.size := HI.out.elim (fun x => x.lt) (fun x => x.lt)
        clear hi0
        go_wp2_with fail
        (with_reducible refine W0.mono ?_); rintro e w4 ⟨rfl, h4, h4b, h4o⟩
        have HB4 := Lib.hid (HB1.out.trans h4b)
        have hz4 := HB4.out.size
        have W1 := HW1.out w4 h4 hz4
        have V4 := V1.out.oth h4o (by omega) (by decide)
        have q1' := V4.cell 1
        clear h4 h4b h4o W0
        go_wp2_with fail
        (with_reducible refine W1.mono ?_); rintro e w5 ⟨⟨n5, rfl⟩, h5, h5b, -⟩
        have HB5 := Lib.hid (HB4.out.trans h5b)
        have H5 := Lib.hid h5
        clear h5 h5b W1
        go_wp2_with fail
        go_roundg (L - (i + 1))
        case rel => exact ⟨i + 1, by omega, by go_num, by rw [HT2.out]; exact H5.out, HB5.out⟩
        case measure => omega
    · have ii : ¬ ((i : Int) < (L : Int)) := by omega
      have et : l.take i = l := List.take_of_length_le (by rw [HL.out]; omega)
      rw [et] at HI
      have W1 := bstr_k w.heap.size _ wr HI.out hz
      clear et
      go_wp2_with fail
      (with_reducible refine W1.mono ?_); rintro e w5 ⟨rfl, -, h5b, -⟩
      have HB5 := HB.out.trans h5b
      go_wp2_with fail
      go_ret
      exact ⟨rfl, HB5⟩
end Go.Proofs.YtainigcchlgehaaGreatDoor
