import Derived.Test.YtmfjcphjncgigaaHM
import Derived.Test.YtmfjcphjncgigaaHI
import Derived.Test.YtmfjcphjncgigaaFR2
namespace Go.Proofs.Ytmfjcphjncgigaa.GraphLimits
open Go.ChangeShapes Go.WideShapes Go.ChangeAt Go.RowKit
set_option linter.unusedVariables false
theorem and_mask (a : Int) : ∃ A : Nat, bits BinOp.and IntKind.i64 a 65535 = (A : Int) ∧ A < 65536 := by
  have nm : ∀ n : Nat, n &&& 65535 = n % 65536 := fun n => Nat.and_two_pow_sub_one_eq_mod n 16
  refine ⟨(BitVec.ofInt 64 a).toNat % 65536, ?_, Nat.mod_lt _ (by decide)⟩
  show IntKind.i64.wrap ((BitVec.ofInt 64 a &&& BitVec.ofInt 64 65535).toNat : Int) = _
  have e : (BitVec.ofInt 64 65535).toNat = 65535 := by decide
  rw [BitVec.toNat_and, e, nm, IntKind.wrap_i64]
  have := Nat.mod_lt (BitVec.ofInt 64 a).toNat (show 0 < 65536 by decide)
  omega
theorem mask_rem (a : Int) : ∃ A : Nat, (bits BinOp.and IntKind.i64 a 65535).tmod 1200 = (A : Int) ∧ A < 1200 := by
  obtain ⟨A, h, hA⟩ := and_mask a
  rw [h]
  exact ⟨A % 1200, by rw [Int.tmod_eq_emod_of_nonneg (by omega)]; omega, Nat.mod_lt _ (by decide)⟩
abbrev S00 : Sl := ⟨none, 0, 0⟩
def nx (i : Nat) : Nx := ⟨nmN 110 i, S00, S00⟩
def dx (n i : Nat) : Dx := ⟨nmN 101 i, ((i % n : Nat) : Int), ((i * 7 % n : Nat) : Int), false, S00, S00⟩
theorem cat_nm (c : UInt8) (i : Nat) : (⟨#[c]⟩ : ByteArray) ++ ⟨(Lib.decDigits i).toArray⟩ = nmN c i := by
  have := ByteArray.mk_append_mk [c] (Lib.decDigits i)
  exact this
theorem one_node (w : World) (y : Nx) (b : Nat) (hb : b = w.heap.size) : RwN (w.alloc (.cells #[.string y.name, y.l.v, y.p.v] 43)) (.slice (some ⟨b, 0, none⟩) 1 1) [y] := by
  subst hb
  exact (Ow.lit (E := encN) (e := 43) w 0 [y] (Nat.zero_le _) (by simp) _ rfl).rw
theorem one_edge (w : World) (y : Dx) (b : Nat) (hb : b = w.heap.size) : RwD (w.alloc (.cells #[.string y.name, .int .i64 y.fro, .int .i64 y.to, .bool y.dir, y.l.v, y.p.v] 45)) (.slice (some ⟨b, 0, none⟩) 1 1) [y] := by
  subst hb
  exact (Ow.lit (E := encD) (e := 45) w 0 [y] (Nat.zero_le _) (by simp) _ rfl).rw
theorem nm_zero : nmN 110 0 = ⟨#[110, 48]⟩ := by unfold nmN; rw [Lib.decDigits_one (by decide)]; rfl
theorem ns_ks (w : World) (ks : List Nat) : Ns w (ks.map ndL) (ks.map nx) := by
  refine ⟨by simp, fun i hi hi' => ?_⟩
  rw [List.getElem_map, List.getElem_map]
  exact ⟨rfl, Rw.nil _, Rw.nil _, (fun q hq => by cases hq), Lim.of (by simp [ndL]), Lim.of (by simp [ndL])⟩
theorem ds_ks (w : World) (n : Nat) (h1 : 1 ≤ n) (hn : n ≤ 1200) (ks : List Nat) : Ds w (ks.map (edL n)) (ks.map (dx n)) := by
  refine ⟨by simp, fun i hi hi' => ?_⟩
  rw [List.getElem_map, List.getElem_map]
  have hik : i < ks.length := by simpa using hi
  have b1 := Nat.mod_lt ks[i] (show 0 < n by omega)
  have b2 := Nat.mod_lt (ks[i] * 7) (show 0 < n by omega)
  exact ⟨rfl, rfl, rfl, rfl, by unfold edL; dsimp only; omega, by unfold edL; dsimp only; omega, Rw.nil _, Rw.nil _, (fun q hq => by cases hq), Lim.of (by simp [edL]), Lim.of (by simp [edL])⟩
def ksL (n : Nat) (tw : Bool) : List Nat := if tw = true then (List.range n).set (n - 1) 0 else List.range n
theorem gL_ks (n m : Nat) (tw : Bool) : gL n m tw = ⟨(ksL n tw).map ndL, (List.range m).map (edL n)⟩ := by
  unfold gL ksL
  cases tw
  · rfl
  · rw [if_pos rfl, if_pos rfl, List.map_set]
theorem gz_gL {w : World} (n m : Nat) (tw : Bool) (sN sE : Sl) (h1 : 1 ≤ n) (hn : n ≤ 1200) (hm : m ≤ 1200) (hN : RwN w sN.v ((ksL n tw).map nx)) (hE : RwD w sE.v ((List.range m).map (dx n))) : Gz w (gL n m tw) ⟨sN, sE⟩ := by
  rw [gL_ks]
  have hk : (ksL n tw).length = n := by unfold ksL; split <;> simp
  exact ⟨⟨_, hN, ns_ks w _⟩, ⟨_, hE, ds_ks w n h1 hn _⟩, Lim.of (by rw [List.length_map, hk]; omega), Lim.of (by simp; omega)⟩
/-- what stands in the slots of the region that adds a node -/
def VL1 (q : Nat) (va : Option Addr) (vc i : Nat) (j : Nat) (v : Value) (w : World) : Prop := match j with
  | 0 => v = .pointer (some ⟨q, 0, none⟩)
  | 1 => v = .slice va i vc
  | 2 => v = .int .i64 i
  | 3 => v = .string ⟨(Lib.decDigits i).toArray⟩
  | 4 => v = .string (nmN 110 i)
  | 5 => v = .agg #[.string (nmN 110 i), .slice none 0 0, .slice none 0 0]
  | 6 => ∃ b, v = .slice (some ⟨b, 0, none⟩) 1 1 ∧ RwN w v [nx i]
  | _ => True
theorem VL1.keep {q : Nat} {va : Option Addr} {vc i : Nat} (j : Nat) (v : Value) (a b : World) (h : VL1 q va vc i j v a) (hb : Below a.heap.size a b) : VL1 q va vc i j v b := by
  by_cases h6 : j = 6
  · subst h6
    obtain ⟨c, h1, h2⟩ := h
    exact ⟨c, h1, h2.keep hb⟩
  · unfold VL1 at h ⊢
    split at h <;> first | exact h | (exfalso; exact h6 rfl)
/-- what stands in the slots of the region that adds an edge -/
def VL2 (q n : Nat) (va : Option Addr) (vc i : Nat) (j : Nat) (v : Value) (w : World) : Prop := match j with
  | 0 => v = .pointer (some ⟨q, 1, none⟩)
  | 1 => v = .slice va i vc
  | 2 => v = .int .i64 i
  | 3 => v = .string ⟨(Lib.decDigits i).toArray⟩
  | 4 => v = .string (nmN 101 i)
  | 5 => v = .int .i64 i
  | 6 => v = .int .i64 n
  | 7 => v = .int .i64 ((i % n : Nat) : Int)
  | 8 => v = .int .i64 i
  | 9 => v = .int .i64 ((i : Int) * 7)
  | 10 => v = .int .i64 n
  | 11 => v = .int .i64 ((i * 7 % n : Nat) : Int)
  | 12 => v = .agg #[.string (nmN 101 i), .int .i64 ((i % n : Nat) : Int), .int .i64 ((i * 7 % n : Nat) : Int), .bool false, .slice none 0 0, .slice none 0 0]
  | 13 => ∃ b, v = .slice (some ⟨b, 0, none⟩) 1 1 ∧ RwD w v [dx n i]
  | _ => True
theorem VL2.keep {q n : Nat} {va : Option Addr} {vc i : Nat} (j : Nat) (v : Value) (a b : World) (h : VL2 q n va vc i j v a) (hb : Below a.heap.size a b) : VL2 q n va vc i j v b := by
  by_cases h6 : j = 13
  · subst h6
    obtain ⟨c, h1, h2⟩ := h
    exact ⟨c, h1, h2.keep hb⟩
  · unfold VL2 at h ⊢
    split at h <;> first | exact h | (exfalso; exact h6 rfl)
set_option maxRecDepth 100000 in
set_option maxHeartbeats 4000000 in
theorem walk (a b : Int) (tw : Bool) (ha1 : -9223372036854775808 ≤ a) (ha2 : a ≤ 9223372036854775807) (hb1 : -9223372036854775808 ≤ b) (hb2 : b ≤ 9223372036854775807) (w : World) :
    Calls Try.prog 5 #[.int .i64 a, .int .i64 b, .bool tw] w fun e w' => e = .returned (.bool true) ∧ Below w.heap.size w w' := by
  obtain ⟨A, hA, hAl⟩ := mask_rem a
  obtain ⟨m, hM, hMl⟩ := mask_rem b
  obtain ⟨n, hn⟩ : ∃ n, n = A + 1 := ⟨_, rfl⟩
  have hA1 : (1 : Int) + (A : Int) = (n : Int) := by omega
  have hnl : n ≤ 1200 := by omega
  have hn1 : 1 ≤ n := by omega
  clear hn
  go_enter Try.func5, Try.ntmps5
  go_wp2_with fail
  (with_reducible refine (shown7_any _).mono ?_); rintro e w1 ⟨rfl, hbA⟩
  have HW1 := Lib.hid hbA
  clear hbA
  have HV0 := Lib.hid (Vr.new w1 25 #[.slice none 0 0, .slice none 0 0])
  have HB0 := Lib.hid (below_a1 w1 (.cells #[.slice none 0 0, .slice none 0 0] 25))
  go_wp2_with fail
  generalize w1.alloc (.cells #[.slice none 0 0, .slice none 0 0] 25) = wE at *
  clear hA hA1 hAl hM
  go_loopg [9] n (fun gg s9 wr => ∃ (i : Nat) (v : Value), gg + i = n ∧ s9 = .int .i64 i ∧ Vr wr w1.heap.size 25 #[v, .slice none 0 0] ∧ OwN wr (w1.heap.size + 1) v ((List.range i).map nx) ∧ Below w1.heap.size w1 wr)
  case atStart => exact ⟨0, _, rfl, rfl, HV0.out, Ow.nil _ _, HB0.out⟩
  case round =>
    obtain ⟨i, v, hg, rfl, h6, hO, hb⟩ := hrel
    have HBr := Lib.hid hb
    clear hb
    by_cases hlt : i < n
    · have ii : (i : Int) < (n : Int) := by omega
      have hTN : (List.range (i + 1)).map nx = (List.range i).map nx ++ [nx i] := by rw [List.range_succ, List.map_append]; rfl
      have hlN : ((List.range i).map nx).length = i := by rw [List.length_map, List.length_range]
      generalize (List.range i).map nx = lN at *
      obtain ⟨va, vc, rfl⟩ := hO.shape
      rw [hlN] at h6 hO
      have HTN := Lib.hid hTN
      have HlN := Lib.hid hlN
      have H6 := Lib.hid h6
      have HO := Lib.hid hO
      clear hTN hlN h6 hO
      go_wp2_with fail
      refine wp_region_facts2 7 (VL1 w1.heap.size va vc i) (fun a b => Below a.heap.size a b) (by kernel_rfl) (by decide) (by kernel_rfl) (by kernel_rfl) (fun a => Below.refl _ _) (fun a b c => Below.chain) VL1.keep ?_ ?_
      · refine ⟨?_, ?_, ?_, ?_, ?_, ?_, ?_, trivial⟩
        · intro a u hR hF hD
          have hR1 := below_undrew hR
          have f8 : a.eval (.tmp 8) = .pointer (some ⟨w1.heap.size, 0, none⟩) := hF 8 (by kernel_rfl)
          simp only [Act.eval, Array.getD_eq_getD_getElem?] at f8
          show Oper.wp _ _ _ _ _ _
          unfold Oper.wp
          simp only [execOp]
          go_simp
          exact ⟨_, rfl, rfl, Below.refl _ _⟩
        · intro a u hR hF hD
          have hR1 := below_undrew hR
          have d26 : a.eval (.tmp 26) = .pointer (some ⟨w1.heap.size, 0, none⟩) := hD 0 (by kernel_rfl)
          simp only [Act.eval, Array.getD_eq_getD_getElem?] at d26
          have y0 := (H6.out.keep hR1).cell 0
          simp only [List.getElem?_toArray, List.getElem?_cons_zero] at y0
          show Oper.wp _ _ _ _ _ _
          unfold Oper.wp
          simp only [execOp]
          go_simp
          exact ⟨_, rfl, rfl, Below.refl _ _⟩
        · intro a u hR hF hD
          have hR1 := below_undrew hR
          have f9 : a.eval (.tmp 9) = .int .i64 (i : Int) := hF 9 (by kernel_rfl)
          simp only [Act.eval, Array.getD_eq_getD_getElem?] at f9
          show Oper.wp _ _ _ _ _ _
          unfold Oper.wp
          simp only [execOp]
          go_simp
          exact ⟨_, rfl, rfl, Below.refl _ _⟩
        · intro a u hR hF hD
          have hR1 := below_undrew hR
          have d28 : a.eval (.tmp 28) = .int .i64 (i : Int) := hD 2 (by kernel_rfl)
          simp only [Act.eval, Array.getD_eq_getD_getElem?] at d28
          show Oper.wp _ _ _ _ _ _
          unfold Oper.wp
          simp only [execOp]
          go_simp
          (with_reducible refine (rint_nat i (by omega) u).mono ?_); rintro e u2 ⟨rfl, hb2⟩
          exact ⟨_, rfl, rfl, hb2⟩
        · intro a u hR hF hD
          have hR1 := below_undrew hR
          have d29 : a.eval (.tmp 29) = .string ⟨(Lib.decDigits i).toArray⟩ := hD 3 (by kernel_rfl)
          simp only [Act.eval, Array.getD_eq_getD_getElem?] at d29
          have hcat := cat_nm 110 i
          have hdl := dec_short 3 i (by omega)
          have hcl : ¬ (9223372036854775807 < 1 + (Lib.decDigits i).length) := by omega
          show Oper.wp _ _ _ _ _ _
          unfold Oper.wp
          simp only [execOp]
          go_simp
          exact ⟨_, rfl, by first | rfl | (show Value.string _ = Value.string _; rw [cat_nm]), Below.refl _ _⟩
        · intro a u hR hF hD
          have hR1 := below_undrew hR
          have d30 : a.eval (.tmp 30) = .string (nmN 110 i) := hD 4 (by kernel_rfl)
          simp only [Act.eval, Array.getD_eq_getD_getElem?] at d30
          show Oper.wp _ _ _ _ _ _
          unfold Oper.wp
          simp only [execOp]
          go_simp
          exact ⟨_, rfl, rfl, Below.refl _ _⟩
        · intro a u hR hF hD
          have hR1 := below_undrew hR
          have d31 : a.eval (.tmp 31) = .agg #[.string (nmN 110 i), .slice none 0 0, .slice none 0 0] := hD 5 (by kernel_rfl)
          simp only [Act.eval, Array.getD_eq_getD_getElem?] at d31
          show Oper.wp _ _ _ _ _ _
          unfold Oper.wp
          simp only [execOp]
          go_simp
          exact ⟨_, rfl, ⟨_, rfl, one_node u (nx i) _ rfl⟩, below_a1 _ _⟩
      · intro vs u hv hR
        have hR1 := below_undrew hR
        have e1 : vs 1 = .slice va i vc := hv 1 (by decide)
        obtain ⟨bq, e6, hL6⟩ : ∃ b, vs 6 = .slice (some ⟨b, 0, none⟩) 1 1 ∧ RwN u (vs 6) [nx i] := hv 6 (by decide)
        rw [e6] at hL6
        simp only [putAll, List.take, List.drop, Act.put, List.setIfInBounds_toArray, List.set_cons_succ, List.set_cons_zero, Nat.zero_add, Nat.reduceAdd]
        rw [e1, e6]
        generalize vs 0 = t0
        generalize vs 2 = t2
        generalize vs 3 = t3
        generalize vs 4 = t4
        generalize vs 5 = t5
        clear hv e1 e6 hR
        have hF := HO.out.below hR1
        have h6 := H6.out.keep hR1
        refine wpList_append_rw (E := encN) rfl _ _ _ rfl Try.underlying22 info_n rfl (by decide) (by decide) rfl rfl hF hL6 (show lN.length + 1 ≤ 1000000 by rw [HlN.out]; omega) (show w1.heap.size + 1 ≤ _ by have := h6.lt; omega) ?_
        intro v5 w5 hO5 hg5 hat5
        obtain ⟨f5a, f5c, rfl⟩ := hO5.shape
        have hrow : ∀ k, (Value.slice va i vc).ownBlock = some k → w1.heap.size + 1 ≤ k := fun k hk => hF.row k hk
        have hg6 : u.grownBy w5 (Value.slice va i vc).ownBlock := hg5
        rw [List.length_append, HlN.out, List.length_singleton] at *
        have V6 := h6.grown hg6 (fun e => by have := hrow _ e.symm; omega)
        have y0 := V6.cell 0
        have ty := V6.thaw 0
        simp only [List.getElem?_toArray, List.getElem?_cons_zero] at y0
        have hb5 := (HBr.out.trans (hR1.mono HBr.out.size)).trans (below_of_grown hg6 (HBr.out.trans (hR1.mono HBr.out.size)).size (fun k hk => by have := hrow k hk; omega))
        have nf : (Value.slice f5a (i + 1) f5c).ownBlock ≠ some w1.heap.size := fun e => by have := hO5.row _ e; omega
        have O6 := Lib.hid (hO5.set (a := ⟨w1.heap.size, 0, none⟩) nf (.slice f5a (i + 1) f5c))
        have hb6 := Lib.hid (hb5.setCell (p := ⟨w1.heap.size, 0, none⟩) (Nat.le_refl _) (.slice f5a (i + 1) f5c))
        have V7 := V6.setCell 0 (.slice f5a (i + 1) f5c)
        simp only [List.setIfInBounds_toArray, List.set_cons_zero] at V7
        have HV7 := Lib.hid V7
        clear V6 V7 hb5 hat5 hg5 hg6 hO5 hF h6 hL6 hrow nf
        go_wp2_with fail
        go_roundg (n - (i + 1))
        case rel => exact ⟨i + 1, _, by omega, by go_num, HV7.out, by rw [HTN.out]; exact O6.out, hb6.out⟩
        case measure => omega
    · obtain rfl : n = i := by omega
      have ii : ¬ ((n : Int) < (n : Int)) := by omega
      have hlN : ((List.range n).map nx).length = n := by rw [List.length_map, List.length_range]
      obtain ⟨va, vc, rfl⟩ := hO.shape
      rw [hlN] at h6 hO
      have H60 := Lib.hid h6
      have HO0 := Lib.hid hO
      have hmM : m < 1200 := hMl
      clear h6 hO hlN
      go_wp2_with fail
      generalize wr = wX at *
      go_loopg [10] m (fun gg s10 wr => ∃ (i : Nat) (v : Value), gg + i = m ∧ s10 = .int .i64 i ∧ Vr wr w1.heap.size 25 #[.slice va n vc, v] ∧ OwN wr (w1.heap.size + 1) (.slice va n vc) ((List.range n).map nx) ∧ OwD wr (w1.heap.size + 1) v ((List.range i).map (dx n)) ∧ Below w1.heap.size w1 wr)
      case atStart => exact ⟨0, _, rfl, rfl, H60.out, HO0.out, Ow.nil _ _, HBr.out⟩
      case round =>
        obtain ⟨i, v, hgi, rfl, h6, hNd, hO, hb⟩ := hrel
        have HBr := Lib.hid hb
        have HNd := Lib.hid hNd
        clear hb hNd
        by_cases hlt : i < m
        · have ii : (i : Int) < (m : Int) := by omega
          have hTN : (List.range (i + 1)).map (dx n) = (List.range i).map (dx n) ++ [dx n i] := by rw [List.range_succ, List.map_append]; rfl
          have hlN : ((List.range i).map (dx n)).length = i := by rw [List.length_map, List.length_range]
          generalize (List.range i).map (dx n) = lN at *
          obtain ⟨va2, vc2, rfl⟩ := hO.shape
          rw [hlN] at h6 hO
          have HTN := Lib.hid hTN
          have HlN := Lib.hid hlN
          have H6 := Lib.hid h6
          have HO := Lib.hid hO
          clear hTN hlN h6 hO
          go_wp2_with fail
          refine wp_region_facts2 14 (VL2 w1.heap.size n va2 vc2 i) (fun a b => Below a.heap.size a b) (by kernel_rfl) (by decide) (by kernel_rfl) (by kernel_rfl) (fun a => Below.refl _ _) (fun a b c => Below.chain) VL2.keep ?_ ?_
          · refine ⟨?_, ?_, ?_, ?_, ?_, ?_, ?_, ?_, ?_, ?_, ?_, ?_, ?_, ?_, trivial⟩
            · intro a u hR hF hD
              have hR1 := below_undrew hR
              have f8 : a.eval (.tmp 8) = .pointer (some ⟨w1.heap.size, 0, none⟩) := hF 8 (by kernel_rfl)
              simp only [Act.eval, Array.getD_eq_getD_getElem?] at f8
              show Oper.wp _ _ _ _ _ _
              unfold Oper.wp
              simp only [execOp]
              go_simp
              exact ⟨_, rfl, rfl, Below.refl _ _⟩
            · intro a u hR hF hD
              have hR1 := below_undrew hR
              have d40 : a.eval (.tmp 40) = .pointer (some ⟨w1.heap.size, 1, none⟩) := hD 0 (by kernel_rfl)
              simp only [Act.eval, Array.getD_eq_getD_getElem?] at d40
              have y0 := (H6.out.keep hR1).cell 1
              simp only [List.getElem?_toArray, List.getElem?_cons_zero, List.getElem?_cons_succ] at y0
              show Oper.wp _ _ _ _ _ _
              unfold Oper.wp
              simp only [execOp]
              go_simp
              exact ⟨_, rfl, rfl, Below.refl _ _⟩
            · intro a u hR hF hD
              have hR1 := below_undrew hR
              have f10 : a.eval (.tmp 10) = .int .i64 (i : Int) := hF 10 (by kernel_rfl)
              simp only [Act.eval, Array.getD_eq_getD_getElem?] at f10
              show Oper.wp _ _ _ _ _ _
              unfold Oper.wp
              simp only [execOp]
              go_simp
              exact ⟨_, rfl, rfl, Below.refl _ _⟩
            · intro a u hR hF hD
              have hR1 := below_undrew hR
              have d42 : a.eval (.tmp 42) = .int .i64 (i : Int) := hD 2 (by kernel_rfl)
              simp only [Act.eval, Array.getD_eq_getD_getElem?] at d42
              show Oper.wp _ _ _ _ _ _
              unfold Oper.wp
              simp only [execOp]
              go_simp
              (with_reducible refine (rint_nat i (by omega) u).mono ?_); rintro e u2 ⟨rfl, hb2⟩
              exact ⟨_, rfl, rfl, hb2⟩
            · intro a u hR hF hD
              have hR1 := below_undrew hR
              have d43 : a.eval (.tmp 43) = .string ⟨(Lib.decDigits i).toArray⟩ := hD 3 (by kernel_rfl)
              simp only [Act.eval, Array.getD_eq_getD_getElem?] at d43
              have hcat := cat_nm 101 i
              have hdl := dec_short 3 i (by omega)
              have hcl : ¬ (9223372036854775807 < 1 + (Lib.decDigits i).length) := by omega
              show Oper.wp _ _ _ _ _ _
              unfold Oper.wp
              simp only [execOp]
              go_simp
              exact ⟨_, rfl, by first | rfl | (show Value.string _ = Value.string _; rw [cat_nm]), Below.refl _ _⟩
            · intro a u hR hF hD
              have hR1 := below_undrew hR
              have f10 : a.eval (.tmp 10) = .int .i64 (i : Int) := hF 10 (by kernel_rfl)
              simp only [Act.eval, Array.getD_eq_getD_getElem?] at f10
              show Oper.wp _ _ _ _ _ _
              unfold Oper.wp
              simp only [execOp]
              go_simp
              exact ⟨_, rfl, rfl, Below.refl _ _⟩
            · intro a u hR hF hD
              have hR1 := below_undrew hR
              have f0 : a.eval (.tmp 0) = .int .i64 (n : Int) := hF 0 (by kernel_rfl)
              simp only [Act.eval, Array.getD_eq_getD_getElem?] at f0
              show Oper.wp _ _ _ _ _ _
              unfold Oper.wp
              simp only [execOp]
              go_simp
              exact ⟨_, rfl, rfl, Below.refl _ _⟩
            · intro a u hR hF hD
              have hR1 := below_undrew hR
              have d45 : a.eval (.tmp 45) = .int .i64 (i : Int) := hD 5 (by kernel_rfl)
              have d46 : a.eval (.tmp 46) = .int .i64 (n : Int) := hD 6 (by kernel_rfl)
              simp only [Act.eval, Array.getD_eq_getD_getElem?] at d45 d46
              have hz : ¬ n = 0 := by omega
              have hm : (i : Int).tmod (n : Int) = ((i % n : Nat) : Int) := rfl
              have hml := Nat.mod_lt i (show 0 < n by omega)
              show Oper.wp _ _ _ _ _ _
              unfold Oper.wp
              simp only [execOp]
              go_simp
              exact ⟨_, rfl, rfl, Below.refl _ _⟩
            · intro a u hR hF hD
              have hR1 := below_undrew hR
              have f10 : a.eval (.tmp 10) = .int .i64 (i : Int) := hF 10 (by kernel_rfl)
              simp only [Act.eval, Array.getD_eq_getD_getElem?] at f10
              show Oper.wp _ _ _ _ _ _
              unfold Oper.wp
              simp only [execOp]
              go_simp
              exact ⟨_, rfl, rfl, Below.refl _ _⟩
            · intro a u hR hF hD
              have hR1 := below_undrew hR
              have d48 : a.eval (.tmp 48) = .int .i64 (i : Int) := hD 8 (by kernel_rfl)
              simp only [Act.eval, Array.getD_eq_getD_getElem?] at d48
              have hwr : IntKind.i64.wrap ((i : Int) * 7) = (i : Int) * 7 := by rw [IntWalk.i64_left]; exact IntWalk.wrap64_in _ ⟨by omega, by omega⟩
              show Oper.wp _ _ _ _ _ _
              unfold Oper.wp
              simp only [execOp]
              go_simp
              exact ⟨_, rfl, rfl, Below.refl _ _⟩
            · intro a u hR hF hD
              have hR1 := below_undrew hR
              have f0 : a.eval (.tmp 0) = .int .i64 (n : Int) := hF 0 (by kernel_rfl)
              simp only [Act.eval, Array.getD_eq_getD_getElem?] at f0
              show Oper.wp _ _ _ _ _ _
              unfold Oper.wp
              simp only [execOp]
              go_simp
              exact ⟨_, rfl, rfl, Below.refl _ _⟩
            · intro a u hR hF hD
              have hR1 := below_undrew hR
              have d49 : a.eval (.tmp 49) = .int .i64 ((i : Int) * 7) := hD 9 (by kernel_rfl)
              have d50 : a.eval (.tmp 50) = .int .i64 (n : Int) := hD 10 (by kernel_rfl)
              simp only [Act.eval, Array.getD_eq_getD_getElem?] at d49 d50
              have hz : ¬ n = 0 := by omega
              have hm : ((i : Int) * 7).tmod (n : Int) = ((i * 7 % n : Nat) : Int) := rfl
              have hml := Nat.mod_lt (i * 7) (show 0 < n by omega)
              show Oper.wp _ _ _ _ _ _
              unfold Oper.wp
              simp only [execOp]
              go_simp
              exact ⟨_, rfl, rfl, Below.refl _ _⟩
            · intro a u hR hF hD
              have hR1 := below_undrew hR
              have d44 : a.eval (.tmp 44) = .string (nmN 101 i) := hD 4 (by kernel_rfl)
              have d47 : a.eval (.tmp 47) = .int .i64 ((i % n : Nat) : Int) := hD 7 (by kernel_rfl)
              have d51 : a.eval (.tmp 51) = .int .i64 ((i * 7 % n : Nat) : Int) := hD 11 (by kernel_rfl)
              simp only [Act.eval, Array.getD_eq_getD_getElem?] at d44 d47 d51
              show Oper.wp _ _ _ _ _ _
              unfold Oper.wp
              simp only [execOp]
              go_simp
              exact ⟨_, rfl, rfl, Below.refl _ _⟩
            · intro a u hR hF hD
              have hR1 := below_undrew hR
              have d52 : a.eval (.tmp 52) = .agg #[.string (nmN 101 i), .int .i64 ((i % n : Nat) : Int), .int .i64 ((i * 7 % n : Nat) : Int), .bool false, .slice none 0 0, .slice none 0 0] := hD 12 (by kernel_rfl)
              simp only [Act.eval, Array.getD_eq_getD_getElem?] at d52
              show Oper.wp _ _ _ _ _ _
              unfold Oper.wp
              simp only [execOp]
              go_simp
              exact ⟨_, rfl, ⟨_, rfl, one_edge u (dx n i) _ rfl⟩, below_a1 _ _⟩
          · intro vs u hv hR
            have hR1 := below_undrew hR
            have e1 : vs 1 = .slice va2 i vc2 := hv 1 (by decide)
            obtain ⟨bq, e6, hL6⟩ : ∃ b, vs 13 = .slice (some ⟨b, 0, none⟩) 1 1 ∧ RwD u (vs 13) [dx n i] := hv 13 (by decide)
            rw [e6] at hL6
            simp only [putAll, List.take, List.drop, Act.put, List.setIfInBounds_toArray, List.set_cons_succ, List.set_cons_zero, Nat.zero_add, Nat.reduceAdd]
            rw [e1, e6]
            generalize vs 0 = t0
            generalize vs 2 = t2
            generalize vs 3 = t3
            generalize vs 4 = t4
            generalize vs 5 = t5
            generalize vs 6 = t6
            generalize vs 7 = t7
            generalize vs 8 = t8
            generalize vs 9 = t9
            generalize vs 10 = t10
            generalize vs 11 = t11
            generalize vs 12 = t12
            clear hv e1 e6 hR
            have hF := HO.out.below hR1
            have hNd := HNd.out.below hR1
            have h6 := H6.out.keep hR1
            refine wpList_append_rw (E := encD) rfl _ _ _ rfl Try.underlying23 info_d rfl (by decide) (by decide) rfl rfl hF hL6 (show lN.length + 1 ≤ 1000000 by rw [HlN.out]; omega) (show w1.heap.size + 1 ≤ _ by have := h6.lt; omega) ?_
            intro v5 w5 hO5 hg5 hat5
            obtain ⟨f5a, f5c, rfl⟩ := hO5.shape
            have hrow : ∀ k, (Value.slice va2 i vc2).ownBlock = some k → w1.heap.size + 1 ≤ k := fun k hk => hF.row k hk
            have hg6 : u.grownBy w5 (Value.slice va2 i vc2).ownBlock := hg5
            rw [List.length_append, HlN.out, List.length_singleton] at *
            have V6 := h6.grown hg6 (fun e => by have := hrow _ e.symm; omega)
            have y0 := V6.cell 1
            have ty := V6.thaw 1
            simp only [List.getElem?_toArray, List.getElem?_cons_zero, List.getElem?_cons_succ] at y0
            have hb5 := (HBr.out.trans (hR1.mono HBr.out.size)).trans (below_of_grown hg6 (HBr.out.trans (hR1.mono HBr.out.size)).size (fun k hk => by have := hrow k hk; omega))
            have nf : (Value.slice f5a (i + 1) f5c).ownBlock ≠ some w1.heap.size := fun e => by have := hO5.row _ e; omega
            have nn : (Value.slice va n vc).ownBlock ≠ some w1.heap.size := fun e => by have := hNd.row _ e; omega
            have O6 := Lib.hid (hO5.set (a := ⟨w1.heap.size, 1, none⟩) nf (.slice f5a (i + 1) f5c))
            have N6 := Lib.hid ((hNd.beside hg6 (hF.notOw hNd (by decide))).set (a := ⟨w1.heap.size, 1, none⟩) nn (.slice f5a (i + 1) f5c))
            have hb6 := Lib.hid (hb5.setCell (p := ⟨w1.heap.size, 1, none⟩) (Nat.le_refl _) (.slice f5a (i + 1) f5c))
            have V7 := V6.setCell 1 (.slice f5a (i + 1) f5c)
            simp only [List.setIfInBounds_toArray, List.set_cons_succ, List.set_cons_zero] at V7
            have HV7 := Lib.hid V7
            clear V6 V7 hb5 hat5 hg5 hg6 hO5 hF h6 hL6 hrow nf hNd nn
            go_wp2_with fail
            go_roundg (m - (i + 1))
            case rel => exact ⟨i + 1, _, by omega, by go_num, HV7.out, N6.out, by rw [HTN.out]; exact O6.out, hb6.out⟩
            case measure => omega
        · obtain rfl : m = i := by omega
          have ii : ¬ ((m : Int) < (m : Int)) := by omega
          have ii2 : ¬ ((m : Int) < (m : Int)) := by omega
          have hlE : ((List.range m).map (dx n)).length = m := by rw [List.length_map, List.length_range]
          have hlN : ((List.range n).map nx).length = n := by rw [List.length_map, List.length_range]
          obtain ⟨va2, vc2, rfl⟩ := hO.shape
          rw [hlE] at h6 hO
          obtain ⟨g, cap, eg, hg1, hg2⟩ := HNd.out.own (by omega)
          rw [hlN] at eg
          cases eg
          have y0 := h6.cell 0
          have y1 := h6.cell 1
          simp only [List.getElem?_toArray, List.getElem?_cons_zero, List.getElem?_cons_succ] at y0 y1
          cases tw
          · have HG := Lib.hid (gz_gL n m false ⟨some ⟨g, 0, none⟩, n, vc⟩ ⟨va2, m, vc2⟩ hn1 hnl (by omega) HNd.out.rw hO.rw)
            have HBz := HBr
            clear h6 hO hlE hlN
            have CR := right7_any HG.out
            rw [right_gL n m false hn1] at CR
            dsimp only [gv, Sl.v] at CR
            by_cases hN : 1000 < n
            · have gn : (1000 : Int) < (n : Int) := by omega
              rw [if_pos (Or.inl hN)] at CR
              go_wp2_with fail
              (with_reducible refine CR.mono ?_); clear CR; rintro e wz ⟨rfl, hbz⟩
              go_wp2_with fail
              go_ret
              exact ⟨by first | rfl | (simp; done) | (simp; omega), HW1.out.trans ((HBz.out.trans (hbz.mono HBz.out.size)).mono HW1.out.size)⟩
            · have gn : ¬ (1000 : Int) < (n : Int) := by omega
              by_cases hMM : 1000 < m
              · have gm : (1000 : Int) < (m : Int) := by omega
                rw [if_pos (Or.inr hMM)] at CR
                go_wp2_with fail
                (with_reducible refine CR.mono ?_); clear CR; rintro e wz ⟨rfl, hbz⟩
                go_wp2_with fail
                go_ret
                exact ⟨by first | rfl | (simp; done) | (simp; omega), HW1.out.trans ((HBz.out.trans (hbz.mono HBz.out.size)).mono HW1.out.size)⟩
              · have gm : ¬ (1000 : Int) < (m : Int) := by omega
                rw [if_neg (by omega), if_neg (by simp)] at CR
                go_wp2_with fail
                (with_reducible refine CR.mono ?_); clear CR; rintro e wz ⟨rfl, hbz⟩
                go_wp2_with fail
                go_ret
                exact ⟨by first | rfl | (simp; done) | (simp; omega), HW1.out.trans ((HBz.out.trans (hbz.mono HBz.out.size)).mono HW1.out.size)⟩
          · by_cases h1n : 1 < n
            · have i1 : (1 : Int) < (n : Int) := by omega
              have i2 : ((n : Int) == 1) = false := by simp; omega
              obtain ⟨k, hk⟩ : ∃ k, n = k + 1 := ⟨n - 1, by omega⟩
              have hk1 : (n : Int) - 1 = (k : Int) := by omega
              have hk2 : (k : Int) < (n : Int) := by omega
              have hkl : k < ((List.range n).map nx).length := by rw [hlN]; omega
              have z0 := HNd.out.at' k hkl 0 (by omega)
              have tz := HNd.out.thaw (k * 3)
              simp only [encN, List.getElem?_cons_zero, Nat.add_zero] at z0
              have hp := HNd.out.put k 0 (.string ⟨#[110, 48]⟩) (nx 0) hkl (by omega) (by rw [List.getElem_map]; show [Value.string (nmN 110 0), .slice none 0 0, .slice none 0 0] = [Value.string ⟨#[110, 48]⟩, .slice none 0 0, .slice none 0 0]; rw [nm_zero])
              have hks : ((List.range n).map nx).set k (nx 0) = (ksL n true).map nx := by unfold ksL; rw [if_pos rfl, List.map_set, hk, Nat.add_sub_cancel]
              rw [hks, Nat.add_zero] at hp
              have hgb : (Value.slice va2 m vc2).ownBlock ≠ some g := fun e => HNd.out.notOw hO (by decide) g rfl e
              have hE2 := hO.set (a := ⟨g, k * 3, none⟩) hgb (.string ⟨#[110, 48]⟩)
              have h62 := h6.setOther (a := ⟨g, k * 3, none⟩) (by dsimp only; omega) (.string ⟨#[110, 48]⟩)
              have HBz := Lib.hid (HBr.out.setCell (p := ⟨g, k * 3, none⟩) (by dsimp only; omega) (.string ⟨#[110, 48]⟩))
              have HG := Lib.hid (gz_gL n m true ⟨some ⟨g, 0, none⟩, n, vc⟩ ⟨va2, m, vc2⟩ hn1 hnl (by omega) hp.rw hE2.rw)
              have H62 := Lib.hid h62
              clear hk h6 hO hlE hlN hp hE2 hks h62 hgb
              go_upto_region 15 with fail
              generalize wr.setCell ⟨g, k * 3, none⟩ (.string ⟨#[110, 48]⟩) = wY at *
              clear y0 y1 z0 tz
              have y0 := H62.out.cell 0
              have y1 := H62.out.cell 1
              simp only [List.getElem?_toArray, List.getElem?_cons_zero, List.getElem?_cons_succ] at y0 y1
              have CR := right7_any HG.out
              rw [right_gL n m true hn1] at CR
              dsimp only [gv, Sl.v] at CR
              by_cases hN : 1000 < n
              · have gn : (1000 : Int) < (n : Int) := by omega
                rw [if_pos (Or.inl hN)] at CR
                go_wp2_with fail
                (with_reducible refine CR.mono ?_); clear CR; rintro e wz ⟨rfl, hbz⟩
                go_wp2_with fail
                go_ret
                exact ⟨by first | rfl | (simp; done) | (simp; omega), HW1.out.trans ((HBz.out.trans (hbz.mono HBz.out.size)).mono HW1.out.size)⟩
              · have gn : ¬ (1000 : Int) < (n : Int) := by omega
                by_cases hMM : 1000 < m
                · have gm : (1000 : Int) < (m : Int) := by omega
                  rw [if_pos (Or.inr hMM)] at CR
                  go_wp2_with fail
                  (with_reducible refine CR.mono ?_); clear CR; rintro e wz ⟨rfl, hbz⟩
                  go_wp2_with fail
                  go_ret
                  exact ⟨by first | rfl | (simp; done) | (simp; omega), HW1.out.trans ((HBz.out.trans (hbz.mono HBz.out.size)).mono HW1.out.size)⟩
                · have gm : ¬ (1000 : Int) < (m : Int) := by omega
                  rw [if_neg (by omega), if_pos ⟨rfl, h1n⟩] at CR
                  go_wp2_with fail
                  (with_reducible refine CR.mono ?_); clear CR; rintro e wz ⟨rfl, hbz⟩
                  go_wp2_with fail
                  go_ret
                  exact ⟨by first | rfl | (simp; done) | (simp; omega), HW1.out.trans ((HBz.out.trans (hbz.mono HBz.out.size)).mono HW1.out.size)⟩
            · have i1 : ¬ (1 : Int) < (n : Int) := by omega
              have i2 : ((n : Int) == 1) = true := by simp; omega
              have hks : (List.range n).map nx = (ksL n true).map nx := by
                have : n = 1 := by omega
                rw [this]; rfl
              have hNr := HNd.out.rw
              rw [hks] at hNr
              have HG := Lib.hid (gz_gL n m true ⟨some ⟨g, 0, none⟩, n, vc⟩ ⟨va2, m, vc2⟩ hn1 hnl (by omega) hNr hO.rw)
              have HBz := HBr
              clear h6 hO hlE hlN hks hNr
              have CR := right7_any HG.out
              rw [right_gL n m true hn1] at CR
              dsimp only [gv, Sl.v] at CR
              by_cases hN : 1000 < n
              · have gn : (1000 : Int) < (n : Int) := by omega
                rw [if_pos (Or.inl hN)] at CR
                go_wp2_with fail
                (with_reducible refine CR.mono ?_); clear CR; rintro e wz ⟨rfl, hbz⟩
                go_wp2_with fail
                go_ret
                exact ⟨by first | rfl | (simp; done) | (simp; omega), HW1.out.trans ((HBz.out.trans (hbz.mono HBz.out.size)).mono HW1.out.size)⟩
              · have gn : ¬ (1000 : Int) < (n : Int) := by omega
                by_cases hMM : 1000 < m
                · have gm : (1000 : Int) < (m : Int) := by omega
                  rw [if_pos (Or.inr hMM)] at CR
                  go_wp2_with fail
                  (with_reducible refine CR.mono ?_); clear CR; rintro e wz ⟨rfl, hbz⟩
                  go_wp2_with fail
                  go_ret
                  exact ⟨by first | rfl | (simp; done) | (simp; omega), HW1.out.trans ((HBz.out.trans (hbz.mono HBz.out.size)).mono HW1.out.size)⟩
                · have gm : ¬ (1000 : Int) < (m : Int) := by omega
                  rw [if_neg (by omega), if_neg (fun h => h1n h.2)] at CR
                  go_wp2_with fail
                  (with_reducible refine CR.mono ?_); clear CR; rintro e wz ⟨rfl, hbz⟩
                  go_wp2_with fail
                  go_ret
                  exact ⟨by first | rfl | (simp; done) | (simp; omega), HW1.out.trans ((HBz.out.trans (hbz.mono HBz.out.size)).mono HW1.out.size)⟩
end Go.Proofs.Ytmfjcphjncgigaa.GraphLimits
