import Derived.Test.YtdoefndppoglfaaHC
import Derived.Test.YtdoefndppoglfaaHB
namespace Go.Proofs.Ytdoefndppoglfaa
open Go Go.ChangeShapes Go.WideShapes Go.ChangeAt Go.RowKit
open Go.Joins
set_option linter.unusedVariables false
/-! ### what the statements show ahead -/
def tA : ByteArray := ⟨#[97]⟩
def tB : ByteArray := ⟨#[98]⟩
def tE : ByteArray := ⟨#[101]⟩
def tF : ByteArray := ⟨#[102]⟩
def tL : ByteArray := ⟨#[76]⟩
def g0 : Gd := ⟨[⟨tA, [], []⟩, ⟨tB, [tL], []⟩], [⟨tE, 0, 0, true, [], []⟩, ⟨tF, 0, 1, false, [], []⟩]⟩
def g1 : Gd := ⟨[⟨⟨#[]⟩, [], []⟩], []⟩
theorem g0_right : rightG g0 = 0 := by kernel_rfl
theorem g1_right : rightG g1 = 1 := by kernel_rfl
theorem g0_out0 : outG g0 0 5 = [(0, 0)] := by kernel_rfl
theorem g0_out1 : outG g0 1 2 = [(1, 0)] := by kernel_rfl
theorem g0_find : findB (namesN g0) tB = 1 := by kernel_rfl
theorem g0_labels : labelsG g0 false 1 = [tL] := by kernel_rfl
theorem lit_rw {α : Type} {sz : Nat} {E : Enc α sz} (w : World) (e : TypeId) (l : List α) (hl : l.length ≤ 1000000) (cs : Array Value) (hcs : cs.toList = E.cells l) (b : Nat) (hb : b = w.heap.size) : Rw E (w.alloc (.cells cs e)) (.slice (some ⟨b, 0, none⟩) l.length l.length) l := by
  subst hb
  exact (Ow.lit (E := E) (e := e) w w.heap.size l (Nat.le_refl _) hl cs hcs).rw
theorem z00 : (-9223372036854775808 : Int) ≤ 0 ∧ (0 : Int) ≤ 9223372036854775807 := by omega
theorem z01 : (-9223372036854775808 : Int) ≤ 1 ∧ (1 : Int) ≤ 9223372036854775807 := by omega
theorem lm (n b : Nat) (h : n * b ≤ 100000) : Lim n b := Lim.of (by omega)
abbrev S0 : Sl := ⟨none, 0, 0⟩
theorem g0_lies (w : World) : Gz (((w.alloc (.cells #[.string tL] 9)).alloc (.cells #[.string tA, .slice none 0 0, .slice none 0 0, .string tB, .slice (some ⟨w.heap.size, 0, none⟩) 1 1, .slice none 0 0] 43)).alloc
    (.cells #[.string tE, .int .i64 0, .int .i64 0, .bool true, .slice none 0 0, .slice none 0 0, .string tF, .int .i64 0, .int .i64 1, .bool false, .slice none 0 0, .slice none 0 0] 45)) g0
    ⟨⟨some ⟨w.heap.size + 1, 0, none⟩, 2, 2⟩, ⟨some ⟨w.heap.size + 2, 0, none⟩, 2, 2⟩⟩ := by
  have hS := lit_rw (E := encS) w 9 [tL] (by simp) #[.string tL] rfl w.heap.size rfl
  have hN := lit_rw (E := encN) (w.alloc (.cells #[.string tL] 9)) 43 [⟨tA, S0, S0⟩, ⟨tB, ⟨some ⟨w.heap.size, 0, none⟩, 1, 1⟩, S0⟩] (by simp) #[.string tA, .slice none 0 0, .slice none 0 0, .string tB, .slice (some ⟨w.heap.size, 0, none⟩) 1 1, .slice none 0 0] rfl (w.heap.size + 1) (by simp)
  have hD := lit_rw (E := encD) ((w.alloc (.cells #[.string tL] 9)).alloc (.cells #[.string tA, .slice none 0 0, .slice none 0 0, .string tB, .slice (some ⟨w.heap.size, 0, none⟩) 1 1, .slice none 0 0] 43)) 45 [⟨tE, 0, 0, true, S0, S0⟩, ⟨tF, 0, 1, false, S0, S0⟩] (by simp) #[.string tE, .int .i64 0, .int .i64 0, .bool true, .slice none 0 0, .slice none 0 0, .string tF, .int .i64 0, .int .i64 1, .bool false, .slice none 0 0, .slice none 0 0] rfl (w.heap.size + 2) (by simp)
  have l0 : ∀ (b : Nat), Lim ([] : List ByteArray).length b := fun b => Lim.of (by simp)
  have p0 : ∀ (b : Nat), Lim ([] : List Pr).length b := fun b => Lim.of (by simp)
  refine ⟨⟨_, hN.keep (below_a1 _ _), ⟨rfl, fun i h h' => ?_⟩⟩, ⟨_, hD, ⟨rfl, fun i h h' => ?_⟩⟩, Lim.of (by decide), Lim.of (by decide)⟩
  · match i, h with
    | 0, _ => exact ⟨rfl, Rw.nil _, Rw.nil _, (fun q hq => by cases hq), l0 _, p0 _⟩
    | 1, _ => exact ⟨rfl, (hS.keep (below_a1 _ _)).keep (below_a1 _ _), Rw.nil _, (fun q hq => by cases hq), lm 1 16 (by omega), p0 _⟩
  · match i, h with
    | 0, _ => exact ⟨rfl, rfl, rfl, rfl, z00, z00, Rw.nil _, Rw.nil _, (fun q hq => by cases hq), l0 _, p0 _⟩
    | 1, _ => exact ⟨rfl, rfl, rfl, rfl, z00, z01, Rw.nil _, Rw.nil _, (fun q hq => by cases hq), l0 _, p0 _⟩
theorem g1_lies (w : World) : Gz (w.alloc (.cells #[.string ⟨#[]⟩, .slice none 0 0, .slice none 0 0] 43)) g1 ⟨⟨some ⟨w.heap.size, 0, none⟩, 1, 1⟩, S0⟩ := by
  have hN := lit_rw (E := encN) w 43 [⟨⟨#[]⟩, S0, S0⟩] (by simp) #[.string ⟨#[]⟩, .slice none 0 0, .slice none 0 0] rfl w.heap.size rfl
  refine ⟨⟨_, hN, ⟨rfl, fun i h h' => ?_⟩⟩, ⟨[], Rw.nil _, ⟨rfl, fun i h => by cases h⟩⟩, Lim.of (by decide), Lim.of (by decide)⟩
  match i, h with
  | 0, _ => exact ⟨rfl, Rw.nil _, Rw.nil _, (fun q hq => by cases hq), lm 0 16 (by omega), lm 0 56 (by omega)⟩
theorem steps_at {w : World} {ao : Option Addr} {n cap : Nat} {l : List St} (h : RwT w (.slice ao n cap) l) (i : Nat) (hi : i < l.length) :
    ∃ b o, ao = some ⟨b, o, none⟩ ∧ w.cell? ⟨b, o + i * 2, none⟩ = some (.int .i64 l[i].1) ∧ w.cell? ⟨b, o + i * 2 + 1, none⟩ = some (.int .i64 l[i].2) := by
  obtain ⟨ao', cap', he, -, -, -, h5⟩ := h
  cases he
  obtain ⟨b, o, ha, hc⟩ := h5 i hi
  exact ⟨b, o, ha, hc 0 (by omega), hc 1 (by omega)⟩
set_option maxRecDepth 100000 in
set_option maxHeartbeats 4000000 in
theorem shown7_any (w : World) : Calls Try.prog 8 #[] w fun e w' => e = .returned (.bool true) ∧ Below w.heap.size w w' := by
  have HZ := g0_lies w
  have B4 := Lib.hid (show Below w.heap.size w ((((w.alloc (.cells #[.string tL] 9)).alloc (.cells #[.string tA, .slice none 0 0, .slice none 0 0, .string tB, .slice (some ⟨w.heap.size, 0, none⟩) 1 1, .slice none 0 0] 43)).alloc
    (.cells #[.string tE, .int .i64 0, .int .i64 0, .bool true, .slice none 0 0, .slice none 0 0, .string tF, .int .i64 0, .int .i64 1, .bool false, .slice none 0 0, .slice none 0 0] 45)).alloc (.cells #[.slice (some ⟨w.heap.size + 1, 0, none⟩) 2 2, .slice (some ⟨w.heap.size + 2, 0, none⟩) 2 2] 25)) from bl_al (bl_al (bl_al (bl_al (Below.refl _ _)))))
  have HZ4 := Lib.hid (HZ.keep (below_a1 _ (.cells #[.slice (some ⟨w.heap.size + 1, 0, none⟩) 2 2, .slice (some ⟨w.heap.size + 2, 0, none⟩) 2 2] 25)))
  have V4 := Lib.hid (Vr.at' ((((w.alloc (.cells #[.string tL] 9)).alloc (.cells #[.string tA, .slice none 0 0, .slice none 0 0, .string tB, .slice (some ⟨w.heap.size, 0, none⟩) 1 1, .slice none 0 0] 43)).alloc
    (.cells #[.string tE, .int .i64 0, .int .i64 0, .bool true, .slice none 0 0, .slice none 0 0, .string tF, .int .i64 0, .int .i64 1, .bool false, .slice none 0 0, .slice none 0 0] 45))) 25 #[.slice (some ⟨w.heap.size + 1, 0, none⟩) 2 2, .slice (some ⟨w.heap.size + 2, 0, none⟩) 2 2] (w.heap.size + 3) (by simp))
  clear HZ
  unfold tA tB tE tF tL at *
  go_enter Try.func8, Try.ntmps8
  go_wp2_with fail
  refine (new7_any HZ4.out).mono ?_
  rintro e w5 ⟨(⟨-, p, rfl, hx⟩ | ⟨hr, -⟩), hb5⟩
  · have HX := Lib.hid hx
    have HB5 := Lib.hid hb5
    clear hx hb5
    go_wp2_with fail
    refine (out7_any HX.out (by decide) 0 5).mono ?_
    rintro e w6 ⟨v6, rfl, ho6, hb6⟩
    rw [g0_out0] at ho6
    obtain ⟨a6, c6, rfl⟩ := ho6.shape
    obtain ⟨b6, o6, rfl, q60, q61⟩ := steps_at ho6.rw 0 (by decide)
    have HB6 := Lib.hid (Below.chain HB5.out hb6)
    have HX6 := Lib.hid (HX.out.keep hb6)
    clear ho6 hb6
    go_wp2_with fail
    refine (out7_any HX6.out (by decide) 1 2).mono ?_
    rintro e w7 ⟨v7, rfl, ho7, hb7⟩
    rw [g0_out1] at ho7
    obtain ⟨a7, c7, rfl⟩ := ho7.shape
    obtain ⟨b7, o7, rfl, q70, q71⟩ := steps_at ho7.rw 0 (by decide)
    have HB7 := Lib.hid (Below.chain HB6.out hb7)
    have HX7 := Lib.hid (HX6.out.keep hb7)
    have p60 := (hb7.cell (block_lt_of_cell q60)).trans q60
    have p61 := (hb7.cell (block_lt_of_cell q61)).trans q61
    clear ho7 hb7 q60 q61
    go_wp2_with fail
    have CF := find7_any HX7.out g0_right tB (by decide)
    rw [g0_find, show max (1 : Int) 0 = 1 from rfl, show decide ((0 : Int) ≤ 1) = true from rfl] at CF
    refine CF.mono ?_
    rintro e w8 ⟨rfl, hb8⟩
    have HB8 := Lib.hid (Below.chain HB7.out hb8)
    have HX8 := Lib.hid (HX7.out.keep hb8)
    have r60 := (hb8.cell (block_lt_of_cell p60)).trans p60
    have r61 := (hb8.cell (block_lt_of_cell p61)).trans p61
    have r70 := (hb8.cell (block_lt_of_cell q70)).trans q70
    have r71 := (hb8.cell (block_lt_of_cell q71)).trans q71
    have V8 := V4.out.keep HB8.out
    have v80 := V8.cell 0
    have v81 := V8.cell 1
    simp only [List.getElem?_toArray, List.getElem?_cons_zero, List.getElem?_cons_succ] at v80 v81
    change w8.cell? ⟨w.heap.size + 1 + 1 + 1, 0, none⟩ = some (.slice (some ⟨w.heap.size + 1, 0, none⟩) 2 2) at v80
    change w8.cell? ⟨w.heap.size + 1 + 1 + 1, 1, none⟩ = some (.slice (some ⟨w.heap.size + 1 + 1, 0, none⟩) 2 2) at v81
    simp only [Nat.zero_mul, Nat.add_zero, List.getElem_cons_zero] at r60 r61 r70 r71
    clear hb8 p60 p61 q70 q71 V8
    go_wp2_with fail
    have CR := right7_any (HZ4.out.keep HB8.out)
    rw [g0_right] at CR
    refine CR.mono ?_
    rintro e w9 ⟨rfl, hb9⟩
    have HB9 := Lib.hid (Below.chain HB8.out hb9)
    have HX9 := Lib.hid (HX8.out.keep hb9)
    have HG1 := Lib.hid (g1_lies w9)
    have HBX := Lib.hid (below_a1 w9 (.cells #[.string ⟨#[]⟩, .slice none 0 0, .slice none 0 0] 43))
    clear hb9 r60 r61 r70 r71 v80 v81
    go_wp2_with fail
    have CR2 := right7_any HG1.out
    rw [g1_right] at CR2
    refine CR2.mono ?_
    rintro e w10 ⟨rfl, hb10⟩
    have HB10 := Lib.hid (Below.chain (Below.chain HB9.out HBX.out) hb10)
    have HX10 := Lib.hid ((HX9.out.keep HBX.out).keep hb10)
    clear hb10
    go_wp2_with fail
    have CL := labels7_any HX10.out false 1
    rw [g0_labels] at CL
    refine CL.mono ?_
    rintro e w11 ⟨v11, rfl, hl11, hb11⟩
    obtain ⟨a11, c11, rfl⟩ := hl11.shape
    have HBE := Lib.hid (B4.out.trans ((Below.chain HB10.out hb11).mono B4.out.size))
    clear hl11 hb11
    go_wp2_with fail
    go_ret
    exact ⟨rfl, HBE.out⟩
  · exact absurd g0_right hr
end Go.Proofs.Ytdoefndppoglfaa
