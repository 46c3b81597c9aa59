import Derived.Test.YtfhnjilflffdfaaEDe
import Derived.Deep.LoopGhost
namespace Go.Proofs.Ytfhnjilflffdfaa
open Go Go.RowKit
set_option linter.unusedVariables false
theorem findP_hit {name : ByteArray} {l : List Pr} {i : Nat} (hi : i < l.length) (h0 : (l.take i).find? (fun p => p.1.toList == name.toList) = none) (h1 : (l[i].1.toList == name.toList) = true) : findP name l = l[i].2 := by
  unfold findP
  have e : l = l.take i ++ (l[i] :: l.drop (i + 1)) := by rw [List.getElem_cons_drop, List.take_append_drop]
  have : l.find? (fun p => p.1.toList == name.toList) = some l[i] := by
    conv => lhs; rw [e]
    rw [List.find?_append, h0, List.find?_cons_of_pos (by simpa using h1)]
    rfl
  rw [this]
theorem find_take {name : ByteArray} {l : List Pr} {i : Nat} (hi : i < l.length) (h0 : (l.take i).find? (fun p => p.1.toList == name.toList) = none) (h1 : (l[i].1.toList == name.toList) = false) : (l.take (i + 1)).find? (fun p => p.1.toList == name.toList) = none := by
  rw [List.take_succ_eq_append_getElem hi, List.find?_append, h0, List.find?_cons_of_neg (by simp only [h1]; decide)]
  rfl
theorem findP_none {name : ByteArray} {l : List Pr} (h0 : l.find? (fun p => p.1.toList == name.toList) = none) : findP name l = Vl.zero := by unfold findP; rw [h0]
set_option maxHeartbeats 1000000 in
theorem property_any (R : Nat) (name : ByteArray) (v : Value) (l : List Pr) (w : World) (hc : w.cell? ⟨R, 0, none⟩ = some v) (hp : RwP w v l) :
    Calls Try.prog 35 #[.pointer (some ⟨R, 0, none⟩), .string name] w fun e w' => e = .returned (avl (findP name l)) ∧ Below w.heap.size w w' := by
  have hsf := run_store_float
  have hL : ∃ ao L cap, v = .slice ao L cap ∧ l.length = L ∧ L ≤ 9223372036854775807 := by
    obtain ⟨a, c, e, e1, e2, -⟩ := hp
    simp only [maxLen] at e2
    exact ⟨a, _, c, e, rfl, by omega⟩
  obtain ⟨ao, L, cap, rfl, hL, hLm⟩ := hL
  have c0 := below_a1 w (.cells #[.int .i64 0, .int .i64 0, .float .f64 0, .string ⟨#[]⟩] 24)
  have V0 := Lib.hid (Vr.new w 24 #[.int .i64 0, .int .i64 0, .float .f64 0, .string ⟨#[]⟩])
  have k0 := (c0.cell (block_lt_of_cell hc)).trans hc
  have HR := Lib.hid (hp.keep c0)
  have HL := Lib.hid hL
  have B0 := Lib.hid c0
  clear hp hL c0 hc
  generalize hW : w.alloc (.cells #[.int .i64 0, .int .i64 0, .float .f64 0, .string ⟨#[]⟩] 24) = W0 at *
  go_enter Try.func35, Try.ntmps35
  go_upto_region 1 with fail
  try rw [hW]
  clear hW
  go_wp2_with fail
  go_loopg [12] L (fun g s12 wr => ∃ (i : Nat), g + i = L ∧ s12 = .int .i64 i ∧ (l.take i).find? (fun p => p.1.toList == name.toList) = none ∧ Below W0.heap.size W0 wr)
  case atStart => exact ⟨0, rfl, rfl, rfl, Below.refl _ _⟩
  case round =>
    obtain ⟨i, hg, rfl, hy, hb⟩ := hrel
    have HY := Lib.hid hy
    have VB := Lib.hid (V0.out.keep hb)
    clear hy
    by_cases hlt : i < L
    · have ii : (i : Int) < (L : Int) := by omega
      have hi : i < l.length := by rw [HL.out]; exact hlt
      obtain ⟨b, o, rfl, q0, q1, q2, q3, q4⟩ := RwP.at (HR.out.keep hb) i hi
      have H1 := Lib.hid (findP_hit hi HY.out)
      have H2 := Lib.hid (find_take hi HY.out)
      generalize l[i] = z at *
      obtain ⟨nm, k, n, f, s⟩ := z
      simp only at q0 q1 q2 q3 q4 H1 H2
      have ha := below_a1 wr (.cells #[.string nm, .int .i64 k, .int .i64 n, .float .f64 f, .string s] 47)
      have VC := Lib.hid (VB.out.keep ha)
      have BC := Lib.hid (Below.chain hb ha)
      clear ha
      cases hE : nm.toList == name.toList
      · have H3 := Lib.hid (H2.out hE)
        go_wp2_with fail
        go_roundg (L - (i + 1))
        case rel => exact ⟨i + 1, by omega, by go_num, H3.out, BC.out⟩
        case measure => omega
      · have H3 := Lib.hid (H1.out hE)
        go_wp2_with (refine wpList_store_v ⟨k, n, f, s⟩ rfl _ _ rfl rfl rfl VC.out rfl ?_)
        refine ret_v rfl rfl rfl (VC.out.set (vcs ⟨k, n, f, s⟩)).lies ?_
        rw [H3.out]
        exact ⟨rfl, below_setRow (Below.chain B0.out BC.out) (Nat.le_refl _) _⟩
    · obtain rfl : L = i := by omega
      have ii : ¬ ((L : Int) < (L : Int)) := by omega
      have ht : l.take L = l := List.take_of_length_le (by rw [HL.out]; exact Nat.le_refl _)
      have H3 := Lib.hid (findP_none (ht ▸ HY.out))
      clear ht
      go_wp2_with (refine wpList_store_v Vl.zero rfl _ _ rfl rfl rfl VB.out rfl ?_)
      refine ret_v rfl rfl rfl (VB.out.set (vcs Vl.zero)).lies ?_
      rw [H3.out]
      exact ⟨rfl, below_setRow (Below.chain B0.out hb) (Nat.le_refl _) _⟩
/-- one operand -/
theorem tv_av (t : Int) : avl (tv t) = av (vK t) (vN t) 0 ⟨#[]⟩ := rfl
theorem ofone_not (s : ByteArray) (hs : (s.toList == [110, 111, 116]) = true) (u : Vl) (h : u.ofE = 0) (w : World) : Calls Try.prog 36 #[.string s, avl u] w fun e w' => e = .returned (avl (tv (notI u.ofI))) ∧ Below w.heap.size w w' := by
  have c0 := below_a2 w (.cells #[.int .i64 u.k, .int .i64 u.n, .float .f64 u.f, .string u.s] 24) (.cells #[.int .i64 0, .int .i64 0, .float .f64 0, .string ⟨#[]⟩] 24)
  have hz : (w.alloc (.cells #[.int .i64 u.k, .int .i64 u.n, .float .f64 u.f, .string u.s] 24)).heap.size = w.heap.size + 1 := by simp
  have V2 := Lib.hid (Vr.new (w.alloc (.cells #[.int .i64 u.k, .int .i64 u.n, .float .f64 u.f, .string u.s] 24)) 24 #[.int .i64 0, .int .i64 0, .float .f64 0, .string ⟨#[]⟩])
  rw [hz] at V2
  have C := Lib.hid (truth_ok u h)
  clear h hz
  generalize hI : u.ofI = I at *
  generalize hJ : notI I = J at *
  have N := Lib.hid (not_any I)
  rw [hJ] at N
  have D := Lib.hid (value_any J)
  have e1 := tv_av J
  simp only [tv] at e1 ⊢
  generalize vK J = K at *
  generalize vN J = M at *
  clear hI hJ e1
  go_enter Try.func36, Try.ntmps36
  go_wp2_with fail
  (with_reducible refine (C.out _).mono ?_); rintro e w2 ⟨rfl, hb2⟩
  go_wp2_with fail
  (with_reducible refine (N.out _).mono ?_); rintro e w3 ⟨rfl, rfl⟩
  go_wp2_with fail
  (with_reducible refine (D.out _).mono ?_); rintro e w3 ⟨rfl, hb3⟩
  have V3 := Lib.hid ((V2.out.keep hb2).keep hb3)
  go_wp2_with (refine wpList_store_v ⟨K, M, 0, ⟨#[]⟩⟩ rfl _ _ rfl rfl rfl V3.out rfl ?_)
  refine ret_v rfl rfl rfl (V3.out.set (vcs ⟨K, M, 0, ⟨#[]⟩⟩)).lies ?_
  exact ⟨rfl, below_setRow (Below.chain (Below.chain c0 hb2) hb3) (by omega) _⟩
theorem ofone_not_bad (s : ByteArray) (hs : (s.toList == [110, 111, 116]) = true) (u : Vl) (h : ¬ u.ofE = 0) (w : World) : Calls Try.prog 36 #[.string s, avl u] w fun e w' => e = bad4 ∧ Below w.heap.size w w' := by
  have c0 := below_a2 w (.cells #[.int .i64 u.k, .int .i64 u.n, .float .f64 u.f, .string u.s] 24) (.cells #[.int .i64 0, .int .i64 0, .float .f64 0, .string ⟨#[]⟩] 24)
  have C := Lib.hid (truth_bad u h)
  clear h
  go_enter Try.func36, Try.ntmps36
  go_wp2_with fail
  (with_reducible refine (C.out _).mono ?_); rintro e w2 ⟨rfl, hb2⟩
  exact ⟨rfl, rfl, Below.chain c0 hb2⟩
theorem ofone_null (s : ByteArray) (hs : (s.toList == [110, 111, 116]) = false) (u : Vl) (z : Bool) (h : (u.k == 0) = z) (w : World) : Calls Try.prog 36 #[.string s, avl u] w fun e w' => e = .returned (avl (tv (if z = true then 1 else 0))) ∧ Below w.heap.size w w' := by
  have c0 := below_a2 w (.cells #[.int .i64 u.k, .int .i64 u.n, .float .f64 u.f, .string u.s] 24) (.cells #[.int .i64 0, .int .i64 0, .float .f64 0, .string ⟨#[]⟩] 24)
  have hz : (w.alloc (.cells #[.int .i64 u.k, .int .i64 u.n, .float .f64 u.f, .string u.s] 24)).heap.size = w.heap.size + 1 := by simp
  have V2 := Lib.hid (Vr.new (w.alloc (.cells #[.int .i64 u.k, .int .i64 u.n, .float .f64 u.f, .string u.s] 24)) 24 #[.int .i64 0, .int .i64 0, .float .f64 0, .string ⟨#[]⟩])
  rw [hz] at V2
  clear hz
  obtain ⟨k, n, f, t⟩ := u
  simp only at h V2 c0
  cases z
  · have D := Lib.hid (value_any 0)
    go_enter Try.func36, Try.ntmps36
    go_wp2_with fail
    (with_reducible refine (D.out _).mono ?_); rintro e w3 ⟨rfl, hb3⟩
    have V3 := Lib.hid (V2.out.keep hb3)
    go_wp2_with (refine wpList_store_v (tv 0) rfl _ _ rfl rfl rfl V3.out rfl ?_)
    refine ret_v rfl rfl rfl (V3.out.set (vcs (tv 0))).lies ?_
    exact ⟨rfl, below_setRow (Below.chain c0 hb3) (by omega) _⟩
  · have D := Lib.hid (value_any 1)
    go_enter Try.func36, Try.ntmps36
    go_wp2_with fail
    (with_reducible refine (D.out _).mono ?_); rintro e w3 ⟨rfl, hb3⟩
    have V3 := Lib.hid (V2.out.keep hb3)
    go_wp2_with (refine wpList_store_v (tv 1) rfl _ _ rfl rfl rfl V3.out rfl ?_)
    refine ret_v rfl rfl rfl (V3.out.set (vcs (tv 1))).lies ?_
    exact ⟨rfl, below_setRow (Below.chain c0 hb3) (by omega) _⟩
end Go.Proofs.Ytfhnjilflffdfaa
