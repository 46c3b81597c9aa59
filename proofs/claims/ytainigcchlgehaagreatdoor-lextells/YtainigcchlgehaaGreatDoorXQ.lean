import Derived.Test.YtainigcchlgehaaGreatDoorXR
import Derived.Test.YtainigcchlgehaaGreatDoorBS
import Derived.Laws.Rows
namespace Go.Proofs.YtainigcchlgehaaGreatDoor
open Go Go.ChangeShapes Go.WideShapes Go.ChangeAt Go.RowKit
open Go.Joins
set_option linter.unusedVariables false
/-! ### the reference's token at a place -/
theorem info_rtok3 : (Tryz.prog.info? 49).map (·.size) = some 3 := by kernel_rfl
theorem ret_tk {fn : Func} {p : Tmp} {R : Ending → World → Prop} {a : Act} {w : World} {b : Nat} {v0 v1 v2 : Value} {e : TypeId} (h : fn.results = #[.cell p 49]) (hp : a.tmps.getD p undef = .pointer (some ⟨b, 0, none⟩)) (hd : a.defers = [])
    (hc : Vr w b e #[v0, v1, v2]) (hR : R (.returned (.agg #[v0, v1, v2])) w) : bodyPost Tryz.prog fn R .ret a w :=
  bodyPost_ret (results_cell_row h a.tmps w b e #[v0, v1, v2] (0, 0) _ hp hc Tryz.underlying49 rfl info_rtok3) hd hR
theorem Vr.setC {w : World} {b : Nat} {e : TypeId} {cs : Array Value} (h : Vr w b e cs) (j : Nat) (u : Value) : Vr (w.setCell ⟨b, j, none⟩ u) b e (cs.setIfInBounds j u) := by
  have hb : w.heap[b]? = some (.cells cs e (0, 0)) := h
  show (w.setCell ⟨b, j, none⟩ u).heap[b]? = _
  simp only [World.setCell, Array.getElem?_modify, if_true, hb, Option.map_some]
  simp
/-- what 'one' answers: the token at the place, or none -/
def tokV (l : Bt) (p : Nat) : Value :=
  if (firstF l).2 = 0 then .agg #[.int .i64 0, .string ⟨#[]⟩, .int .i64 0]
  else .agg #[.int .i64 ((firstF l).1 : Nat), .string ⟨(l.take (firstF l).2).toArray⟩, .int .i64 (p : Nat)]
abbrev Z3 : Obj := .cells #[.int .i64 0, .string ⟨#[]⟩, .int .i64 0] 49
/-- the result's cells, written -/
abbrev put3 (w : World) (b : Nat) (x y z : Value) : World := ((w.setCell ⟨b, 0, none⟩ x).setCell ⟨b, 1, none⟩ y).setCell ⟨b, 2, none⟩ z
theorem put3_vr {w : World} {b : Nat} {e : TypeId} {a0 a1 a2 : Value} (h : Vr w b e #[a0, a1, a2]) (x y z : Value) : Vr (put3 w b x y z) b e #[x, y, z] := ((h.setC 0 x).setC 1 y).setC 2 z
theorem put3_below {n b : Nat} {w0 w : World} (h : Below n w0 w) (hb : n ≤ b) (x y z : Value) : Below n w0 (put3 w b x y z) :=
  ((h.setCell (p := ⟨b, 0, none⟩) hb x).setCell (p := ⟨b, 1, none⟩) hb y).setCell (p := ⟨b, 2, none⟩) hb z
theorem put3_size (w : World) (b : Nat) (x y z : Value) : (put3 w b x y z).heap.size = w.heap.size := by simp [put3, World.setCell]
/-- what lies behind one, and one more -/
theorem put3_al {n b : Nat} {w0 w : World} (h : Below n w0 w) (hb : n ≤ b) (x y z : Value) (o : Obj) (hn : n ≤ w.heap.size) : Below n w0 ((put3 w b x y z).alloc o) :=
  (put3_below h hb x y z).alloc (by rw [put3_size]; exact hn) o

set_option maxHeartbeats 4000000 in
set_option maxRecDepth 100000 in
theorem one_q1 (s : ByteArray) (p n : Nat) (hs : s.size ≤ 65536) (hp : p < s.size) (hc : ((s[p].toNat : Int) == 39) = true) (N : Nat) (hN : N ≤ s.size) (hpn : p ≤ N) (hNi : (p : Int) + (n : Int) = (N : Int)) (T V : ByteArray) (hT : s.extract p s.size = T) (hV : s.extract p N = V) (k m : Int) (f : Nat) (t : ByteArray)
    (RT : ∀ w, Calls Tryz.prog 33 #[.string T] w fun e w' => e = .returned (.tuple #[.agg #[.int .i64 k, .int .i64 m, .float .f64 f, .string t], .int .i64 (n : Int), .bool true]) ∧ Below w.heap.size w w') (w : World) :
    Calls Tryz.prog 18 #[.string s, .int .i64 p] w fun e w' => e = .returned (.agg #[.int .i64 4, .string V, .int .i64 (p : Nat)]) ∧ Below w.heap.size w w' := by
  have hsf := run_store_float
  have p0 : (0 : Int) ≤ (p : Int) := by omega
  have p1 : (p : Int) < (s.size : Int) := by omega
  have p2 : (p : Int) ≤ (s.size : Int) := by omega
  have s1 : (s.size : Int) ≤ 65536 := by omega
  have V0 := Lib.hid (Vr.new w 49 #[.int .i64 0, .string ⟨#[]⟩, .int .i64 0])
  have B0 := Lib.hid (below_a1 w Z3)
  have n1 : (N : Int) ≤ (s.size : Int) := by omega
  have n2 : (p : Int) ≤ (N : Int) := by omega
  have n0 : (0 : Int) ≤ (N : Int) := by omega
  have HR := Lib.hid RT
  clear RT
  go_enter Tryz.func18, Tryz.ntmps18
  go_wp2_with fail
  refine (HR.out _).mono ?_; rintro e w1 ⟨rfl, hb1⟩
  have V1 := V0.out.keep hb1
  have c1 := B0.out.trans (hb1.mono B0.out.size)
  have v0 := V1.cell 0
  have v1 := V1.cell 1
  have v2 := V1.cell 2
  have f0 := V1.thaw 0
  have f1 := V1.thaw 1
  have f2 := V1.thaw 2
  have hlt := V1.lt
  go_wp2_with fail
  refine ret_tk rfl rfl rfl (put3_vr V1 _ _ _).al ?_
  exact ⟨rfl, put3_al c1 (Nat.le_refl _) _ _ _ _ c1.size⟩

set_option maxHeartbeats 4000000 in
set_option maxRecDepth 100000 in
theorem one_q0 (s : ByteArray) (p : Nat) (hs : s.size ≤ 65536) (hp : p < s.size) (hc : ((s[p].toNat : Int) == 39) = true) (T : ByteArray) (hT : s.extract p s.size = T)
    (RT : ∀ w, Calls Tryz.prog 33 #[.string T] w fun e w' => e = .returned (.tuple #[.agg #[.int .i64 0, .int .i64 0, .float .f64 0, .string ⟨#[]⟩], .int .i64 0, .bool false]) ∧ Below w.heap.size w w') (w : World) :
    Calls Tryz.prog 18 #[.string s, .int .i64 p] w fun e w' => e = .returned (.agg #[.int .i64 0, .string ⟨#[]⟩, .int .i64 0]) ∧ Below w.heap.size w w' := by
  have hsf := run_store_float
  have p0 : (0 : Int) ≤ (p : Int) := by omega
  have p1 : (p : Int) < (s.size : Int) := by omega
  have p2 : (p : Int) ≤ (s.size : Int) := by omega
  have s1 : (s.size : Int) ≤ 65536 := by omega
  have V0 := Lib.hid (Vr.new w 49 #[.int .i64 0, .string ⟨#[]⟩, .int .i64 0])
  have B0 := Lib.hid (below_a1 w Z3)
  have HR := Lib.hid RT
  clear RT
  go_enter Tryz.func18, Tryz.ntmps18
  go_wp2_with fail
  refine (HR.out _).mono ?_; rintro e w1 ⟨rfl, hb1⟩
  have V1 := V0.out.keep hb1
  have c1 := B0.out.trans (hb1.mono B0.out.size)
  have v0 := V1.cell 0
  have v1 := V1.cell 1
  have v2 := V1.cell 2
  have f0 := V1.thaw 0
  have f1 := V1.thaw 1
  have f2 := V1.thaw 2
  have hlt := V1.lt
  go_wp2_with fail
  refine ret_tk rfl rfl rfl (put3_vr V1 _ _ _).al ?_
  exact ⟨rfl, put3_al c1 (Nat.le_refl _) _ _ _ _ c1.size⟩

set_option maxHeartbeats 4000000 in
set_option maxRecDepth 100000 in
theorem one_d (s : ByteArray) (p n n1' n2' : Nat) (hs : s.size ≤ 65536) (hp : p < s.size) (hc : ((s[p].toNat : Int) == 39) = false) (hc1 : (48 : Int) ≤ (s[p].toNat : Int)) (hc2 : (s[p].toNat : Int) ≤ 57) (N : Nat) (hN : N ≤ s.size) (hpn : p ≤ N) (hNi : (p : Int) + (n : Int) = (N : Int)) (T T2 V : ByteArray) (hT : s.extract p s.size = T) (hT2 : ⟨#[45]⟩ ++ T = T2) (lT : T.size ≤ 65536) (lT2 : T2.size ≤ 65537) (hV : s.extract p N = V) (ln1 : n1' ≤ 100000) (ln2 : n2' ≤ 100000) (hmx : max (n1' : Int) ((n2' : Int) - 1) = (n : Int)) (k m : Int) (f : Nat) (t : ByteArray) (x : Bool) (k2 m2 : Int) (f2' : Nat) (t2 : ByteArray) (x2 : Bool)
    (RT : ∀ w, Calls Tryz.prog 33 #[.string T] w fun e w' => e = .returned (.tuple #[.agg #[.int .i64 k, .int .i64 m, .float .f64 f, .string t], .int .i64 (n1' : Int), .bool x]) ∧ Below w.heap.size w w')
    (RT2 : ∀ w, Calls Tryz.prog 33 #[.string T2] w fun e w' => e = .returned (.tuple #[.agg #[.int .i64 k2, .int .i64 m2, .float .f64 f2', .string t2], .int .i64 (n2' : Int), .bool x2]) ∧ Below w.heap.size w w') (w : World) :
    Calls Tryz.prog 18 #[.string s, .int .i64 p] w fun e w' => e = .returned (.agg #[.int .i64 3, .string V, .int .i64 (p : Nat)]) ∧ Below w.heap.size w w' := by
  have hsf := run_store_float
  have p0 : (0 : Int) ≤ (p : Int) := by omega
  have p1 : (p : Int) < (s.size : Int) := by omega
  have p2 : (p : Int) ≤ (s.size : Int) := by omega
  have s1 : (s.size : Int) ≤ 65536 := by omega
  have V0 := Lib.hid (Vr.new w 49 #[.int .i64 0, .string ⟨#[]⟩, .int .i64 0])
  have B0 := Lib.hid (below_a1 w Z3)
  have n1 : (N : Int) ≤ (s.size : Int) := by omega
  have n2 : (p : Int) ≤ (N : Int) := by omega
  have n0 : (0 : Int) ≤ (N : Int) := by omega
  have HR := Lib.hid RT
  have HR2 := Lib.hid RT2
  clear RT RT2
  go_enter Tryz.func18, Tryz.ntmps18
  go_wp2_with fail
  refine (HR.out _).mono ?_; rintro e w1 ⟨rfl, hb1⟩
  have V1 := (V0.out.keep hb1).al (o := .cells #[.int .i64 k, .int .i64 m, .float .f64 f, .string t] 41)
  have c1 := B0.out.trans (hb1.mono B0.out.size)
  have c2 := c1.trans ((below_a1 w1 (.cells #[.int .i64 k, .int .i64 m, .float .f64 f, .string t] 41)).mono c1.size)
  go_wp2_with fail
  refine (HR2.out _).mono ?_; rintro e w3 ⟨rfl, hb3⟩
  have V3 := V1.keep hb3
  have c3 := c2.trans (hb3.mono c2.size)
  have v0 := V3.cell 0
  have v1 := V3.cell 1
  have v2 := V3.cell 2
  have f0 := V3.thaw 0
  have f1 := V3.thaw 1
  have f2 := V3.thaw 2
  have hlt := V3.lt
  go_wp2_with fail
  refine ret_tk rfl rfl rfl (put3_vr V3 _ _ _).al ?_
  exact ⟨rfl, put3_al c3 (Nat.le_refl _) _ _ _ _ c3.size⟩

set_option maxHeartbeats 4000000 in
set_option maxRecDepth 100000 in
theorem one_key (s : ByteArray) (p : Nat) (hs : s.size ≤ 65536) (hp : p < s.size) (hc : ((s[p].toNat : Int) == 39) = false) (hc2 : ¬ (s[p].toNat : Int) ≤ 57) (hc1 : (48 : Int) ≤ (s[p].toNat : Int)) (N : Nat) (hN : N ≤ s.size) (hpn : p < N) (hr : runP (s.data.toList.drop p) = N - p) (V : ByteArray) (hV : s.extract p N = V) (hk : inB keysB V = true) (w : World) :
    Calls Tryz.prog 18 #[.string s, .int .i64 p] w fun e w' => e = .returned (.agg #[.int .i64 2, .string V, .int .i64 (p : Nat)]) ∧ Below w.heap.size w w' := by
  have hsf := run_store_float
  have p0 : (0 : Int) ≤ (p : Int) := by omega
  have p1 : (p : Int) < (s.size : Int) := by omega
  have p2 : (p : Int) ≤ (s.size : Int) := by omega
  have s1 : (s.size : Int) ≤ 65536 := by omega
  have V0 := Lib.hid (Vr.new w 49 #[.int .i64 0, .string ⟨#[]⟩, .int .i64 0])
  have B0 := Lib.hid (below_a1 w Z3)
  have HRN := Lib.hid hr
  have HV := Lib.hid hV
  have HKB := Lib.hid hk
  clear hr hV hk
  go_enter Tryz.func18, Tryz.ntmps18
  go_wp2_with fail
  go_loopg [12] (s.size - p) (fun g s12 wr => ∃ i : Nat, g + i = s.size ∧ p ≤ i ∧ s12 = .int .i64 i ∧ runP (s.data.toList.drop p) = (i - p) + runP (s.data.toList.drop i) ∧ wr = w.alloc Z3)
  case atStart => exact ⟨p, by omega, Nat.le_refl _, rfl, by rw [Nat.sub_self, Nat.zero_add], rfl⟩
  case round =>
    obtain ⟨i, hg, hpi, rfl, hz, rfl⟩ := hrel
    have HZ := Lib.hid hz
    clear hz
    have i0 : (0 : Int) ≤ (i : Int) := by omega
    by_cases hiN : i < N
    · have hlt : i < s.size := by omega
      have i1 : (i : Int) < (s.size : Int) := by omega
      have HP := Lib.hid (rpart_any s[i].toNat)
      have HNO := Lib.hid (fun h => runP_drop_no (s := s) (i := i) hlt h)
      have HYE := Lib.hid (fun h => runP_drop_yes (s := s) (i := i) hlt h)
      cases ho : okc s[i].toNat with
      | false =>
        exfalso
        have h1 := HZ.out
        rw [HNO.out ho, HRN.out] at h1
        omega
      | true =>
        have HZ2 := Lib.hid (show runP (s.data.toList.drop p) = (i + 1 - p) + runP (s.data.toList.drop (i + 1)) by rw [HZ.out, HYE.out ho]; omega)
        rw [ho] at HP
        clear ho
        go_wp2_with fail
        refine (HP.out _).mono ?_; rintro e w2 ⟨rfl, rfl⟩
        go_wp2_with fail
        go_roundg (s.size - (i + 1))
        case rel => exact ⟨i + 1, by omega, by omega, by go_num, HZ2.out, rfl⟩
        case measure => omega
    · have HI := Lib.hid (show i = N by
        have h1 := HZ.out
        rw [HRN.out] at h1
        omega)
      have hgp : (p : Int) < (i : Int) := by omega
      have i2 : (i : Int) ≤ (s.size : Int) := by
        have := HI.out
        omega
      have i3 : (p : Int) ≤ (i : Int) := by omega
      have hVi : s.extract p i = V := by rw [HI.out]; exact HV.out
      have HK := Lib.hid (rkeys_any (w.alloc Z3))
      by_cases hlt : i < s.size
      · have i1 : (i : Int) < (s.size : Int) := by omega
        have HP := Lib.hid (rpart_any s[i].toNat)
        have ho : okc s[i].toNat = false := by
          cases ho : okc s[i].toNat with
          | false => rfl
          | true =>
            exfalso
            have h1 := HZ.out
            rw [runP_drop_yes hlt ho, HRN.out] at h1
            omega
        rw [ho] at HP
        clear ho
        go_wp2_with fail
        refine (HP.out _).mono ?_; rintro e w2 ⟨rfl, rfl⟩
        go_wp2_with fail
        refine HK.out.mono ?_; rintro e w3 ⟨⟨vk, rfl, hS⟩, hb3⟩
        have HI2 := Lib.hid (rin_any keysB V vk w3 hS)
        rw [HKB.out] at HI2
        have V3 := V0.out.keep hb3
        have c3 := B0.out.trans (hb3.mono B0.out.size)
        have v0 := V3.cell 0
        have v1 := V3.cell 1
        have v2 := V3.cell 2
        have f0 := V3.thaw 0
        have f1 := V3.thaw 1
        have f2 := V3.thaw 2
        have hlt := V3.lt
        clear hS hb3
        go_wp2_with fail
        refine HI2.out.mono ?_; rintro e w4 ⟨rfl, rfl⟩
        go_wp2_with fail
        refine ret_tk rfl rfl rfl (put3_vr V3 _ _ _) ?_
        exact ⟨rfl, put3_below c3 (Nat.le_refl _) _ _ _⟩
      · have i1 : ¬ (i : Int) < (s.size : Int) := by omega
        go_wp2_with fail
        refine HK.out.mono ?_; rintro e w3 ⟨⟨vk, rfl, hS⟩, hb3⟩
        have HI2 := Lib.hid (rin_any keysB V vk w3 hS)
        rw [HKB.out] at HI2
        have V3 := V0.out.keep hb3
        have c3 := B0.out.trans (hb3.mono B0.out.size)
        have v0 := V3.cell 0
        have v1 := V3.cell 1
        have v2 := V3.cell 2
        have f0 := V3.thaw 0
        have f1 := V3.thaw 1
        have f2 := V3.thaw 2
        have hlt := V3.lt
        clear hS hb3
        go_wp2_with fail
        refine HI2.out.mono ?_; rintro e w4 ⟨rfl, rfl⟩
        go_wp2_with fail
        refine ret_tk rfl rfl rfl (put3_vr V3 _ _ _) ?_
        exact ⟨rfl, put3_below c3 (Nat.le_refl _) _ _ _⟩

set_option maxHeartbeats 4000000 in
set_option maxRecDepth 100000 in
theorem one_word (s : ByteArray) (p : Nat) (hs : s.size ≤ 65536) (hp : p < s.size) (hc : ((s[p].toNat : Int) == 39) = false) (hc2 : ¬ (s[p].toNat : Int) ≤ 57) (hc1 : (48 : Int) ≤ (s[p].toNat : Int)) (N : Nat) (hN : N ≤ s.size) (hpn : p < N) (hr : runP (s.data.toList.drop p) = N - p) (V : ByteArray) (hV : s.extract p N = V) (hk : inB keysB V = false) (hw : wordB V = true) (w : World) :
    Calls Tryz.prog 18 #[.string s, .int .i64 p] w fun e w' => e = .returned (.agg #[.int .i64 1, .string V, .int .i64 (p : Nat)]) ∧ Below w.heap.size w w' := by
  have hsf := run_store_float
  have p0 : (0 : Int) ≤ (p : Int) := by omega
  have p1 : (p : Int) < (s.size : Int) := by omega
  have p2 : (p : Int) ≤ (s.size : Int) := by omega
  have s1 : (s.size : Int) ≤ 65536 := by omega
  have V0 := Lib.hid (Vr.new w 49 #[.int .i64 0, .string ⟨#[]⟩, .int .i64 0])
  have B0 := Lib.hid (below_a1 w Z3)
  have HRN := Lib.hid hr
  have HV := Lib.hid hV
  have HKB := Lib.hid hk
  have HW := Lib.hid (fun w => rword_any V w)
  rw [hw] at HW
  clear hw
  clear hr hV hk
  go_enter Tryz.func18, Tryz.ntmps18
  go_wp2_with fail
  go_loopg [12] (s.size - p) (fun g s12 wr => ∃ i : Nat, g + i = s.size ∧ p ≤ i ∧ s12 = .int .i64 i ∧ runP (s.data.toList.drop p) = (i - p) + runP (s.data.toList.drop i) ∧ wr = w.alloc Z3)
  case atStart => exact ⟨p, by omega, Nat.le_refl _, rfl, by rw [Nat.sub_self, Nat.zero_add], rfl⟩
  case round =>
    obtain ⟨i, hg, hpi, rfl, hz, rfl⟩ := hrel
    have HZ := Lib.hid hz
    clear hz
    have i0 : (0 : Int) ≤ (i : Int) := by omega
    by_cases hiN : i < N
    · have hlt : i < s.size := by omega
      have i1 : (i : Int) < (s.size : Int) := by omega
      have HP := Lib.hid (rpart_any s[i].toNat)
      have HNO := Lib.hid (fun h => runP_drop_no (s := s) (i := i) hlt h)
      have HYE := Lib.hid (fun h => runP_drop_yes (s := s) (i := i) hlt h)
      cases ho : okc s[i].toNat with
      | false =>
        exfalso
        have h1 := HZ.out
        rw [HNO.out ho, HRN.out] at h1
        omega
      | true =>
        have HZ2 := Lib.hid (show runP (s.data.toList.drop p) = (i + 1 - p) + runP (s.data.toList.drop (i + 1)) by rw [HZ.out, HYE.out ho]; omega)
        rw [ho] at HP
        clear ho
        go_wp2_with fail
        refine (HP.out _).mono ?_; rintro e w2 ⟨rfl, rfl⟩
        go_wp2_with fail
        go_roundg (s.size - (i + 1))
        case rel => exact ⟨i + 1, by omega, by omega, by go_num, HZ2.out, rfl⟩
        case measure => omega
    · have HI := Lib.hid (show i = N by
        have h1 := HZ.out
        rw [HRN.out] at h1
        omega)
      have hgp : (p : Int) < (i : Int) := by omega
      have i2 : (i : Int) ≤ (s.size : Int) := by
        have := HI.out
        omega
      have i3 : (p : Int) ≤ (i : Int) := by omega
      have hVi : s.extract p i = V := by rw [HI.out]; exact HV.out
      have HK := Lib.hid (rkeys_any (w.alloc Z3))
      by_cases hlt : i < s.size
      · have i1 : (i : Int) < (s.size : Int) := by omega
        have HP := Lib.hid (rpart_any s[i].toNat)
        have ho : okc s[i].toNat = false := by
          cases ho : okc s[i].toNat with
          | false => rfl
          | true =>
            exfalso
            have h1 := HZ.out
            rw [runP_drop_yes hlt ho, HRN.out] at h1
            omega
        rw [ho] at HP
        clear ho
        go_wp2_with fail
        refine (HP.out _).mono ?_; rintro e w2 ⟨rfl, rfl⟩
        go_wp2_with fail
        refine HK.out.mono ?_; rintro e w3 ⟨⟨vk, rfl, hS⟩, hb3⟩
        have HI2 := Lib.hid (rin_any keysB V vk w3 hS)
        rw [HKB.out] at HI2
        have V3 := V0.out.keep hb3
        have c3 := B0.out.trans (hb3.mono B0.out.size)
        have v0 := V3.cell 0
        have v1 := V3.cell 1
        have v2 := V3.cell 2
        have f0 := V3.thaw 0
        have f1 := V3.thaw 1
        have f2 := V3.thaw 2
        have hlt := V3.lt
        clear hS hb3
        go_wp2_with fail
        refine HI2.out.mono ?_; rintro e w4 ⟨rfl, rfl⟩
        go_wp2_with fail
        refine (HW.out _).mono ?_; rintro e w5 ⟨rfl, rfl⟩
        go_wp2_with fail
        refine ret_tk rfl rfl rfl (put3_vr V3 _ _ _) ?_
        exact ⟨rfl, put3_below c3 (Nat.le_refl _) _ _ _⟩
      · have i1 : ¬ (i : Int) < (s.size : Int) := by omega
        go_wp2_with fail
        refine HK.out.mono ?_; rintro e w3 ⟨⟨vk, rfl, hS⟩, hb3⟩
        have HI2 := Lib.hid (rin_any keysB V vk w3 hS)
        rw [HKB.out] at HI2
        have V3 := V0.out.keep hb3
        have c3 := B0.out.trans (hb3.mono B0.out.size)
        have v0 := V3.cell 0
        have v1 := V3.cell 1
        have v2 := V3.cell 2
        have f0 := V3.thaw 0
        have f1 := V3.thaw 1
        have f2 := V3.thaw 2
        have hlt := V3.lt
        clear hS hb3
        go_wp2_with fail
        refine HI2.out.mono ?_; rintro e w4 ⟨rfl, rfl⟩
        go_wp2_with fail
        refine (HW.out _).mono ?_; rintro e w5 ⟨rfl, rfl⟩
        go_wp2_with fail
        refine ret_tk rfl rfl rfl (put3_vr V3 _ _ _) ?_
        exact ⟨rfl, put3_below c3 (Nat.le_refl _) _ _ _⟩

set_option maxHeartbeats 4000000 in
set_option maxRecDepth 100000 in
theorem one_none (s : ByteArray) (p : Nat) (hs : s.size ≤ 65536) (hp : p < s.size) (hc : ((s[p].toNat : Int) == 39) = false) (hc2 : ¬ (s[p].toNat : Int) ≤ 57) (hc1 : (48 : Int) ≤ (s[p].toNat : Int)) (N : Nat) (hN : N ≤ s.size) (hpn : p < N) (hr : runP (s.data.toList.drop p) = N - p) (V : ByteArray) (hV : s.extract p N = V) (hk : inB keysB V = false) (hw : wordB V = false) (w : World) :
    Calls Tryz.prog 18 #[.string s, .int .i64 p] w fun e w' => e = .returned (.agg #[.int .i64 0, .string ⟨#[]⟩, .int .i64 0]) ∧ Below w.heap.size w w' := by
  have hsf := run_store_float
  have p0 : (0 : Int) ≤ (p : Int) := by omega
  have p1 : (p : Int) < (s.size : Int) := by omega
  have p2 : (p : Int) ≤ (s.size : Int) := by omega
  have s1 : (s.size : Int) ≤ 65536 := by omega
  have V0 := Lib.hid (Vr.new w 49 #[.int .i64 0, .string ⟨#[]⟩, .int .i64 0])
  have B0 := Lib.hid (below_a1 w Z3)
  have HRN := Lib.hid hr
  have HV := Lib.hid hV
  have HKB := Lib.hid hk
  have HW := Lib.hid (fun w => rword_any V w)
  rw [hw] at HW
  clear hw
  clear hr hV hk
  go_enter Tryz.func18, Tryz.ntmps18
  go_wp2_with fail
  go_loopg [12] (s.size - p) (fun g s12 wr => ∃ i : Nat, g + i = s.size ∧ p ≤ i ∧ s12 = .int .i64 i ∧ runP (s.data.toList.drop p) = (i - p) + runP (s.data.toList.drop i) ∧ wr = w.alloc Z3)
  case atStart => exact ⟨p, by omega, Nat.le_refl _, rfl, by rw [Nat.sub_self, Nat.zero_add], rfl⟩
  case round =>
    obtain ⟨i, hg, hpi, rfl, hz, rfl⟩ := hrel
    have HZ := Lib.hid hz
    clear hz
    have i0 : (0 : Int) ≤ (i : Int) := by omega
    by_cases hiN : i < N
    · have hlt : i < s.size := by omega
      have i1 : (i : Int) < (s.size : Int) := by omega
      have HP := Lib.hid (rpart_any s[i].toNat)
      have HNO := Lib.hid (fun h => runP_drop_no (s := s) (i := i) hlt h)
      have HYE := Lib.hid (fun h => runP_drop_yes (s := s) (i := i) hlt h)
      cases ho : okc s[i].toNat with
      | false =>
        exfalso
        have h1 := HZ.out
        rw [HNO.out ho, HRN.out] at h1
        omega
      | true =>
        have HZ2 := Lib.hid (show runP (s.data.toList.drop p) = (i + 1 - p) + runP (s.data.toList.drop (i + 1)) by rw [HZ.out, HYE.out ho]; omega)
        rw [ho] at HP
        clear ho
        go_wp2_with fail
        refine (HP.out _).mono ?_; rintro e w2 ⟨rfl, rfl⟩
        go_wp2_with fail
        go_roundg (s.size - (i + 1))
        case rel => exact ⟨i + 1, by omega, by omega, by go_num, HZ2.out, rfl⟩
        case measure => omega
    · have HI := Lib.hid (show i = N by
        have h1 := HZ.out
        rw [HRN.out] at h1
        omega)
      have hgp : (p : Int) < (i : Int) := by omega
      have i2 : (i : Int) ≤ (s.size : Int) := by
        have := HI.out
        omega
      have i3 : (p : Int) ≤ (i : Int) := by omega
      have hVi : s.extract p i = V := by rw [HI.out]; exact HV.out
      have HK := Lib.hid (rkeys_any (w.alloc Z3))
      by_cases hlt : i < s.size
      · have i1 : (i : Int) < (s.size : Int) := by omega
        have HP := Lib.hid (rpart_any s[i].toNat)
        have ho : okc s[i].toNat = false := by
          cases ho : okc s[i].toNat with
          | false => rfl
          | true =>
            exfalso
            have h1 := HZ.out
            rw [runP_drop_yes hlt ho, HRN.out] at h1
            omega
        rw [ho] at HP
        clear ho
        go_wp2_with fail
        refine (HP.out _).mono ?_; rintro e w2 ⟨rfl, rfl⟩
        go_wp2_with fail
        refine HK.out.mono ?_; rintro e w3 ⟨⟨vk, rfl, hS⟩, hb3⟩
        have HI2 := Lib.hid (rin_any keysB V vk w3 hS)
        rw [HKB.out] at HI2
        have V3 := V0.out.keep hb3
        have c3 := B0.out.trans (hb3.mono B0.out.size)
        have v0 := V3.cell 0
        have v1 := V3.cell 1
        have v2 := V3.cell 2
        have f0 := V3.thaw 0
        have f1 := V3.thaw 1
        have f2 := V3.thaw 2
        have hlt := V3.lt
        clear hS hb3
        go_wp2_with fail
        refine HI2.out.mono ?_; rintro e w4 ⟨rfl, rfl⟩
        go_wp2_with fail
        refine (HW.out _).mono ?_; rintro e w5 ⟨rfl, rfl⟩
        go_wp2_with fail
        refine ret_tk rfl rfl rfl (put3_vr V3 _ _ _) ?_
        exact ⟨rfl, put3_below c3 (Nat.le_refl _) _ _ _⟩
      · have i1 : ¬ (i : Int) < (s.size : Int) := by omega
        go_wp2_with fail
        refine HK.out.mono ?_; rintro e w3 ⟨⟨vk, rfl, hS⟩, hb3⟩
        have HI2 := Lib.hid (rin_any keysB V vk w3 hS)
        rw [HKB.out] at HI2
        have V3 := V0.out.keep hb3
        have c3 := B0.out.trans (hb3.mono B0.out.size)
        have v0 := V3.cell 0
        have v1 := V3.cell 1
        have v2 := V3.cell 2
        have f0 := V3.thaw 0
        have f1 := V3.thaw 1
        have f2 := V3.thaw 2
        have hlt := V3.lt
        clear hS hb3
        go_wp2_with fail
        refine HI2.out.mono ?_; rintro e w4 ⟨rfl, rfl⟩
        go_wp2_with fail
        refine (HW.out _).mono ?_; rintro e w5 ⟨rfl, rfl⟩
        go_wp2_with fail
        refine ret_tk rfl rfl rfl (put3_vr V3 _ _ _) ?_
        exact ⟨rfl, put3_below c3 (Nat.le_refl _) _ _ _⟩

end Go.Proofs.YtainigcchlgehaaGreatDoor
