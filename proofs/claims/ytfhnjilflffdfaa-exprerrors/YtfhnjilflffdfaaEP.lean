import Derived.Test.YtfhnjilflffdfaaGR
import Derived.Test.YtfhnjilflffdfaaEC
import Derived.Test.YtfhnjilflffdfaaE3
import Derived.Deep.Cut
namespace Go.Proofs.Ytfhnjilflffdfaa
open Go Go.ChangeShapes Go.WideShapes Go.ChangeAt Go.RowKit
open Go.Joins
set_option linter.unusedVariables false
/-- a property: its name and its value -/
abbrev Pr := ByteArray × Vl
def encP : Enc Pr 5 where
  enc p := [.string p.1, .int .i64 p.2.k, .int .i64 p.2.n, .float .f64 p.2.f, .string p.2.s]
  len p := rfl
  one p u hu := by
    simp only [List.mem_cons, List.not_mem_nil, or_false] at hu
    rcases hu with rfl | rfl | rfl | rfl | rfl <;> rfl
theorem info_p : (Try.prog.info? 47).map (fun i => (i.zero, i.size, i.bytes)) = some (some (.agg #[.string ⟨#[]⟩, .int .i64 0, .int .i64 0, .float .f64 0, .string ⟨#[]⟩]), 5, 56) := by kernel_rfl
abbrev OwP := Ow encP 47
abbrev RwP := Rw encP
/-- the five cells of a property that lies in a slice -/
theorem RwP.at {w : World} {ao : Option Addr} {n cap : Nat} {l : List Pr} (h : RwP w (.slice ao n cap) l) (i : Nat) (hi : i < l.length) :
    ∃ b o, ao = some ⟨b, o, none⟩ ∧ w.cell? ⟨b, o + i * 5, none⟩ = some (.string l[i].1) ∧ w.cell? ⟨b, o + i * 5 + 1, none⟩ = some (.int .i64 l[i].2.k) ∧ w.cell? ⟨b, o + i * 5 + 2, none⟩ = some (.int .i64 l[i].2.n) ∧ w.cell? ⟨b, o + i * 5 + 3, none⟩ = some (.float .f64 l[i].2.f) ∧ w.cell? ⟨b, o + i * 5 + 4, none⟩ = some (.string l[i].2.s) := by
  obtain ⟨ao', cap', he, -, -, -, h5⟩ := h
  cases he
  obtain ⟨b, o, ha, hc⟩ := h5 i hi
  exact ⟨b, o, ha, hc 0 (by omega), hc 1 (by omega), hc 2 (by omega), hc 3 (by omega), hc 4 (by omega)⟩
section
variable {H : Type} {enc : TypeId × Value → H} {w : World} {base : Nat} {spare : Nat → Bool} {held : Bool}
theorem cp : Try.prog.cellsOf 47 = 5 := by kernel_rfl
set_option maxRecDepth 100000 in
theorem trod_prop {fuel : Nat} {cs : List Value} {x : DataW H × List MemPlace} (h : DataW.trod enc Try.prog w base spare held fuel 47 cs = some x) : ∃ p : Pr, p.2.Ok ∧ cs = encP.enc p := by
  obtain ⟨xs, n, hf1, rfl, hl, hlen, hf⟩ := DataW.trod_struct Try.underlying47 h
  match xs, hlen with
  | [y0, y1], _ =>
    have h0 := hf 0 _ rfl
    have h1 := hf 1 _ rfl
    simp only [List.getElem?_cons_zero, List.getElem?_cons_succ] at h0 h1
    rw [cp] at hl
    match cs, hl with
    | [c0, c1, c2, c3, c4], _ =>
      simp [cstr, cv] at h0 h1
      obtain ⟨a0, e0, _, w0⟩ := DataW.trod_string Try.underlying9 h0
      obtain ⟨v, hv, e1⟩ := trod_val h1
      simp only [List.cons.injEq, and_true] at e0 e1
      obtain ⟨rfl, rfl, rfl, rfl⟩ := e1
      subst e0
      exact ⟨(a0, v), hv, rfl⟩
set_option maxRecDepth 100000 in
/-- a slice of properties that came in -/
theorem open_ps {r : Reach} {b0 : Nat} {v : Value} {d : DataW H} {p : List MemPlace} (hv : Value.okWide Try.prog w r b0 28 v) (h : DataW.Trod enc Try.prog w base spare held 28 v d p) :
    ∃ l : List Pr, RwP w v l ∧ ∀ q ∈ l, q.2.Ok := by
  obtain ⟨a1, len, cap, rfl⟩ := okWide_slice Try.underlying28 hv
  obtain ⟨fuel, hf⟩ := h
  simp only [Value.cells] at hf
  rcases DataW.trod_slice Try.underlying28 hf with ⟨e3, _⟩ | ⟨a, len', cap', elems, rest, n', hn', e3, _, hb, hlc, hcm, hel, hat, _, _⟩
  · simp only [List.cons.injEq, and_true, Value.slice.injEq] at e3
    obtain ⟨rfl, rfl, rfl⟩ := e3
    exact ⟨[], Rw.nil _, fun q hq => by cases hq⟩
  · simp only [List.cons.injEq, and_true, Value.slice.injEq] at e3
    obtain ⟨rfl, rfl, rfl⟩ := e3
    have hcs : ∀ i, i < len → ∃ p : Pr, p.2.Ok ∧ ∀ j, j < 5 → w.cell? ((a.add (i * 5)).add j) = (encP.enc p)[j]? := by
      intro i hi
      have hk := hat i hi
      rw [cp, List.getElem?_eq_getElem (by omega)] at hk
      obtain ⟨cs', hc1, hc2⟩ := Option.bind_eq_some_iff.1 hk
      obtain ⟨_, hl7, hcell⟩ := World.cells?_some hc1
      obtain ⟨p, hp, rfl⟩ := trod_prop hc2
      exact ⟨p, hp, hcell⟩
    have hspot : 0 < len → a.spot = none := by
      intro hi
      obtain ⟨p, _, hcell⟩ := hcs 0 hi
      have hc0 := hcell 0 (by omega)
      rw [show (encP.enc p)[0]? = some (.string p.1) from rfl] at hc0
      simpa [Addr.add] using World.cell?_spot hc0
    obtain ⟨F, hF⟩ := Go.Deep.choose_lt hcs
    have hll : ((List.range len).map F).length = len := by simp
    refine ⟨(List.range len).map F, ⟨some a, cap, by rw [hll], by omega, hcm, fun h => (by cases h), fun i hi => ?_⟩, fun q hq => ?_⟩
    · rw [hll] at hi
      obtain ⟨b, o, spot⟩ := a
      have hsp : spot = none := hspot (by omega)
      subst hsp
      refine ⟨b, o, rfl, fun j hj => ?_⟩
      have := (hF i hi).2 j hj
      rw [Addr.add_lit, Addr.add_lit] at this
      simpa using this
    · obtain ⟨i, hi, rfl⟩ := List.mem_map.1 hq
      exact (hF i (List.mem_range.1 hi)).1
end
def Vl.right (v : Vl) : Bool := rightB v.k v.n v.f v.s
def fixP (p : Pr) : Pr := if p.2.right = true then p else (p.1, ⟨0, 0, 0, ⟨#[]⟩⟩)
set_option maxHeartbeats 4000000 in
theorem few_core (l : List Pr) (ao : Option Addr) (cap L m : Nat) (w : World) (hm : m = min L 100) (hl : l.length = m) (hL : L ≤ 9223372036854775807) (hok : ∀ q ∈ l, q.2.Ok)
    (h : ∀ i (h : i < l.length), ∃ b o, ao = some ⟨b, o, none⟩ ∧ w.cell? ⟨b, o + i * 5, none⟩ = some (.string l[i].1) ∧ w.cell? ⟨b, o + i * 5 + 1, none⟩ = some (.int .i64 l[i].2.k) ∧ w.cell? ⟨b, o + i * 5 + 2, none⟩ = some (.int .i64 l[i].2.n) ∧ w.cell? ⟨b, o + i * 5 + 3, none⟩ = some (.float .f64 l[i].2.f) ∧ w.cell? ⟨b, o + i * 5 + 4, none⟩ = some (.string l[i].2.s)) :
    Calls Try.prog 11 #[.slice ao L cap] w fun e w' => ∃ v, e = .returned v ∧ OwP w' w.heap.size v (l.map fixP) ∧ Below w.heap.size w w' := by
  have hsf := run_store_float
  have H := Lib.hid h
  have m100 : m ≤ 100 := by omega
  have mL : m ≤ L := by omega
  have HL := Lib.hid hl
  have HM := Lib.hid hm
  have HO := Lib.hid hok
  clear h hl hm hok
  go_enter Try.func11, Try.ntmps11
  go_wp2_with fail
  go_loopg [3, 4, 5, 6] m (fun g s3 s4 s5 s6 wr => ∃ i : Nat, g + i = m ∧ s4 = .int .i64 i ∧ OwP wr w.heap.size s3 ((l.take i).map fixP) ∧ Below w.heap.size w wr)
  case atStart => exact ⟨0, rfl, rfl, Ow.nil _ _, Below.refl _ _⟩
  case round =>
    obtain ⟨i, hg, rfl, hO, hb⟩ := hrel
    by_cases hlt : i < m
    · have hi : i < l.length := by rw [HL.out]; exact hlt
      obtain ⟨b, o, rfl, q0, q1, q2, q3, q4⟩ := H.out i hi
      have cc : ∀ {p : Addr} {u : Value}, w.cell? p = some u → wr.cell? p = some u := fun hq => (hb.cell (block_lt_of_cell hq)).trans hq
      replace q0 := cc q0
      replace q1 := cc q1
      replace q2 := cc q2
      replace q3 := cc q3
      replace q4 := cc q4
      clear cc
      have ii : (i : Int) < (L : Int) := by omega
      have i100 : (i : Int) < 100 := by omega
      have hok := HO.out _ (List.getElem_mem hi)
      have HT := Lib.hid (List.take_succ_eq_append_getElem hi)
      obtain ⟨⟨nm, k, n, f, s⟩, hp⟩ : ∃ p, p = l[i] := ⟨_, rfl⟩
      rw [← hp] at q0 q1 q2 q3 q4 hok HT
      dsimp only at q0 q1 q2 q3 q4 hok
      have R := Lib.hid (rright_any k n f hok.f2 s)
      have hlen : ((l.take i).map fixP).length ≤ 100 := by simp; omega
      have HS := Lib.hid (show (l.take (i + 1)).map fixP = (l.take i).map fixP ++ [fixP (nm, ⟨k, n, f, s⟩)] by rw [HT.out, List.map_append]; rfl)
      obtain ⟨av, cv, rfl⟩ := hO.shape
      generalize (l.take i).map fixP = ti at *
      have hlen' : ti.length ≤ 100 := hlen
      have HLn := Lib.hid hlen'
      have hzb := hb.size
      have HO3 := Lib.hid hO
      have hrow := hO.row
      have HR := Lib.hid hrow
      clear hp hlen hlen' hok hO hrow HT
      generalize hn : ti.length = nn at *
      have HN := Lib.hid hn
      clear hn
      cases hr : rightB k n f s
      · rw [hr] at R
        have HF := Lib.hid (show fixP (nm, ⟨k, n, f, s⟩) = (nm, ⟨0, 0, 0, ⟨#[]⟩⟩) by simp [fixP, Vl.right, hr])
        clear hr
        go_wp2_with fail
        (with_reducible refine (R.out _).mono ?_); rintro e w2 ⟨rfl, hb2⟩
        obtain ⟨hcA, hfA⟩ := bcell hb2
        have z0 : w2.cell? ⟨wr.heap.size, 0, none⟩ = some (.string nm) := (hcA _ 0 (by simp)).trans (by simp)
        have z1 : w2.cell? ⟨wr.heap.size, 1, none⟩ = some (.int .i64 k) := (hcA _ 1 (by simp)).trans (by simp)
        have z2 : w2.cell? ⟨wr.heap.size, 2, none⟩ = some (.int .i64 n) := (hcA _ 2 (by simp)).trans (by simp)
        have z3 : w2.cell? ⟨wr.heap.size, 3, none⟩ = some (.float .f64 f) := (hcA _ 3 (by simp)).trans (by simp)
        have z4 : w2.cell? ⟨wr.heap.size, 4, none⟩ = some (.string s) := (hcA _ 4 (by simp)).trans (by simp)
        have f1 : w2.frozen? ⟨wr.heap.size, 1, none⟩ = false := (hfA _ 1 (by simp)).trans (by simp)
        have f2 : w2.frozen? ⟨wr.heap.size, 2, none⟩ = false := (hfA _ 2 (by simp)).trans (by simp)
        have f3 : w2.frozen? ⟨wr.heap.size, 3, none⟩ = false := (hfA _ 3 (by simp)).trans (by simp)
        have f4 : w2.frozen? ⟨wr.heap.size, 4, none⟩ = false := (hfA _ 4 (by simp)).trans (by simp)
        have hO2 := HO3.out.below (Below.chain (below_a1 wr _) hb2)
        have far := HO3.out.far (Nat.le_refl _)
        have b2 := (hb.alloc hb.size _).trans (hb2.mono (by simp; omega))
        have sz2 := b2.size
        have hB : wr.heap.size < w2.heap.size := Nat.lt_of_lt_of_le (by simp) hb2.size
        clear hcA hfA hb2
        generalize wr.heap.size = B at *
        have HOs := Lib.hid ((((hO2.set (a := ⟨B, 1, none⟩) far (.int .i64 0)).set (a := ⟨B, 2, none⟩) far (.int .i64 0)).set (a := ⟨B, 3, none⟩) far (.float .f64 0)).set (a := ⟨B, 4, none⟩) far (.string ⟨#[]⟩))
        have bs := (((b2.setCell (p := ⟨B, 1, none⟩) hzb (.int .i64 0)).setCell (p := ⟨B, 2, none⟩) hzb (.int .i64 0)).setCell (p := ⟨B, 3, none⟩) hzb (.float .f64 0)).setCell (p := ⟨B, 4, none⟩) hzb (.string ⟨#[]⟩)
        have BS := Lib.hid bs
        clear hO2 bs far
        go_upto_region 9 with fail
        generalize hW : (((w2.setCell ⟨B, 1, none⟩ (.int .i64 0)).setCell ⟨B, 2, none⟩ (.int .i64 0)).setCell ⟨B, 3, none⟩ (.float .f64 0)).setCell ⟨B, 4, none⟩ (.string ⟨#[]⟩) = w3 at *
        have y0 : w3.cell? ⟨B, 0, none⟩ = some (.string nm) := by rw [← hW]; simp [go_sem, z0]
        have y1 : w3.cell? ⟨B, 1, none⟩ = some (.int .i64 0) := by rw [← hW]; simp [go_sem, z1]
        have y2 : w3.cell? ⟨B, 2, none⟩ = some (.int .i64 0) := by rw [← hW]; simp [go_sem, z2]
        have y3 : w3.cell? ⟨B, 3, none⟩ = some (.float .f64 0) := by rw [← hW]; simp [go_sem, z3]
        have y4 : w3.cell? ⟨B, 4, none⟩ = some (.string ⟨#[]⟩) := by rw [← hW]; simp [go_sem, z4]
        clear hW z0 z1 z2 z3 z4 f1 f2 f3 f4 hB sz2 b2
        go_wp2_with (at_builtin; refine wpList_append_rw (E := encP) rfl _ _ _ rfl Try.underlying28 info_p rfl (by decide) (by decide) rfl rfl (HOs.out.below (below_a1 _ _)) (Ow.lit (E := encP) (e := 47) _ w.heap.size [(nm, ⟨0, 0, 0, ⟨#[]⟩⟩)] BS.out.size (by simp) _ rfl).rw (by have := HLn.out; have := HN.out; simp; omega) (BS.out.alloc BS.out.size _).size ?_; intro v5 w5 hO5 hg5 hat5)
        go_roundg (m - (i + 1))
        case rel => exact ⟨i + 1, by omega, by go_num, by rw [HS.out, HF.out]; exact hO5, (BS.out.alloc BS.out.size _).trans (below_of_grown hg5 (BS.out.alloc BS.out.size _).size HR.out)⟩
        case measure => omega
      · rw [hr] at R
        have HF := Lib.hid (show fixP (nm, ⟨k, n, f, s⟩) = (nm, ⟨k, n, f, s⟩) by simp [fixP, Vl.right, hr])
        clear hr
        go_wp2_with fail
        (with_reducible refine (R.out _).mono ?_); rintro e w2 ⟨rfl, hb2⟩
        obtain ⟨hcA, hfA⟩ := bcell hb2
        have z0 : w2.cell? ⟨wr.heap.size, 0, none⟩ = some (.string nm) := (hcA _ 0 (by simp)).trans (by simp)
        have z1 : w2.cell? ⟨wr.heap.size, 1, none⟩ = some (.int .i64 k) := (hcA _ 1 (by simp)).trans (by simp)
        have z2 : w2.cell? ⟨wr.heap.size, 2, none⟩ = some (.int .i64 n) := (hcA _ 2 (by simp)).trans (by simp)
        have z3 : w2.cell? ⟨wr.heap.size, 3, none⟩ = some (.float .f64 f) := (hcA _ 3 (by simp)).trans (by simp)
        have z4 : w2.cell? ⟨wr.heap.size, 4, none⟩ = some (.string s) := (hcA _ 4 (by simp)).trans (by simp)
        have f1 : w2.frozen? ⟨wr.heap.size, 1, none⟩ = false := (hfA _ 1 (by simp)).trans (by simp)
        have f2 : w2.frozen? ⟨wr.heap.size, 2, none⟩ = false := (hfA _ 2 (by simp)).trans (by simp)
        have f3 : w2.frozen? ⟨wr.heap.size, 3, none⟩ = false := (hfA _ 3 (by simp)).trans (by simp)
        have f4 : w2.frozen? ⟨wr.heap.size, 4, none⟩ = false := (hfA _ 4 (by simp)).trans (by simp)
        have hO2 := HO3.out.below (Below.chain (below_a1 wr _) hb2)
        have far := HO3.out.far (Nat.le_refl _)
        have b2 := (hb.alloc hb.size _).trans (hb2.mono (by simp; omega))
        have sz2 := b2.size
        have hB : wr.heap.size < w2.heap.size := Nat.lt_of_lt_of_le (by simp) hb2.size
        clear hcA hfA hb2
        have HOs := Lib.hid hO2
        have BS := Lib.hid b2
        clear hO2 far
        go_wp2_with (at_builtin; refine wpList_append_rw (E := encP) rfl _ _ _ rfl Try.underlying28 info_p rfl (by decide) (by decide) rfl rfl (HOs.out.below (below_a1 _ _)) (Ow.lit (E := encP) (e := 47) _ w.heap.size [(nm, ⟨k, n, f, s⟩)] BS.out.size (by simp) _ rfl).rw (by have := HLn.out; have := HN.out; simp; omega) (BS.out.alloc BS.out.size _).size ?_; intro v5 w5 hO5 hg5 hat5)
        go_roundg (m - (i + 1))
        case rel => exact ⟨i + 1, by omega, by go_num, by rw [HS.out, HF.out]; exact hO5, (BS.out.alloc BS.out.size _).trans (below_of_grown hg5 (BS.out.alloc BS.out.size _).size HR.out)⟩
        case measure => omega
    · obtain rfl : m = i := by omega
      have ht : l.take m = l := List.take_of_length_le (by rw [HL.out]; exact Nat.le_refl _)
      rw [ht] at hO
      by_cases hLm : m < L
      · obtain rfl : 100 = m := by have := HM.out; omega
        have ii : ((100 : Nat) : Int) < (L : Int) := by omega
        go_wp2_with fail
        go_ret
        exact ⟨_, rfl, hO, hb⟩
      · obtain rfl : L = m := by omega
        go_wp2_with fail
        go_ret
        exact ⟨_, rfl, hO, hb⟩
theorem few_any (v : Value) (l : List Pr) (w : World) (h : RwP w v l) (hok : ∀ q ∈ l, q.2.Ok) :
    Calls Try.prog 11 #[v] w fun e w' => ∃ v, e = .returned v ∧ OwP w' w.heap.size v ((l.take 100).map fixP) ∧ Below w.heap.size w w' := by
  have h' := h
  obtain ⟨ao, cap, rfl, h2, h3, h4, h5⟩ := h
  simp only [maxLen] at h3
  refine few_core (l.take 100) ao cap l.length (min l.length 100) w rfl (by simp; omega) (by omega) (fun q hq => hok q (List.mem_of_mem_take hq)) fun i hi => ?_
  have hi' : i < l.length := by simp at hi; omega
  have e : (l.take 100)[i] = l[i] := by simp
  rw [e]
  exact RwP.at h' i hi'
end Go.Proofs.Ytfhnjilflffdfaa
