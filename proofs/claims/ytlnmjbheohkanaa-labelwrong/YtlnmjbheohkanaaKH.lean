import Derived.Test.YtlnmjbheohkanaaKG
namespace Go.Proofs.Ytlnmjbheohkanaa
open Go Go.RowKit
set_option linter.unusedVariables false
/-- what the table has of a kind -/
structure Its (kind : Int) (nf : Nat) (K : Nat) (hf : Value) : Prop where
  look : ∀ (g : Nat) (w : World), Tb w g → (Instr.lookup 48 (.map (some g)) (.int .i64 kind) true).run Try.prog w = .ok (.tuple #[.agg #[.func (.func nf) #[] #[], .int .i64 K, hf], .bool true]) w
  one : hf.oneCell' = true
  enter : ∀ (s : ByteArray) (w : World), (callFunc nf #[.string s]).run Try.prog w = .ok (.enter nf #[.string s]) w
abbrev bxc (kind : Int) (nm : ByteArray) (v : Vl) (ao : Option Addr) (L cap : Nat) : Obj := .cells #[.int .i64 kind, .string nm, .int .i64 v.k, .int .i64 v.n, .float .f64 v.f, .string v.s, .slice ao L cap] 28
abbrev itc (nf K : Nat) (hf : Value) : Obj := .cells #[.func (.func nf) #[] #[], .int .i64 K, hf] 59
set_option maxHeartbeats 2000000 in
theorem lterm_core (kind : Int) (nf K : Nat) (hf : Value) (H : Its kind nf K hf) (g : Nat) (nm : ByteArray) (v : Vl) (hv : v.Ok) (ao : Option Addr) (L cap : Nat) (n : Int) (n1 : 1 ≤ n) (n2 : n ≤ 50) (nb lb vb tb : Bool) (hlb : ((L : Int) == (K : Int)) = lb) (hvb : v.nought = vb)
    (C : ∀ w, Calls Try.prog nf #[.string nm] w fun e w' => e = .returned (.bool nb) ∧ Below w.heap.size w w') (w : World) (hT : Tb w g)
    (kids : List Ex) (xs : List Xc) (hL : kids.length = L) (htb : termsE (n - 1) kids = tb) (hr : RwX w (.slice ao L cap) xs) (hk : Txs w kids xs)
    (ih : ∀ t ∈ kids, ∀ (x : Xc) (w : World), Tb w g → Tx w t x → Calls Try.prog 38 #[.map (some g), xv x, .int .i64 (n - 1)] w fun e w' => e = .returned (.bool (termE (n - 1) t)) ∧ Below w.heap.size w w') :
    Calls Try.prog 38 #[.map (some g), .agg #[.int .i64 kind, .string nm, .int .i64 v.k, .int .i64 v.n, .float .f64 v.f, .string v.s, .slice ao L cap], .int .i64 n] w fun e w' => e = .returned (.bool (vb && (lb && (nb && tb)))) ∧ Below w.heap.size w w' := by
  have hsf := run_store_float
  have hsv := fun a m w => run_store Try.prog w a hf m H.one
  have hsn := fun a m w => run_store Try.prog w a (.func (.func nf) #[] #[]) m rfl
  have HG := H.enter nm
  have c0 := below_a1 w (bxc kind nm v ao L cap)
  have HLk := H.look g _ (hT.keep c0)
  have c2 : Below w.heap.size w ((w.alloc (bxc kind nm v ao L cap)).alloc (itc nf K hf)) := bl_al c0
  have Lz := Lib.hid ((lies7_new w ⟨kind, nm, v, ao, L, cap⟩ 28 #[.int .i64 kind, .string nm, .int .i64 v.k, .int .i64 v.n, .float .f64 v.f, .string v.s, .slice ao L cap] rfl).keep (below_a1 _ (itc nf K hf)))
  have V := Lib.hid (Vr.at' (w.alloc (bxc kind nm v ao L cap)) 59 #[.func (.func nf) #[] #[], .int .i64 K, hf] (w.heap.size + 1) (by simp))
  have HR := Lib.hid (hr.keep c2)
  have HK := Lib.hid (hk.keep c2)
  have HTb := Lib.hid (hT.keep c2)
  have IH := Lib.hid ih
  have HL := Lib.hid hL
  have HT := Lib.hid htb
  have hLx : xs.length = L ∧ L ≤ 9223372036854775807 := by obtain ⟨a, c, e, e1, e2, -⟩ := hr; cases e; simp only [maxLen] at e2; exact ⟨rfl, by omega⟩
  have HX := Lib.hid hLx.1
  have hLm := hLx.2
  have m1 : ¬ (n < 1) := by omega
  have hlb2 : ((L : Int) != (K : Int)) = !lb := by simp only [bne, hlb]
  have C1 := Lib.hid (C ((w.alloc (bxc kind nm v ao L cap)).alloc (itc nf K hf)))
  have D := Lib.hid (lnothing_any v hv)
  rw [hvb] at D
  clear hr hk ih hL htb hLx C H hT hv hvb hlb
  simp only [bxc, itc] at *
  cases nb
  · go_enter Try.func38, Try.ntmps38
    go_wp2_with fail
    (with_reducible refine C1.out.mono ?_); rintro e w2 ⟨rfl, hb2⟩
    go_wp2_with fail
    go_ret
    exact ⟨by simp, Below.chain c2 hb2⟩
  cases lb
  · go_enter Try.func38, Try.ntmps38
    go_wp2_with fail
    (with_reducible refine C1.out.mono ?_); rintro e w2 ⟨rfl, hb2⟩
    have ⟨q0, q1, q2, q3, q4, q5, q6⟩ := (Lz.out.keep hb2).at
    have r1 : w2.cell? ⟨w.heap.size + 1, 1, none⟩ = some (.int .i64 K) := (V.out.keep hb2).cell 1
    go_wp2_with fail
    go_ret
    exact ⟨by simp, Below.chain c2 hb2⟩
  cases vb
  · go_enter Try.func38, Try.ntmps38
    go_wp2_with fail
    (with_reducible refine C1.out.mono ?_); rintro e w2 ⟨rfl, hb2⟩
    have ⟨q0, q1, q2, q3, q4, q5, q6⟩ := (Lz.out.keep hb2).at
    have r1 : w2.cell? ⟨w.heap.size + 1, 1, none⟩ = some (.int .i64 K) := (V.out.keep hb2).cell 1
    go_wp2_with fail
    (with_reducible refine (D.out _).mono ?_); rintro e w3 ⟨rfl, hb3⟩
    go_wp2_with fail
    go_ret
    exact ⟨by simp, Below.chain c2 (Below.chain hb2 hb3)⟩
  · go_enter Try.func38, Try.ntmps38
    go_wp2_with fail
    (with_reducible refine C1.out.mono ?_); rintro e w2 ⟨rfl, hb2⟩
    have ⟨q0, q1, q2, q3, q4, q5, q6⟩ := (Lz.out.keep hb2).at
    have r1 : w2.cell? ⟨w.heap.size + 1, 1, none⟩ = some (.int .i64 K) := (V.out.keep hb2).cell 1
    go_wp2_with fail
    (with_reducible refine (D.out _).mono ?_); rintro e w3 ⟨rfl, hb3⟩
    have hb23 := Below.chain hb2 hb3
    have p6 := (Lz.out.keep hb23).at.2.2.2.2.2.2
    simp only [] at p6
    clear q0 q1 q2 q3 q4 q5 q6 r1 hb2 hb3 C1 D
    go_wp2_with fail
    go_loopg [49] L (fun g' s49 wr => ∃ (i : Nat), g' + i = L ∧ s49 = .int .i64 i ∧ termsE (n - 1) (kids.take i) = true ∧ Below ((w.alloc (.cells #[.int .i64 kind, .string nm, .int .i64 v.k, .int .i64 v.n, .float .f64 v.f, .string v.s, .slice ao L cap] 28)).alloc (.cells #[.func (.func nf) #[] #[], .int .i64 K, hf] 59)).heap.size ((w.alloc (.cells #[.int .i64 kind, .string nm, .int .i64 v.k, .int .i64 v.n, .float .f64 v.f, .string v.s, .slice ao L cap] 28)).alloc (.cells #[.func (.func nf) #[] #[], .int .i64 K, hf] 59)) wr)
    case atStart => exact ⟨0, rfl, rfl, by rw [List.take_zero]; unfold termsE; rw [deepL, termL, Bool.and_true, decide_eq_true_eq]; omega, hb23⟩
    case round =>
      obtain ⟨i, hg, rfl, hy, hb⟩ := hrel
      by_cases hlt : i < L
      · have ii : (i : Int) < (L : Int) := by omega
        have hi : i < kids.length := by rw [HL.out]; exact hlt
        have hix : i < xs.length := by rw [HX.out]; exact hlt
        have hRw := HR.out.keep hb
        have hT : Tx wr kids[i] xs[i] := (HK.out.2 i hi hix).keep hb
        obtain ⟨ao', cap', he, -, -, -, hc⟩ := hRw
        simp only [Value.slice.injEq] at he
        obtain ⟨rfl, -, rfl⟩ := he
        obtain ⟨b, o, rfl, hcell⟩ := hc i hix
        have z0 := hcell 0 (by decide)
        have z1 := hcell 1 (by decide)
        have z2 := hcell 2 (by decide)
        have z3 := hcell 3 (by decide)
        have z4 := hcell 4 (by decide)
        have z5 := hcell 5 (by decide)
        have z6 := hcell 6 (by decide)
        simp only [encX, List.getElem?_cons_zero, List.getElem?_cons_succ, Nat.add_zero] at z0 z1 z2 z3 z4 z5 z6
        have bk := below_a1 wr (.cells (xcs xs[i]) 28)
        have E := Lib.hid (IH.out _ (List.getElem_mem hi) xs[i] _ ((HTb.out.keep hb).keep bk) (hT.keep bk))
        have HF := Lib.hid (termsE_take (n - 1) (by omega) kids i hi)
        have HB := Lib.hid (termsE_bad (n - 1) kids i hi)
        clear hT hc hcell
        generalize xs[i] = z at *
        generalize termE (n - 1) kids[i] = r at *
        cases r
        · go_wp2_with fail
          (with_reducible refine E.out.mono ?_); rintro e w4 ⟨rfl, hb4⟩
          go_wp2_with fail
          go_ret
          refine ⟨?_, Below.chain c2 (Below.chain hb (Below.chain bk hb4))⟩
          rw [← HT.out, HB.out trivial]; rfl
        · go_wp2_with fail
          (with_reducible refine E.out.mono ?_); rintro e w4 ⟨rfl, hb4⟩
          go_wp2_with fail
          go_roundg (L - (i + 1))
          case rel => exact ⟨i + 1, by omega, by go_num, by rw [HF.out, hy]; rfl, Below.chain hb (Below.chain bk hb4)⟩
          case measure => omega
      · obtain rfl : L = i := by omega
        have ii : ¬ ((L : Int) < (L : Int)) := by omega
        have ht : kids.take L = kids := List.take_of_length_le (by rw [HL.out]; exact Nat.le_refl _)
        rw [ht, HT.out] at hy
        subst hy
        go_wp2_with fail
        go_ret
        exact ⟨rfl, Below.chain c2 hb⟩
end Go.Proofs.Ytlnmjbheohkanaa
