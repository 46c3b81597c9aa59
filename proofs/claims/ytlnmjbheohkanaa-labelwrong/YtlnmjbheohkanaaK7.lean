import Derived.Test.YtlnmjbheohkanaaK6
namespace Go.Proofs.Ytlnmjbheohkanaa
open Go Go.RowKit
set_option linter.unusedVariables false
def encS : Enc ByteArray 1 where
  enc s := [.string s]
  len s := rfl
  one s u hu := by
    have : u = .string s := by simpa using hu
    rw [this]; rfl
theorem info_str : (Try.prog.info? 9).map (fun i => (i.zero, i.size, i.bytes)) = some (some (.string ⟨#[]⟩), 1, 16) := by kernel_rfl
abbrev OwS := Ow encS 9
abbrev RwS := Rw encS
theorem inB_take (l : List ByteArray) (s : ByteArray) (i : Nat) (h : i < l.length) : inB (l.take (i + 1)) s = (inB (l.take i) s || (l[i].toList == s.toList)) := by
  unfold inB
  rw [List.take_succ_eq_append_getElem h, List.any_append]; simp
theorem inB_hit (l : List ByteArray) (s : ByteArray) (i : Nat) (h : i < l.length) (hs : (l[i].toList == s.toList) = true) : inB l s = true := by
  unfold inB
  exact List.any_eq_true.2 ⟨l[i], List.getElem_mem h, hs⟩
set_option maxHeartbeats 1000000 in
theorem rin_any (l : List ByteArray) (s : ByteArray) (v : Value) (w : World) (h : RwS w v l) :
    Calls Try.prog 26 #[v, .string s] w fun e w' => e = .returned (.bool (inB l s)) ∧ w = w' := by
  have hL : ∃ ao L cap, v = .slice ao L cap ∧ l.length = L ∧ L ≤ 9223372036854775807 := by
    obtain ⟨a, c, e, e1, e2, -⟩ := h
    simp only [maxLen] at e2
    exact ⟨a, _, c, e, rfl, by omega⟩
  obtain ⟨ao, L, cap, rfl, hL, hLm⟩ := hL
  have HR := Lib.hid h
  have HL := Lib.hid hL
  clear h hL
  go_enter Try.func26, Try.ntmps26
  go_wp2_with fail
  go_loopg [5] L (fun g s5 wr => ∃ i : Nat, g + i = L ∧ s5 = .int .i64 i ∧ inB (l.take i) s = false ∧ wr = w)
  case atStart => exact ⟨0, rfl, rfl, rfl, rfl⟩
  case round =>
    obtain ⟨i, hg, rfl, hy, rfl⟩ := hrel
    by_cases hlt : i < L
    · have ii : (i : Int) < (L : Int) := by omega
      have hi : i < l.length := by rw [HL.out]; exact hlt
      obtain ⟨ao', cap', he, -, -, -, hc⟩ := HR.out
      simp only [Value.slice.injEq] at he
      obtain ⟨rfl, -, rfl⟩ := he
      obtain ⟨b, o, rfl, hcell⟩ := hc i hi
      have q0 : wr.cell? ⟨b, o + i, none⟩ = some (.string l[i]) := by have := hcell 0 (by decide); simpa [encS] using this
      have HT := Lib.hid (inB_take l s i hi)
      have HH := Lib.hid (inB_hit l s i hi)
      clear hc hcell
      generalize l[i] = z at *
      cases hz : z.toList == s.toList
      · rw [hy, hz] at HT
        go_wp2_with fail
        go_roundg (L - (i + 1))
        case rel => exact ⟨i + 1, by omega, by go_num, HT.out, rfl⟩
        case measure => omega
      · have H2 := Lib.hid (HH.out hz)
        go_wp2_with fail
        go_ret
        exact ⟨by rw [H2.out]; rfl, rfl⟩
    · obtain rfl : L = i := by omega
      have ii : ¬ ((L : Int) < (L : Int)) := by omega
      have ht : l.take L = l := List.take_of_length_le (by rw [HL.out]; exact Nat.le_refl _)
      rw [ht] at hy
      have HY := Lib.hid hy
      clear hy ht
      go_wp2_with fail
      go_ret
      exact ⟨by rw [HY.out]; rfl, rfl⟩
theorem rholds_4 (l : List ByteArray) (vl : Value) (nm : ByteArray) (v : Vl) (ao : Option Addr) (L cap : Nat) (w : World) (h : RwS w vl l) : Calls Try.prog 40 #[vl, .agg #[.int .i64 4, .string nm, .int .i64 v.k, .int .i64 v.n, .float .f64 v.f, .string v.s, .slice ao L cap]] w fun e w' => e = .returned (.bool (inB l nm)) ∧ Below w.heap.size w w' := by
  have c0 := below_a1 w (.cells #[.int .i64 4, .string nm, .int .i64 v.k, .int .i64 v.n, .float .f64 v.f, .string v.s, .slice ao L cap] 28)
  have C := Lib.hid (rin_any l nm vl _ (h.keep c0))
  clear h
  generalize inB l nm = b at *
  go_enter Try.func40, Try.ntmps40
  go_wp2_with fail
  (with_reducible refine C.out.mono ?_); rintro e w2 ⟨rfl, rfl⟩
  go_wp2_with fail
  go_ret
  exact ⟨rfl, c0⟩
theorem rholds_5 (ln : Nat) (lao : Option Addr) (lcap : Nat) (nm : ByteArray) (v : Vl) (ao : Option Addr) (L cap : Nat) (w : World) : Calls Try.prog 40 #[.slice lao ln lcap, .agg #[.int .i64 5, .string nm, .int .i64 v.k, .int .i64 v.n, .float .f64 v.f, .string v.s, .slice ao L cap]] w fun e w' => e = .returned (.bool (decide ((0 : Int) < (ln : Int)))) ∧ Below w.heap.size w w' := by
  have c0 := below_a1 w (.cells #[.int .i64 5, .string nm, .int .i64 v.k, .int .i64 v.n, .float .f64 v.f, .string v.s, .slice ao L cap] 28)
  go_enter Try.func40, Try.ntmps40
  go_wp2_with fail
  go_ret
  exact ⟨by simp, c0⟩
theorem rholds_o (k : Int) (g4 : (k == 4) = false) (g5 : (k == 5) = false) (g6 : (k == 6) = false) (g7 : (k == 7) = false) (g8 : (k == 8) = false) (vl : Value) (nm : ByteArray) (v : Vl) (ao : Option Addr) (L cap : Nat) (w : World) : Calls Try.prog 40 #[vl, .agg #[.int .i64 k, .string nm, .int .i64 v.k, .int .i64 v.n, .float .f64 v.f, .string v.s, .slice ao L cap]] w fun e w' => e = .returned (.bool true) ∧ Below w.heap.size w w' := by
  have c0 := below_a1 w (.cells #[.int .i64 k, .string nm, .int .i64 v.k, .int .i64 v.n, .float .f64 v.f, .string v.s, .slice ao L cap] 28)
  go_enter Try.func40, Try.ntmps40
  go_wp2_with fail
  go_ret
  exact ⟨rfl, c0⟩
theorem rholds_6 (vl : Value) (nm : ByteArray) (v : Vl) (b o cap : Nat) (z : Xc) (r : Bool) (w : World) (hk : Kid w b o z)
    (C : ∀ w1, Below w.heap.size w w1 → Calls Try.prog 40 #[vl, xv z] w1 fun e w' => e = .returned (.bool r) ∧ Below w1.heap.size w1 w') : Calls Try.prog 40 #[vl, .agg #[.int .i64 6, .string nm, .int .i64 v.k, .int .i64 v.n, .float .f64 v.f, .string v.s, .slice (some ⟨b, o, none⟩) 1 cap]] w fun e w' => e = .returned (.bool (!r)) ∧ Below w.heap.size w w' := by
  have c0 := below_a1 w (.cells #[.int .i64 6, .string nm, .int .i64 v.k, .int .i64 v.n, .float .f64 v.f, .string v.s, .slice (some ⟨b, o, none⟩) 1 cap] 28)
  have ⟨q0, q1, q2, q3, q4, q5, q6⟩ := hk.keep c0
  have C1 := Lib.hid (C _ c0)
  clear C hk
  go_enter Try.func40, Try.ntmps40
  go_wp2_with fail
  (with_reducible refine C1.out.mono ?_); rintro e w2 ⟨rfl, hb2⟩
  go_wp2_with fail
  go_ret
  exact ⟨rfl, Below.chain c0 hb2⟩
theorem rholds_7 (vl : Value) (nm : ByteArray) (v : Vl) (b o cap : Nat) (z z2 : Xc) (r r2 : Bool) (w : World) (hk : Kid w b o z) (hk2 : Kid w b (o + 7) z2)
    (C : ∀ w1, Below w.heap.size w w1 → Calls Try.prog 40 #[vl, xv z] w1 fun e w' => e = .returned (.bool r) ∧ Below w1.heap.size w1 w')
    (C2 : ∀ w1, Below w.heap.size w w1 → Calls Try.prog 40 #[vl, xv z2] w1 fun e w' => e = .returned (.bool r2) ∧ Below w1.heap.size w1 w') : Calls Try.prog 40 #[vl, .agg #[.int .i64 7, .string nm, .int .i64 v.k, .int .i64 v.n, .float .f64 v.f, .string v.s, .slice (some ⟨b, o, none⟩) 2 cap]] w fun e w' => e = .returned (.bool (r && r2)) ∧ Below w.heap.size w w' := by
  have c0 := below_a1 w (.cells #[.int .i64 7, .string nm, .int .i64 v.k, .int .i64 v.n, .float .f64 v.f, .string v.s, .slice (some ⟨b, o, none⟩) 2 cap] 28)
  have Lz := Lib.hid (lies7_new w ⟨7, nm, v, (some ⟨b, o, none⟩), 2, cap⟩ 28 #[.int .i64 7, .string nm, .int .i64 v.k, .int .i64 v.n, .float .f64 v.f, .string v.s, .slice (some ⟨b, o, none⟩) 2 cap] rfl)
  have ⟨q0, q1, q2, q3, q4, q5, q6⟩ := hk.keep c0
  have HK2 := Lib.hid (hk2.keep c0)
  have C1 := Lib.hid (C _ c0)
  have D1 := Lib.hid fun w2 (hb : Below (w.alloc (.cells #[.int .i64 7, .string nm, .int .i64 v.k, .int .i64 v.n, .float .f64 v.f, .string v.s, .slice (some ⟨b, o, none⟩) 2 cap] 28)).heap.size (w.alloc (.cells #[.int .i64 7, .string nm, .int .i64 v.k, .int .i64 v.n, .float .f64 v.f, .string v.s, .slice (some ⟨b, o, none⟩) 2 cap] 28)) w2) => C2 w2 (Below.chain c0 hb)
  clear C C2 hk hk2
  go_enter Try.func40, Try.ntmps40
  go_wp2_with fail
  (with_reducible refine C1.out.mono ?_); rintro e w2 ⟨rfl, hb2⟩
  have ⟨y0, y1, y2, y3, y4, y5, y6⟩ := (Lz.out.keep hb2).at
  have ⟨z0, z1, z2', z3, z4, z5, z6⟩ := HK2.out.keep hb2
  simp only [Nat.add_assoc, Nat.reduceAdd] at z1 z2' z3 z4 z5 z6
  go_wp2_with fail
  (with_reducible refine (D1.out _ hb2).mono ?_); rintro e w3 ⟨rfl, hb3⟩
  cases r <;> cases r2
  all_goals
    go_wp2_with fail
    go_ret
    exact ⟨rfl, Below.chain (Below.chain c0 hb2) hb3⟩
theorem rholds_8 (vl : Value) (nm : ByteArray) (v : Vl) (b o cap : Nat) (z z2 : Xc) (r r2 : Bool) (w : World) (hk : Kid w b o z) (hk2 : Kid w b (o + 7) z2)
    (C : ∀ w1, Below w.heap.size w w1 → Calls Try.prog 40 #[vl, xv z] w1 fun e w' => e = .returned (.bool r) ∧ Below w1.heap.size w1 w')
    (C2 : ∀ w1, Below w.heap.size w w1 → Calls Try.prog 40 #[vl, xv z2] w1 fun e w' => e = .returned (.bool r2) ∧ Below w1.heap.size w1 w') : Calls Try.prog 40 #[vl, .agg #[.int .i64 8, .string nm, .int .i64 v.k, .int .i64 v.n, .float .f64 v.f, .string v.s, .slice (some ⟨b, o, none⟩) 2 cap]] w fun e w' => e = .returned (.bool (r || r2)) ∧ Below w.heap.size w w' := by
  have c0 := below_a1 w (.cells #[.int .i64 8, .string nm, .int .i64 v.k, .int .i64 v.n, .float .f64 v.f, .string v.s, .slice (some ⟨b, o, none⟩) 2 cap] 28)
  have Lz := Lib.hid (lies7_new w ⟨8, nm, v, (some ⟨b, o, none⟩), 2, cap⟩ 28 #[.int .i64 8, .string nm, .int .i64 v.k, .int .i64 v.n, .float .f64 v.f, .string v.s, .slice (some ⟨b, o, none⟩) 2 cap] rfl)
  have ⟨q0, q1, q2, q3, q4, q5, q6⟩ := hk.keep c0
  have HK2 := Lib.hid (hk2.keep c0)
  have C1 := Lib.hid (C _ c0)
  have D1 := Lib.hid fun w2 (hb : Below (w.alloc (.cells #[.int .i64 8, .string nm, .int .i64 v.k, .int .i64 v.n, .float .f64 v.f, .string v.s, .slice (some ⟨b, o, none⟩) 2 cap] 28)).heap.size (w.alloc (.cells #[.int .i64 8, .string nm, .int .i64 v.k, .int .i64 v.n, .float .f64 v.f, .string v.s, .slice (some ⟨b, o, none⟩) 2 cap] 28)) w2) => C2 w2 (Below.chain c0 hb)
  clear C C2 hk hk2
  go_enter Try.func40, Try.ntmps40
  go_wp2_with fail
  (with_reducible refine C1.out.mono ?_); rintro e w2 ⟨rfl, hb2⟩
  have ⟨y0, y1, y2, y3, y4, y5, y6⟩ := (Lz.out.keep hb2).at
  have ⟨z0, z1, z2', z3, z4, z5, z6⟩ := HK2.out.keep hb2
  simp only [Nat.add_assoc, Nat.reduceAdd] at z1 z2' z3 z4 z5 z6
  go_wp2_with fail
  (with_reducible refine (D1.out _ hb2).mono ?_); rintro e w3 ⟨rfl, hb3⟩
  cases r <;> cases r2
  all_goals
    go_wp2_with fail
    go_ret
    exact ⟨rfl, Below.chain (Below.chain c0 hb2) hb3⟩
end Go.Proofs.Ytlnmjbheohkanaa
