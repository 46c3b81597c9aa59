import Derived.Test.YtlnmjbheohkanaaKJ3
import Derived.Deep.RegionHeld3
import Derived.Deep.RegionLaw
namespace Go.Proofs.Ytlnmjbheohkanaa
open Go Go.RowKit
set_option linter.unusedVariables false
theorem insW_len (l : List By) (s : By) : (insW l s).length ≤ l.length + 1 := by
  unfold insW
  split
  · omega
  · have e := List.takeWhile_append_dropWhile (p := fun x => Op.bytesLess x s) (l := l)
    generalize l.takeWhile (fun x => Op.bytesLess x s) = A at *
    generalize l.dropWhile (fun x => Op.bytesLess x s) = B at *
    rw [← e]
    simp; omega
theorem addW_len (ns : List By) : ∀ l, (addW l ns).length ≤ l.length + ns.length := by
  induction ns with
  | nil => intro l; exact Nat.le_refl _
  | cons s ns ih =>
    intro l
    have := ih (insW l s)
    have := insW_len l s
    rw [addW_cons, List.length_cons]; omega
theorem addB_len (l ns : List ByteArray) : (addB l ns).length ≤ l.length + ns.length := by
  have h := addW_len (ns.map byt) (l.map byt)
  have e : ((addB l ns).map byt).length = (addW (l.map byt) (ns.map byt)).length := by rw [addB_byt]
  simp at h e; omega
theorem Rw.rest {w : World} {ao : Option Addr} {len cap : Nat} {l : List ByteArray} (h : RwS w (.slice ao len cap) l) (c : Nat) (hc : c ≤ l.length) (hn : ¬ cap = c) : RwS w (.slice (ao.map (fun x => x.add c)) (l.length - c) (cap - c)) (l.drop c) := by
  have h' := h
  obtain ⟨ao', cap', he, k2, k3, k4, k5⟩ := h'
  cases he
  have := h.sliced c l.length cap hc (Nat.le_refl _) (by omega) (Nat.le_refl _)
  have e : Go.sliced ao c l.length cap 1 = .slice (ao.map (fun x => x.add c)) (l.length - c) (cap - c) := by
    unfold Go.sliced
    rw [if_neg hn, Nat.mul_one]
  rw [e] at this; simpa using this
theorem Rw.rest0 {w : World} {ao : Option Addr} {len cap : Nat} {l : List ByteArray} (h : RwS w (.slice ao len cap) l) (c : Nat) (hc : c ≤ l.length) (hn : cap = c) : RwS w (.slice ao 0 0) (l.drop c) := by
  have h' := h
  obtain ⟨ao', cap', he, k2, k3, k4, k5⟩ := h'
  cases he
  have hd : l.drop c = [] := by simp; omega
  rw [hd]
  exact ⟨ao, 0, rfl, Nat.le_refl _, by simp [maxLen], fun _ => rfl, fun j h => by simp at h⟩
theorem zs_str : (Value.string ⟨#[]⟩).cells.size = 1 := rfl
theorem one_pos : 0 < 1 := Nat.one_pos
theorem b16 : 16 ≤ 10000 := by decide
theorem one_at (w : World) (x : ByteArray) : (w.alloc (.cells #[.string x] 9)).drew.cell? ⟨w.heap.size, 0, none⟩ = some (.string x) := by simp
theorem one_at2 (w : World) (x : ByteArray) (o : Obj) : ((w.alloc (.cells #[.string x] 9)).alloc o).drew.cell? ⟨w.heap.size, 0, none⟩ = some (.string x) :=
  ((below_a1 (w.alloc (.cells #[.string x] 9)) o).drew.cell (p := ⟨w.heap.size, 0, none⟩) (by simp)).trans (by simp)
theorem one_rw {w : World} {x : ByteArray} {g : Nat} (hc : w.cell? ⟨g, 0, none⟩ = some (.string x)) : RwS w (.slice (some ⟨g, 0, none⟩) 1 1) [x] :=
  ⟨some ⟨g, 0, none⟩, 1, rfl, Nat.le_refl _, by simp [maxLen], fun h => (by cases h), fun i hi => ⟨g, 0, rfl, fun j hj => by
    have : i = 0 := by simpa using hi
    subst this
    match j, hj with
    | 0, _ => simpa [encS] using hc⟩⟩
theorem one_kept {w w' : World} {x : ByteArray} {g p : Nat} {n c : Nat} (h : w.cell? ⟨g, 0, none⟩ = some (.string x)) (hg : w.grownBy w' (Value.slice (some ⟨p, 0, none⟩) n c).ownBlock) (hne : g ≠ p) : RwS w' (.slice (some ⟨g, 0, none⟩) 1 1) [x] :=
  one_rw (hg.cell h (by simp [Value.ownBlock]; omega))
theorem one_new (w : World) (x : ByteArray) : RwS (w.alloc (.cells #[.string x] 9)) (.slice (some ⟨w.heap.size, 0, none⟩) 1 1) [x] := one_rw (by simp)
set_option maxHeartbeats 8000000 in
set_option maxRecDepth 100000 in
theorem with6_any (l : List ByteArray) (s : ByteArray) (v : Value) (w : World) (hT : RwS w v l) (hl : l.length ≤ 1000) :
    Calls Try.prog 50 #[v, .string s] w fun e w' => ∃ u, e = .returned u ∧ RwS w' u (addB l [s]) ∧ Below w.heap.size w w' := by
  have C := Lib.hid (rin_any l s v w hT)
  cases hin : inB l s
  · have HIN := Lib.hid hin
    have hL : ∃ ao L cap, v = .slice ao L cap ∧ l.length = L ∧ L ≤ cap ∧ cap ≤ 9223372036854775807 := by
      obtain ⟨a, c, e, e1, e2, -⟩ := hT
      simp only [maxLen] at e2
      exact ⟨a, _, c, e, rfl, e1, by omega⟩
    obtain ⟨ao, L, cap, rfl, hL, hLc, hLm⟩ := hL
    have HRw := Lib.hid hT
    have HL := Lib.hid hL
    have HL1 := Lib.hid hl
    have HK2 := Lib.hid hLc
    have hLL : L ≤ 9223372036854775807 := by omega
    have bA : Below w.heap.size w (w.alloc (.cells #[] 9)).drew := (below_a1 _ _).drew
    have bAB : Below w.heap.size w ((w.alloc (.cells #[] 9)).alloc (.cells #[.string s] 9)).drew := ((below_a1 _ _).alloc (by simp) _).drew
    have bB : Below w.heap.size w (w.alloc (.cells #[.string s] 9)).drew := (below_a1 _ _).drew
    have bBA : Below w.heap.size w ((w.alloc (.cells #[.string s] 9)).alloc (.cells #[] 9)).drew := ((below_a1 _ _).alloc (by simp) _).drew
    have NA := Lib.hid ((Ow.lit (E := encS) (e := 9) w w.heap.size [] (Nat.le_refl _) (by simp) #[] rfl).below (Below.refl _ _).drew)
    have NAB := Lib.hid ((Ow.lit (E := encS) (e := 9) w w.heap.size [] (Nat.le_refl _) (by simp) #[] rfl).below (below_a1 _ (.cells #[.string s] 9)).drew)
    have NBA := Lib.hid ((Ow.lit (E := encS) (e := 9) (w.alloc (.cells #[.string s] 9)) w.heap.size [] (by simp) (by simp) #[] rfl).below (Below.refl _ _).drew)
    rw [show (w.alloc (.cells #[.string s] 9)).heap.size = w.heap.size + 1 by simp] at NBA
    have XAB := Lib.hid (one_at (w.alloc (.cells #[] 9)) s)
    rw [show (w.alloc (.cells #[] 9)).heap.size = w.heap.size + 1 by simp] at XAB
    have XBA := Lib.hid (one_at2 w s (.cells #[] 9))
    have BA := Lib.hid bA
    have BAB := Lib.hid bAB
    have BB := Lib.hid bB
    have BBA := Lib.hid bBA
    rw [hin] at C
    clear bA bAB bB bBA hT hL hl hin hLc
    go_enter Try.func50, Try.ntmps50
    go_wp2_with fail
    (with_reducible refine C.out.mono ?_); rintro e w2 ⟨rfl, rfl⟩
    go_wp2_with fail
    go_loopg [5] L (fun g s5 wr => ∃ k : Nat, g + k = L ∧ s5 = .int .i64 k ∧ (∀ j (h : j < l.length), j < k → Op.bytesLess l[j].toList s.toList = true) ∧ wr = w)
    case atStart => exact ⟨0, rfl, rfl, fun j _ h => absurd h (Nat.not_lt_zero _), rfl⟩
    case round =>
      obtain ⟨k, hg, rfl, hz, rfl⟩ := hrel
      have HZ := Lib.hid hz
      clear hz
      have hkL : k ≤ L := by omega
      have HKK := Lib.hid (show k ≤ l.length by rw [HL.out]; exact hkL)
      have HK3 := Lib.hid hLm
      have HD := Lib.hid (HRw.out.head k HKK.out)
      have s1 := Lib.hid (show ([] : List ByteArray).length + (l.take k).length ≤ 1000000 by have := HL1.out; simp; omega)
      have s2 := Lib.hid (show (l.take k).length + [s].length ≤ 1000000 by have := HL1.out; simp; omega)
      have s3 := Lib.hid (show (l.take k ++ [s]).length + (l.drop k).length ≤ 1000000 by have := HL1.out; simp; omega)
      by_cases hlt : k < L
      · have ii : (k : Int) < (L : Int) := by omega
        have hi : k < l.length := by rw [HL.out]; exact hlt
        obtain ⟨ao', cap', he, -, -, -, hc⟩ := HRw.out
        simp only [Value.slice.injEq] at he
        obtain ⟨rfl, -, rfl⟩ := he
        obtain ⟨b, o, rfl, hcell⟩ := hc k hi
        have q0 : wr.cell? ⟨b, o + k, none⟩ = some (.string l[k]) := by have := hcell 0 (by decide); simpa [encS] using this
        have HF := Lib.hid (show Op.bytesLess l[k].toList s.toList = false → addB l [s] = l.take k ++ [s] ++ l.drop k from fun h => addB_one_out l s HIN.out k HKK.out HZ.out (fun _ => h))
        have HU := Lib.hid (show Op.bytesLess l[k].toList s.toList = true → ∀ j (h : j < l.length), j < k + 1 → Op.bytesLess l[j].toList s.toList = true from fun h j hj hjk => by
          by_cases e : j = k
          · subst e; exact h
          · exact HZ.out j hj (by omega))
        clear hc hcell
        generalize l[k] = z at *
        cases hz2 : Op.bytesLess z.toList s.toList
        · have HA := Lib.hid (HF.out hz2)
          clear HF HU
          have hkk := HKK.out
          have k3 := HK3.out
          have k2 := HK2.out
          have i1 : (k : Int) ≤ (cap : Int) := by omega
          have i2 : (k : Int) ≤ (L : Int) := by omega
          have i3 : (L : Int) ≤ (cap : Int) := by omega
          by_cases hck : cap = k
          · skip
            exfalso; omega
          · have hr0 := HRw.out.rest k hkk hck
            rw [HL.out] at hr0
            have HR := Lib.hid hr0
            clear hr0
            generalize List.take k l = Ta at *
            generalize List.drop k l = Tb at *
            go_wp2_with fail
            go_region_held3 (fun w' => Below wr.heap.size wr w')
              (first | exact (Below.refl _ _).drew | exact BA.out | exact BB.out | exact BAB.out | exact BBA.out | exact d9 | exact (d9.alloc d9.size _) | exact d12 | exact d16)
              (first
                | (with_reducible refine step_append_rw (E := encS) rfl (.tmp 24) (.tmp 27) _ rfl Try.underlying22 info_str zs_str one_pos b16 (by simp [Act.eval]) (by simp [Act.eval]) NA.out (HD.out.keep BA.out) s1.out BA.out.size ?_
                   intro v9 w9 o9 g9 _
                   have d9 := BA.out.grown g9 BA.out.size NA.out.row
                   rw [List.nil_append] at o9)
                | (with_reducible refine step_append_rw (E := encS) rfl (.tmp 24) (.tmp 27) _ rfl Try.underlying22 info_str zs_str one_pos b16 (by simp [Act.eval]) (by simp [Act.eval]) NAB.out (HD.out.keep BAB.out) s1.out BAB.out.size ?_
                   intro v9 w9 o9 g9 _
                   have d9 := BAB.out.grown g9 BAB.out.size NAB.out.row
                   have x9 := one_kept (g := wr.heap.size + 1) (p := wr.heap.size) XAB.out g9 (by omega)
                   rw [List.nil_append] at o9)
                | (with_reducible refine step_append_rw (E := encS) rfl (.tmp 24) (.tmp 27) _ rfl Try.underlying22 info_str zs_str one_pos b16 (by simp [Act.eval]) (by simp [Act.eval]) NBA.out (HD.out.keep BBA.out) s1.out BBA.out.size ?_
                   intro v9 w9 o9 g9 _
                   have d9 := BBA.out.grown g9 BBA.out.size NBA.out.row
                   have x9 := one_kept (g := wr.heap.size) (p := wr.heap.size + 1) XBA.out g9 (by omega)
                   rw [List.nil_append] at o9)
                | (with_reducible refine step_append_rw (E := encS) rfl (.tmp 28) (.tmp 30) _ rfl Try.underlying22 info_str zs_str one_pos b16 (by simp [Act.eval]) (by simp [Act.eval]) o9 x9 s2.out d9.size ?_
                   intro v12 w12 o12 g12 _
                   have d12 := d9.grown g12 d9.size o9.row)
                | (with_reducible refine step_append_rw (E := encS) rfl (.tmp 28) (.tmp 30) _ rfl Try.underlying22 info_str zs_str one_pos b16 (by simp [Act.eval]) (by simp [Act.eval]) (o9.below (below_a1 w9 _)) (one_new w9 s) s2.out (d9.alloc d9.size _).size ?_
                   intro v12 w12 o12 g12 _
                   have d12 := (d9.alloc d9.size _).grown g12 (d9.alloc d9.size _).size o9.row)
                | (with_reducible refine step_append_rw (E := encS) rfl (.tmp 31) (.tmp 34) _ rfl Try.underlying22 info_str zs_str one_pos b16 (by simp [Act.eval]) (by simp [Act.eval, Addr.add_lit]) o12 (HR.out.keep d12) s3.out d12.size ?_
                   intro v16 w16 o16 g16 _
                   have d16 := d12.grown g16 d12.size o12.row))
            all_goals (go_wp2_with fail; go_ret; exact ⟨_, rfl, by rw [HA.out]; exact o16.rw, d16⟩)
        · have HU2 := Lib.hid (HU.out hz2)
          clear HF HU
          go_wp2_with fail
          go_roundg (L - (k + 1))
          case rel => exact ⟨k + 1, by omega, by go_num, HU2.out, rfl⟩
          case measure => omega
      · have ii : ¬ ((k : Int) < (L : Int)) := by omega
        have HA := Lib.hid (addB_one_out l s HIN.out k HKK.out HZ.out (fun h => by have := HL.out; omega))
        have hkk := HKK.out
        have k3 := HK3.out
        have k2 := HK2.out
        have i1 : (k : Int) ≤ (cap : Int) := by omega
        have i2 : (k : Int) ≤ (L : Int) := by omega
        have i3 : (L : Int) ≤ (cap : Int) := by omega
        by_cases hck : cap = k
        · skip
          have HR := Lib.hid (HRw.out.rest0 k hkk hck)
          generalize List.take k l = Ta at *
          generalize List.drop k l = Tb at *
          have hcl : L = cap := by omega
          subst hcl
          subst hck
          go_wp2_with fail
          go_region_held3 (fun w' => Below wr.heap.size wr w')
            (first | exact (Below.refl _ _).drew | exact BA.out | exact BB.out | exact BAB.out | exact BBA.out | exact d9 | exact (d9.alloc d9.size _) | exact d12 | exact d16)
            (first
              | (with_reducible refine step_append_rw (E := encS) rfl (.tmp 24) (.tmp 27) _ rfl Try.underlying22 info_str zs_str one_pos b16 (by simp [Act.eval]) (by simp [Act.eval]) NA.out (HD.out.keep BA.out) s1.out BA.out.size ?_
                 intro v9 w9 o9 g9 _
                 have d9 := BA.out.grown g9 BA.out.size NA.out.row
                 rw [List.nil_append] at o9)
              | (with_reducible refine step_append_rw (E := encS) rfl (.tmp 24) (.tmp 27) _ rfl Try.underlying22 info_str zs_str one_pos b16 (by simp [Act.eval]) (by simp [Act.eval]) NAB.out (HD.out.keep BAB.out) s1.out BAB.out.size ?_
                 intro v9 w9 o9 g9 _
                 have d9 := BAB.out.grown g9 BAB.out.size NAB.out.row
                 have x9 := one_kept (g := wr.heap.size + 1) (p := wr.heap.size) XAB.out g9 (by omega)
                 rw [List.nil_append] at o9)
              | (with_reducible refine step_append_rw (E := encS) rfl (.tmp 24) (.tmp 27) _ rfl Try.underlying22 info_str zs_str one_pos b16 (by simp [Act.eval]) (by simp [Act.eval]) NBA.out (HD.out.keep BBA.out) s1.out BBA.out.size ?_
                 intro v9 w9 o9 g9 _
                 have d9 := BBA.out.grown g9 BBA.out.size NBA.out.row
                 have x9 := one_kept (g := wr.heap.size) (p := wr.heap.size + 1) XBA.out g9 (by omega)
                 rw [List.nil_append] at o9)
              | (with_reducible refine step_append_rw (E := encS) rfl (.tmp 28) (.tmp 30) _ rfl Try.underlying22 info_str zs_str one_pos b16 (by simp [Act.eval]) (by simp [Act.eval]) o9 x9 s2.out d9.size ?_
                 intro v12 w12 o12 g12 _
                 have d12 := d9.grown g12 d9.size o9.row)
              | (with_reducible refine step_append_rw (E := encS) rfl (.tmp 28) (.tmp 30) _ rfl Try.underlying22 info_str zs_str one_pos b16 (by simp [Act.eval]) (by simp [Act.eval]) (o9.below (below_a1 w9 _)) (one_new w9 s) s2.out (d9.alloc d9.size _).size ?_
                 intro v12 w12 o12 g12 _
                 have d12 := (d9.alloc d9.size _).grown g12 (d9.alloc d9.size _).size o9.row)
              | (with_reducible refine step_append_rw (E := encS) rfl (.tmp 31) (.tmp 34) _ rfl Try.underlying22 info_str zs_str one_pos b16 (by simp [Act.eval]) (by simp [Act.eval]) o12 (HR.out.keep d12) s3.out d12.size ?_
                 intro v16 w16 o16 g16 _
                 have d16 := d12.grown g16 d12.size o12.row))
          all_goals (go_wp2_with fail; go_ret; exact ⟨_, rfl, by rw [HA.out]; exact o16.rw, d16⟩)
        · have hr0 := HRw.out.rest k hkk hck
          rw [HL.out] at hr0
          have HR := Lib.hid hr0
          clear hr0
          generalize List.take k l = Ta at *
          generalize List.drop k l = Tb at *
          go_wp2_with fail
          go_region_held3 (fun w' => Below wr.heap.size wr w')
            (first | exact (Below.refl _ _).drew | exact BA.out | exact BB.out | exact BAB.out | exact BBA.out | exact d9 | exact (d9.alloc d9.size _) | exact d12 | exact d16)
            (first
              | (with_reducible refine step_append_rw (E := encS) rfl (.tmp 24) (.tmp 27) _ rfl Try.underlying22 info_str zs_str one_pos b16 (by simp [Act.eval]) (by simp [Act.eval]) NA.out (HD.out.keep BA.out) s1.out BA.out.size ?_
                 intro v9 w9 o9 g9 _
                 have d9 := BA.out.grown g9 BA.out.size NA.out.row
                 rw [List.nil_append] at o9)
              | (with_reducible refine step_append_rw (E := encS) rfl (.tmp 24) (.tmp 27) _ rfl Try.underlying22 info_str zs_str one_pos b16 (by simp [Act.eval]) (by simp [Act.eval]) NAB.out (HD.out.keep BAB.out) s1.out BAB.out.size ?_
                 intro v9 w9 o9 g9 _
                 have d9 := BAB.out.grown g9 BAB.out.size NAB.out.row
                 have x9 := one_kept (g := wr.heap.size + 1) (p := wr.heap.size) XAB.out g9 (by omega)
                 rw [List.nil_append] at o9)
              | (with_reducible refine step_append_rw (E := encS) rfl (.tmp 24) (.tmp 27) _ rfl Try.underlying22 info_str zs_str one_pos b16 (by simp [Act.eval]) (by simp [Act.eval]) NBA.out (HD.out.keep BBA.out) s1.out BBA.out.size ?_
                 intro v9 w9 o9 g9 _
                 have d9 := BBA.out.grown g9 BBA.out.size NBA.out.row
                 have x9 := one_kept (g := wr.heap.size) (p := wr.heap.size + 1) XBA.out g9 (by omega)
                 rw [List.nil_append] at o9)
              | (with_reducible refine step_append_rw (E := encS) rfl (.tmp 28) (.tmp 30) _ rfl Try.underlying22 info_str zs_str one_pos b16 (by simp [Act.eval]) (by simp [Act.eval]) o9 x9 s2.out d9.size ?_
                 intro v12 w12 o12 g12 _
                 have d12 := d9.grown g12 d9.size o9.row)
              | (with_reducible refine step_append_rw (E := encS) rfl (.tmp 28) (.tmp 30) _ rfl Try.underlying22 info_str zs_str one_pos b16 (by simp [Act.eval]) (by simp [Act.eval]) (o9.below (below_a1 w9 _)) (one_new w9 s) s2.out (d9.alloc d9.size _).size ?_
                 intro v12 w12 o12 g12 _
                 have d12 := (d9.alloc d9.size _).grown g12 (d9.alloc d9.size _).size o9.row)
              | (with_reducible refine step_append_rw (E := encS) rfl (.tmp 31) (.tmp 34) _ rfl Try.underlying22 info_str zs_str one_pos b16 (by simp [Act.eval]) (by simp [Act.eval]) o12 (HR.out.keep d12) s3.out d12.size ?_
                 intro v16 w16 o16 g16 _
                 have d16 := d12.grown g16 d12.size o12.row))
          all_goals (go_wp2_with fail; go_ret; exact ⟨_, rfl, by rw [HA.out]; exact o16.rw, d16⟩)
  · have HIN := Lib.hid (addB_one_in l s hin)
    have HT := Lib.hid hT
    rw [hin] at C
    clear hin hT
    go_enter Try.func50, Try.ntmps50
    go_wp2_with fail
    (with_reducible refine C.out.mono ?_); rintro e w2 ⟨rfl, rfl⟩
    go_wp2_with fail
    go_ret
    exact ⟨_, rfl, by rw [HIN.out]; exact HT.out, Below.refl _ _⟩
set_option maxHeartbeats 4000000 in
theorem rnames_o (kind : Int) (hkb : (kind == 4) = false) (nm : ByteArray) (vl : Vl) (ao : Option Addr) (L cap : Nat) (kids : List Ex) (xs : List Xc) (w : World) (v : Value) (l : List ByteArray) (hL : kids.length = L) (hr : RwX w (.slice ao L cap) xs) (hk : Txs w kids xs) (hO : RwS w v l) (hn : l.length + (namesTL kids).length ≤ 1000)
    (ih : ∀ t ∈ kids, ∀ (x : Xc) (w : World) (v : Value) (l : List ByteArray), Tx w t x → RwS w v l → l.length + (namesT t).length ≤ 1000 → Calls Try.prog 34 #[xv x, v] w fun e w' => ∃ u, e = .returned u ∧ RwS w' u (addB l (namesT t)) ∧ Below w.heap.size w w') :
    Calls Try.prog 34 #[.agg #[.int .i64 kind, .string nm, .int .i64 vl.k, .int .i64 vl.n, .float .f64 vl.f, .string vl.s, .slice ao L cap], v] w fun e w' => ∃ u, e = .returned u ∧ RwS w' u (addB l (namesTL kids)) ∧ Below w.heap.size w w' := by
  have c0 := below_a1 w (.cells #[.int .i64 kind, .string nm, .int .i64 vl.k, .int .i64 vl.n, .float .f64 vl.f, .string vl.s, .slice ao L cap] 28)
  have Lz := lies7_new w ⟨kind, nm, vl, ao, L, cap⟩ 28 #[.int .i64 kind, .string nm, .int .i64 vl.k, .int .i64 vl.n, .float .f64 vl.f, .string vl.s, .slice ao L cap] rfl
  have LZ := Lib.hid Lz
  have HR := Lib.hid hr
  have HKK := Lib.hid hk
  have IH := Lib.hid ih
  have HL := Lib.hid hL
  have hLm : xs.length = L ∧ L ≤ 9223372036854775807 := by obtain ⟨a, c, e, e1, e2, -⟩ := hr; cases e; simp only [maxLen] at e2; exact ⟨rfl, by omega⟩
  have HX := Lib.hid hLm.1
  have hLm2 := hLm.2
  have B0 := Lib.hid c0
  have HN := Lib.hid hn
  have OA := Lib.hid (hO.keep c0)
  have BA := Lib.hid (And.intro c0 (Below.refl (w.alloc (.cells #[.int .i64 kind, .string nm, .int .i64 vl.k, .int .i64 vl.n, .float .f64 vl.f, .string vl.s, .slice ao L cap] 28)).heap.size (w.alloc (.cells #[.int .i64 kind, .string nm, .int .i64 vl.k, .int .i64 vl.n, .float .f64 vl.f, .string vl.s, .slice ao L cap] 28))))
  clear hr hk ih hL hn hLm hO c0 Lz
  go_enter Try.func34, Try.ntmps34
  go_wp2_with fail
  go_loopg [1, 5] L (fun g s1 s5 wr => ∃ (i : Nat), g + i = L ∧ s5 = .int .i64 i ∧ RwS wr s1 (addB l (namesTL (kids.take i))) ∧ Below w.heap.size w wr ∧ Below (w.alloc (.cells #[.int .i64 kind, .string nm, .int .i64 vl.k, .int .i64 vl.n, .float .f64 vl.f, .string vl.s, .slice ao L cap] 28)).heap.size (w.alloc (.cells #[.int .i64 kind, .string nm, .int .i64 vl.k, .int .i64 vl.n, .float .f64 vl.f, .string vl.s, .slice ao L cap] 28)) wr)
  case atStart => exact ⟨0, rfl, rfl, by rw [List.take_zero, namesTL, addB_nil]; exact OA.out, BA.out.1, BA.out.2⟩
  case round =>
    obtain ⟨i, hg, rfl, hOi, hb, hbx⟩ := hrel
    have ⟨y0, y1, y2, y3, y4, y5, y6⟩ := (LZ.out.keep hbx).at
    by_cases hlt : i < L
    · have ii : (i : Int) < (L : Int) := by omega
      have hi : i < kids.length := by rw [HL.out]; exact hlt
      have hix : i < xs.length := by rw [HX.out]; exact hlt
      have hRw := HR.out.keep hb
      have hT : Tx wr kids[i] xs[i] := (HKK.out.2 i hi hix).keep hb
      obtain ⟨ao', cap', he, -, -, -, hc⟩ := hRw
      simp only [Value.slice.injEq] at he
      obtain ⟨rfl, -, rfl⟩ := he
      obtain ⟨b, o, rfl, hcell⟩ := hc i hix
      have z0 := hcell 0 (by decide)
      have z1 := hcell 1 (by decide)
      have z2 := hcell 2 (by decide)
      have z3 := hcell 3 (by decide)
      have z4 := hcell 4 (by decide)
      have z5 := hcell 5 (by decide)
      have z6 := hcell 6 (by decide)
      simp only [encX, List.getElem?_cons_zero, List.getElem?_cons_succ, Nat.add_zero] at z0 z1 z2 z3 z4 z5 z6
      have HF := Lib.hid (namesTL_take kids i hi)
      have hlen : (addB l (namesTL (kids.take i))).length + (namesT kids[i]).length ≤ 1000 := by
        have e := HF.out
        have h1 := addB_len l (namesTL (kids.take i))
        have h2 := namesTL_part kids (i + 1)
        have h3 : (namesTL (kids.take (i + 1))).length = (namesTL (kids.take i)).length + (namesT kids[i]).length := by rw [e, List.length_append]
        have := HN.out
        omega
      have E := Lib.hid (IH.out _ (List.getElem_mem hi) xs[i] wr _ _ hT hOi hlen)
      clear hT hc hcell hlen hOi
      generalize xs[i] = z at *
      go_wp2_with fail
      (with_reducible refine E.out.mono ?_); rintro e w5 ⟨v5, rfl, hO5, hb5⟩
      rw [addB_app, ← HF.out] at hO5
      go_wp2_with fail
      go_roundg (L - (i + 1))
      case rel => exact ⟨i + 1, by omega, by go_num, hO5, Below.chain hb hb5, Below.chain hbx hb5⟩
      case measure => omega
    · obtain rfl : L = i := by omega
      have ii : ¬ ((L : Int) < (L : Int)) := by omega
      have ht : kids.take L = kids := List.take_of_length_le (by rw [HL.out]; exact Nat.le_refl _)
      rw [ht] at hOi
      have HF := Lib.hid hOi
      clear hOi ht
      go_wp2_with fail
      go_ret
      exact ⟨_, rfl, HF.out, hb⟩
set_option maxHeartbeats 4000000 in
theorem rnames_4 (nm : ByteArray) (vl : Vl) (ao : Option Addr) (L cap : Nat) (kids : List Ex) (xs : List Xc) (w : World) (v : Value) (l : List ByteArray) (hL : kids.length = L) (hr : RwX w (.slice ao L cap) xs) (hk : Txs w kids xs) (hO : RwS w v l) (hn : l.length + (([nm] ++ namesTL kids)).length ≤ 1000)
    (ih : ∀ t ∈ kids, ∀ (x : Xc) (w : World) (v : Value) (l : List ByteArray), Tx w t x → RwS w v l → l.length + (namesT t).length ≤ 1000 → Calls Try.prog 34 #[xv x, v] w fun e w' => ∃ u, e = .returned u ∧ RwS w' u (addB l (namesT t)) ∧ Below w.heap.size w w') :
    Calls Try.prog 34 #[.agg #[.int .i64 4, .string nm, .int .i64 vl.k, .int .i64 vl.n, .float .f64 vl.f, .string vl.s, .slice ao L cap], v] w fun e w' => ∃ u, e = .returned u ∧ RwS w' u (addB l (([nm] ++ namesTL kids))) ∧ Below w.heap.size w w' := by
  have c0 := below_a1 w (.cells #[.int .i64 4, .string nm, .int .i64 vl.k, .int .i64 vl.n, .float .f64 vl.f, .string vl.s, .slice ao L cap] 28)
  have Lz := lies7_new w ⟨4, nm, vl, ao, L, cap⟩ 28 #[.int .i64 4, .string nm, .int .i64 vl.k, .int .i64 vl.n, .float .f64 vl.f, .string vl.s, .slice ao L cap] rfl
  have LZ := Lib.hid Lz
  have HR := Lib.hid hr
  have HKK := Lib.hid hk
  have IH := Lib.hid ih
  have HL := Lib.hid hL
  have hLm : xs.length = L ∧ L ≤ 9223372036854775807 := by obtain ⟨a, c, e, e1, e2, -⟩ := hr; cases e; simp only [maxLen] at e2; exact ⟨rfl, by omega⟩
  have HX := Lib.hid hLm.1
  have hLm2 := hLm.2
  have B0 := Lib.hid c0
  have HN := Lib.hid (show (addB l [nm]).length + (namesTL kids).length ≤ 1000 by have := addB_len l [nm]; simp only [List.length_append, List.length_cons, List.length_nil] at *; omega)
  have C := Lib.hid (with6_any l nm v _ (hO.keep c0) (by omega))
  clear hr hk ih hL hn hLm hO c0 Lz
  go_enter Try.func34, Try.ntmps34
  go_wp2_with fail
  (with_reducible refine C.out.mono ?_); rintro e w2 ⟨u, rfl, hO2, hb2⟩
  have ⟨y0, y1, y2, y3, y4, y5, y6⟩ := (LZ.out.keep hb2).at
  have OA := Lib.hid hO2
  have BA := Lib.hid (And.intro (Below.chain B0.out hb2) hb2)
  clear hO2 hb2 y0 y1 y2 y3 y4 y5 y6
  go_wp2_with fail
  go_loopg [1, 5] L (fun g s1 s5 wr => ∃ (i : Nat), g + i = L ∧ s5 = .int .i64 i ∧ RwS wr s1 (addB (addB l [nm]) (namesTL (kids.take i))) ∧ Below w.heap.size w wr ∧ Below (w.alloc (.cells #[.int .i64 4, .string nm, .int .i64 vl.k, .int .i64 vl.n, .float .f64 vl.f, .string vl.s, .slice ao L cap] 28)).heap.size (w.alloc (.cells #[.int .i64 4, .string nm, .int .i64 vl.k, .int .i64 vl.n, .float .f64 vl.f, .string vl.s, .slice ao L cap] 28)) wr)
  case atStart => exact ⟨0, rfl, rfl, by rw [List.take_zero, namesTL, addB_nil]; exact OA.out, BA.out.1, BA.out.2⟩
  case round =>
    obtain ⟨i, hg, rfl, hOi, hb, hbx⟩ := hrel
    have ⟨y0, y1, y2, y3, y4, y5, y6⟩ := (LZ.out.keep hbx).at
    by_cases hlt : i < L
    · have ii : (i : Int) < (L : Int) := by omega
      have hi : i < kids.length := by rw [HL.out]; exact hlt
      have hix : i < xs.length := by rw [HX.out]; exact hlt
      have hRw := HR.out.keep hb
      have hT : Tx wr kids[i] xs[i] := (HKK.out.2 i hi hix).keep hb
      obtain ⟨ao', cap', he, -, -, -, hc⟩ := hRw
      simp only [Value.slice.injEq] at he
      obtain ⟨rfl, -, rfl⟩ := he
      obtain ⟨b, o, rfl, hcell⟩ := hc i hix
      have z0 := hcell 0 (by decide)
      have z1 := hcell 1 (by decide)
      have z2 := hcell 2 (by decide)
      have z3 := hcell 3 (by decide)
      have z4 := hcell 4 (by decide)
      have z5 := hcell 5 (by decide)
      have z6 := hcell 6 (by decide)
      simp only [encX, List.getElem?_cons_zero, List.getElem?_cons_succ, Nat.add_zero] at z0 z1 z2 z3 z4 z5 z6
      have HF := Lib.hid (namesTL_take kids i hi)
      have hlen : (addB (addB l [nm]) (namesTL (kids.take i))).length + (namesT kids[i]).length ≤ 1000 := by
        have e := HF.out
        have h1 := addB_len (addB l [nm]) (namesTL (kids.take i))
        have h2 := namesTL_part kids (i + 1)
        have h3 : (namesTL (kids.take (i + 1))).length = (namesTL (kids.take i)).length + (namesT kids[i]).length := by rw [e, List.length_append]
        have := HN.out
        omega
      have E := Lib.hid (IH.out _ (List.getElem_mem hi) xs[i] wr _ _ hT hOi hlen)
      clear hT hc hcell hlen hOi
      generalize xs[i] = z at *
      go_wp2_with fail
      (with_reducible refine E.out.mono ?_); rintro e w5 ⟨v5, rfl, hO5, hb5⟩
      rw [addB_app, ← HF.out] at hO5
      go_wp2_with fail
      go_roundg (L - (i + 1))
      case rel => exact ⟨i + 1, by omega, by go_num, hO5, Below.chain hb hb5, Below.chain hbx hb5⟩
      case measure => omega
    · obtain rfl : L = i := by omega
      have ii : ¬ ((L : Int) < (L : Int)) := by omega
      have ht : kids.take L = kids := List.take_of_length_le (by rw [HL.out]; exact Nat.le_refl _)
      rw [ht] at hOi
      have HF := Lib.hid hOi
      clear hOi ht
      go_wp2_with fail
      go_ret
      exact ⟨_, rfl, by have := HF.out; rw [addB_app] at this; exact this, hb⟩
theorem rnames_any : ∀ (t : Ex) (x : Xc) (w : World) (v : Value) (l : List ByteArray), Tx w t x → RwS w v l → l.length + (namesT t).length ≤ 1000 → Calls Try.prog 34 #[xv x, v] w fun e w' => ∃ u, e = .returned u ∧ RwS w' u (addB l (namesT t)) ∧ Below w.heap.size w w' := by
  refine fun t => ex_ind (P := fun t => ∀ (x : Xc) (w : World) (v : Value) (l : List ByteArray), Tx w t x → RwS w v l → l.length + (namesT t).length ≤ 1000 → Calls Try.prog 34 #[xv x, v] w fun e w' => ∃ u, e = .returned u ∧ RwS w' u (addB l (namesT t)) ∧ Below w.heap.size w w') ?_ t
  intro kind name vl kids ih x w v l h hO hn
  obtain ⟨rfl, rfl, rfl, hv, xs, hr, hk⟩ := Tx.inv h
  have hL : kids.length = x.len := by
    obtain ⟨a, c, e, -⟩ := hr
    simp only [Value.slice.injEq] at e
    exact hk.1.trans e.2.1.symm
  rw [namesT_node] at hn ⊢
  by_cases k4 : x.kind = 4
  · rw [if_pos k4] at hn ⊢
    have := rnames_4 x.name x.v x.ao x.len x.cap kids xs w v l hL hr hk hO hn ih
    rw [← k4] at this
    exact this
  · rw [if_neg k4, List.nil_append] at hn ⊢
    exact rnames_o x.kind (by simp [k4]) x.name x.v x.ao x.len x.cap kids xs w v l hL hr hk hO hn ih
theorem rNames_core (x : Xc) (w : World) (r : Bool) (l : List ByteArray) (C : ∀ w1, Below w.heap.size w w1 → Calls Try.prog 20 #[xv x] w1 fun e w' => e = .returned (.bool r) ∧ Below w1.heap.size w1 w')
    (D : r = true → ∀ w1, Below w.heap.size w w1 → Calls Try.prog 34 #[xv x, .slice none 0 0] w1 fun e w' => ∃ u, e = .returned u ∧ RwS w' u l ∧ Below w1.heap.size w1 w') (hl : r = false → l = []) :
    Calls Try.prog 16 #[xv x] w fun e w' => ∃ u, e = .returned u ∧ RwS w' u l ∧ Below w.heap.size w w' := by
  have c0 := below_a1 w (.cells (xcs x) 28)
  have Lz := Lib.hid (lies7_new w x 28 (xcs x) rfl)
  have C1 := Lib.hid (C _ c0)
  clear C
  cases r
  · have hl' := hl rfl
    subst hl'
    clear D hl
    go_enter Try.func16, Try.ntmps16
    go_wp2_with fail
    (with_reducible refine C1.out.mono ?_); rintro e w2 ⟨rfl, hb2⟩
    go_wp2_with fail
    go_ret
    exact ⟨_, rfl, Rw.nil _, Below.chain c0 hb2⟩
  · have D1 := Lib.hid fun w2 (hb : Below (w.alloc (.cells (xcs x) 28)).heap.size (w.alloc (.cells (xcs x) 28)) w2) => D rfl w2 (Below.chain c0 hb)
    clear D hl
    go_enter Try.func16, Try.ntmps16
    go_wp2_with fail
    (with_reducible refine C1.out.mono ?_); rintro e w2 ⟨rfl, hb2⟩
    have ⟨y0, y1, y2, y3, y4, y5, y6⟩ := (Lz.out.keep hb2).at
    go_wp2_with fail
    (with_reducible refine (D1.out _ hb2).mono ?_); rintro e w3 ⟨u, rfl, hO, hb3⟩
    go_wp2_with fail
    go_ret
    exact ⟨u, rfl, hO, Below.chain (Below.chain c0 hb2) hb3⟩
theorem rNames_any (t : Ex) (x : Xc) (w : World) (h : Tx w t x) (hn : rightL t = true → (namesT t).length ≤ 1000) :
    Calls Try.prog 16 #[xv x] w fun e w' => ∃ u, e = .returned u ∧ RwS w' u (namesL t) ∧ Below w.heap.size w w' := by
  refine rNames_core x w (rightL t) (namesL t) (fun w1 hb => rright6_any t x w1 (h.keep hb)) (fun hr w1 hb => ?_) (fun hr => namesL_bad hr)
  rw [namesL_ok hr]
  exact rnames_any t x w1 _ [] (h.keep hb) (Rw.nil _) (by simp; exact hn hr)
end Go.Proofs.Ytlnmjbheohkanaa
