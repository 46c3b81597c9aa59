/- The walk of the law PackRows. -/
import Derived.Test.YtcbogapnhabhkaaPY
import Derived.Test.YtcbogapnhabhkaaPL
import Derived.Test.YtcbogapnhabhkaaPLG
namespace Go.Proofs.Ytcbogapnhabhkaa.PackRows
open Go Go.RowKit
set_option linter.unusedVariables false
theorem tl {l : List Nat} {i : Nat} (h : i < l.length) : l[i]? = some l[i] := List.getElem?_eq_getElem h
set_option maxHeartbeats 16000000 in
set_option maxRecDepth 100000 in
theorem walk_core (L : List Nat) (S : List ByteArray) (a1 a2 : Option Addr) (len1 len2 c1 c2 n m : Nat) (w : World) (hL : ∀ x ∈ L, x < 18446744073709551616)
    (hn : min (len1 : Int) 10 = (n : Int)) (hm : min (len2 : Int) 10 = (m : Int)) (hLn : L.length = n) (hSm : S.length = m)
    (hc1 : ∀ j (h : j < L.length), ∃ a, a1 = some a ∧ a.block < w.heap.size ∧ w.cell? (a.add j) = some (.int .u64 (L[j] : Int)))
    (hc2 : ∀ j (h : j < S.length), ∃ a, a2 = some a ∧ a.block < w.heap.size ∧ w.cell? (a.add j) = some (.string S[j])) :
    Calls Try.prog 8 #[.slice a1 len1 c1, .slice a2 len2 c2] w fun e w' => e = .returned (.bool true) ∧ Below w.heap.size w w' := by
  have hsf := run_store_float
  have hfb := run_frombits
  have H1 := Lib.hid hc1
  have H2 := Lib.hid hc2
  have HLn := Lib.hid hLn
  have HSm := Lib.hid hSm
  have n1 : n ≤ len1 := by omega
  have m1 : m ≤ len2 := by omega
  have n10 : n ≤ 10 := by omega
  have m10 : m ≤ 10 := by omega
  have HL := Lib.hid hL
  have hbn := fm_len numB 9 L (fun x hx => numB_le x (hL x hx))
  clear hc1 hc2 hLn hSm hL
  go_enter Try.func8, Try.ntmps8
  go_wp2_with fail
  refine (shown_any _).mono ?_; rintro e w1 ⟨rfl, hb1⟩
  go_wp2_with fail
  go_loopg [8, 9, 10, 11] n (fun g s8 s9 s10 s11 wr => ∃ i : Nat, g + i = n ∧ s10 = .int .i64 i ∧ Bs wr.heap.size wr s8 (bN (L.take i)) ∧ OwnV wr w1.heap.size s9 (vals (L.take i)) ∧ Below w1.heap.size w1 wr)
  case atStart => exact ⟨0, rfl, rfl, (nil_own w1).bs, OwnV.nil _ _, below_a1 _ _⟩
  case round =>
    obtain ⟨i, hg, rfl, hB, hO, hb⟩ := hrel
    by_cases hlt : i < n
    · have hi : i < L.length := by rw [HLn.out]; exact hlt
      obtain ⟨a, rfl, hab, hcell⟩ := H1.out i hi
      have hx := HL.out L[i] (List.getElem_mem hi)
      have hcr : wr.cell? (a.add i) = some (.int .u64 (L[i] : Int)) := ((hb1.trans (hb.mono hb1.size)).cell (by rw [add_block]; exact hab)).trans hcell
      have ii : (i : Int) < (len1 : Int) := by omega
      have in' : (i : Int) < (n : Int) := by omega
      obtain ⟨ab, cb, rfl⟩ := hB.shape
      obtain ⟨av, cv, rfl⟩ := hO.shape
      have hlb : (bN (L.take i)).length ≤ 500000 := by
        have := fm_len numB 9 (L.take i) (fun x hx => numB_le x (HL.out x (List.mem_of_mem_take hx)))
        have h2 : (L.take i).length ≤ 10 := by simp; omega
        unfold bN; omega
      have P := Lib.hid (put_any _ _ L[i] hx hlb _ hB)
      have HT1 := Lib.hid (fm_take numB L i hi)
      have HT2 := Lib.hid (fm_take valsOf L i hi)
      have hse := Flt.ord_self hx
      clear hlb hB
      cases hnan : Flt.isNan L[i]
      · have hfz : fz L[i] = L[i] := by unfold fz; rw [hnan]; rfl
        rw [hnan] at hse
        have HY := Lib.hid (show vcells (valsOf L[i]) = (#[.int .i64 2, .int .i64 (wrap64 (L[i] : Int)), .float .f64 0, .string ⟨#[]⟩, .int .i64 3, .int .i64 0, .float .f64 L[i], .string ⟨#[]⟩] : Array Value).toList by simp [vcells, valsOf, hfz])
        clear hnan hfz
        go_wp2_with fail
        refine P.out.mono ?_; rintro e w2 ⟨v2, rfl, hO2, hb2⟩
        have hcr2 : w2.cell? (a.add i) = some (.int .u64 (L[i] : Int)) := (hb2.cell (by rw [add_block]; have := hb1.size; have := hb.size; omega)).trans hcr
        have hV2 := hO.below hb2
        have hlit := World.ownsRow_lit (base := w2.heap.size) (e := 29) (size := 4) w2 #[.int .i64 2, .int .i64 (wrap64 (L[i] : Int)), .float .f64 0, .string ⟨#[]⟩, .int .i64 3, .int .i64 0, .float .f64 L[i], .string ⟨#[]⟩] 2 (Nat.le_refl _) (by simp only [maxLen]; omega) rfl
        have hcl : ∀ j u, (vcells (valsOf L[i]))[j]? = some u → _ := fun j u hj => hlit.cells (g := w2.heap.size) rfl j u (by rw [HY.out] at hj; exact hj)
        have Hcl := Lib.hid hcl
        have ca := below_a1 w2 (.cells #[.int .i64 2, .int .i64 (wrap64 (L[i] : Int)), .float .f64 0, .string ⟨#[]⟩, .int .i64 3, .int .i64 0, .float .f64 L[i], .string ⟨#[]⟩] 29)
        have hV3 := hV2.below ca
        have hO3 := hO2.below ca
        have hz1 := hb.size
        have hz2 := hb2.size
        have hz3 : w1.heap.size ≤ (w2.alloc (.cells #[.int .i64 2, .int .i64 (wrap64 (L[i] : Int)), .float .f64 0, .string ⟨#[]⟩, .int .i64 3, .int .i64 0, .float .f64 L[i], .string ⟨#[]⟩] 29)).heap.size := by simp; omega
        have hl2 : (vals (L.take i)).length + (valsOf L[i]).length ≤ 1000000 := by rw [vals_len]; simp [valsOf]; omega
        clear hcl hlit
        go_wp2_with (at_builtin; refine wpList_append_v (Y := valsOf L[i]) rfl _ _ rfl rfl rfl hV3 Hcl.out hl2 hz3 ?_; intro v3 w3 hO4 hg3)
        have ck := hO3.kept hg3 (fun k hk => (World.ownsRow.lt hO k hk).2)
        have cb := ((Below.chain hb (Below.chain hb2 ca)).grown hg3 hz3 hV3.row)
        go_roundg (n - (i + 1))
        case rel => exact ⟨i + 1, by omega, by go_num, by unfold bN; rw [HT1.out]; exact ck.bs, by unfold vals; rw [HT2.out]; exact hO4, cb⟩
        case measure => omega
      · have hfz : fz L[i] = 0 := by unfold fz; rw [hnan]; rfl
        rw [hnan] at hse
        have HY := Lib.hid (show vcells (valsOf L[i]) = (#[.int .i64 2, .int .i64 (wrap64 (L[i] : Int)), .float .f64 0, .string ⟨#[]⟩, .int .i64 3, .int .i64 0, .float .f64 0, .string ⟨#[]⟩] : Array Value).toList by simp [vcells, valsOf, hfz])
        clear hnan hfz
        go_wp2_with fail
        refine P.out.mono ?_; rintro e w2 ⟨v2, rfl, hO2, hb2⟩
        have hcr2 : w2.cell? (a.add i) = some (.int .u64 (L[i] : Int)) := (hb2.cell (by rw [add_block]; have := hb1.size; have := hb.size; omega)).trans hcr
        have hV2 := hO.below hb2
        have hlit := World.ownsRow_lit (base := w2.heap.size) (e := 29) (size := 4) w2 #[.int .i64 2, .int .i64 (wrap64 (L[i] : Int)), .float .f64 0, .string ⟨#[]⟩, .int .i64 3, .int .i64 0, .float .f64 0, .string ⟨#[]⟩] 2 (Nat.le_refl _) (by simp only [maxLen]; omega) rfl
        have hcl : ∀ j u, (vcells (valsOf L[i]))[j]? = some u → _ := fun j u hj => hlit.cells (g := w2.heap.size) rfl j u (by rw [HY.out] at hj; exact hj)
        have Hcl := Lib.hid hcl
        have ca := below_a1 w2 (.cells #[.int .i64 2, .int .i64 (wrap64 (L[i] : Int)), .float .f64 0, .string ⟨#[]⟩, .int .i64 3, .int .i64 0, .float .f64 0, .string ⟨#[]⟩] 29)
        have hV3 := hV2.below ca
        have hO3 := hO2.below ca
        have hz1 := hb.size
        have hz2 := hb2.size
        have hz3 : w1.heap.size ≤ (w2.alloc (.cells #[.int .i64 2, .int .i64 (wrap64 (L[i] : Int)), .float .f64 0, .string ⟨#[]⟩, .int .i64 3, .int .i64 0, .float .f64 0, .string ⟨#[]⟩] 29)).heap.size := by simp; omega
        have hl2 : (vals (L.take i)).length + (valsOf L[i]).length ≤ 1000000 := by rw [vals_len]; simp [valsOf]; omega
        clear hcl hlit
        go_wp2_with (at_builtin; refine wpList_append_v (Y := valsOf L[i]) rfl _ _ rfl rfl rfl hV3 Hcl.out hl2 hz3 ?_; intro v3 w3 hO4 hg3)
        have ck := hO3.kept hg3 (fun k hk => (World.ownsRow.lt hO k hk).2)
        have cb := ((Below.chain hb (Below.chain hb2 ca)).grown hg3 hz3 hV3.row)
        go_roundg (n - (i + 1))
        case rel => exact ⟨i + 1, by omega, by go_num, by unfold bN; rw [HT1.out]; exact ck.bs, by unfold vals; rw [HT2.out]; exact hO4, cb⟩
        case measure => omega
    · obtain rfl : n = i := by omega
      rename World => wA
      rw [List.take_of_length_le (by rw [HLn.out]; exact Nat.le_refl _)] at hB hO
      have hbn' : (bN L).length ≤ 90 := by have := HLn.out; unfold bN; omega
      have cw := Below.chain hb1 hb
      have hrv := vals_rv L HL.out
      have hxl := vals_len L
      rw [HLn.out] at hxl
      have HRV := Lib.hid hrv
      have HXL := Lib.hid hxl
      have hX20 : (vals L).length ≤ 20 := by omega
      clear hrv hxl hbn hb1 hb hg
      generalize vals L = X at *
      go_wp2_with fail
      go_loopg [8, 12] m (fun g s8 s12 wx => ∃ j : Nat, g + j = m ∧ s12 = .int .i64 j ∧ Bs wx.heap.size wx s8 (bN L ++ bS (S.take j)) ∧ Below wA.heap.size wA wx)
      case atStart => exact ⟨0, rfl, rfl, by simpa [bS] using hB, Below.refl _ _⟩
      case round =>
        clear hB hlt
        obtain ⟨j, hg, rfl, hB, hb⟩ := hrel
        by_cases hlt : j < m
        · have hj : j < S.length := by rw [HSm.out]; exact hlt
          obtain ⟨a, rfl, hab, hcell⟩ := H2.out j hj
          have hz := cw.size
          have hcr : (World.drew wr).cell? (a.add j) = some (.string S[j]) := ((Below.chain cw hb).drew.cell (by rw [add_block]; exact hab)).trans hcell
          have jj : (j : Int) < (len2 : Int) := by omega
          have jm : (j : Int) < (m : Int) := by omega
          obtain ⟨mm, hmm⟩ : ∃ mm, mm = min S[j].size 100 := ⟨_, rfl⟩
          have hmI : min (S[j].size : Int) 100 = (mm : Int) := by omega
          have hmS : (mm : Int) ≤ (S[j].size : Int) := by omega
          have hlb : (bN L ++ bS (S.take j)).length ≤ 500000 := by
            have := fm_len tB 109 (S.take j) (fun x _ => tB_len x)
            have h2 : (S.take j).length ≤ 10 := by simp; omega
            rw [List.length_append]; unfold bS; omega
          generalize hBe : bN L ++ bS (S.take j) = BB at hB hlb
          have HBe := Lib.hid hBe
          clear hBe
          have hct : cutT S[j] = (S[j].extract 0 mm).data.toList := by unfold cutT; rw [← hmm]
          have hsz : (S[j].extract 0 mm).size ≤ 400000 := by simp; omega
          have P := Lib.hid (puttext_any _ _ (S[j].extract 0 mm) hsz hlb (World.drew wr) (hB.below (Below.refl _ _).drew))
          rw [← hct] at P
          have HT1 := Lib.hid (fm_take tB S j hj)
          obtain ⟨ab, cb, rfl⟩ := hB.shape
          clear hlb hsz hct hmm hB
          go_wp2_with fail
          refine wp_region_tail 12 (by kernel_rfl) (by kernel_rfl) ?_
          simp only [List.take_succ_cons, List.take_zero, List.drop_succ_cons, List.drop_zero]
          repeat still_step
          refine wpStill_nil ?_
          go_wp2_with fail
          (with_reducible refine P.out.mono ?_); rintro e w2 ⟨v2, rfl, hO2, hb2⟩
          go_wp2_with fail
          go_roundg (m - (j + 1))
          case rel => exact ⟨j + 1, by omega, by go_num, by unfold bS; rw [HT1.out, ← List.append_assoc]; have e := HBe.out; unfold bS at e; rw [e]; exact hO2.bs, Below.chain hb.drew hb2⟩
          case measure => omega
        · obtain rfl : m = j := by omega
          rename World => wB
          rw [List.take_of_length_le (by rw [HSm.out]; exact Nat.le_refl _)] at hB
          have hbs' : (bN L ++ bS S).length ≤ 1180 := by
            have := fm_len tB 109 S (fun x _ => tB_len x)
            have := HSm.out
            rw [List.length_append]; unfold bS; omega
          have hV := hO.below hb
          have cx := Below.chain cw hb
          clear hO cw hb hg hlt
          generalize hB1 : bN L ++ bS S = B1 at *
          have HB1 := Lib.hid hB1
          clear hB1
          go_wp2_with fail
          go_loopg [8, 13, 14, 15] X.length (fun g s8 s13 s14 s15 wy => ∃ j : Nat, g + j = X.length ∧ s13 = .int .i64 j ∧ Bs wy.heap.size wy s8 (B1 ++ bV (X.take j)) ∧ Below wB.heap.size wB wy)
          case atStart => exact ⟨0, rfl, rfl, by simpa [bV] using hB, Below.refl _ _⟩
          case round =>
            clear hB
            obtain ⟨j, hg, rfl, hB, hb⟩ := hrel
            obtain ⟨av, cv, rfl⟩ := hV.shape
            by_cases hlt : j < X.length
            · have hV' := hV.below hb
              obtain ⟨g, rfl, x0, x1, x2, x3⟩ := hV'.at j hlt
              have hx := HRV.out X[j] (List.getElem_mem hlt)
              obtain ⟨hr, hs0⟩ := hx
              have hlb : (B1 ++ bV (X.take j)).length ≤ 500000 := by
                have := fm_len V4.row 10 (X.take j) (fun x hx => row_short x (HRV.out x (List.mem_of_mem_take hx)).1 (HRV.out x (List.mem_of_mem_take hx)).2)
                have h2 : (X.take j).length ≤ 20 := by simp; omega
                rw [List.length_append]; unfold bV; omega
              generalize hBe : B1 ++ bV (X.take j) = BB at hB hlb
              have HBe := Lib.hid hBe
              clear hBe
              have P := Lib.hid (putval_ok _ _ X[j].k X[j].n X[j].f ⟨X[j].s.toArray⟩ hr.right hr.n1 hr.n2 hr.f (by rw [hs0]; decide) hlb wr hB)
              have HT1 := Lib.hid (fm_take V4.row X j hlt)
              obtain ⟨ab, cb, rfl⟩ := hB.shape
              have jj : (j : Int) < (X.length : Int) := by omega
              clear hlb hs0 hr hB
              go_wp2_with fail
              (with_reducible refine P.out.mono ?_); rintro e w2 ⟨v2, rfl, hO2, hb2⟩
              go_wp2_with fail
              go_roundg (X.length - (j + 1))
              case rel => exact ⟨j + 1, by omega, by go_num, by unfold bV; rw [HT1.out, ← List.append_assoc]; have e := HBe.out; unfold bV at e; rw [e]; exact hO2.bs, Below.chain hb hb2⟩
              case measure => omega
            · obtain rfl : j = X.length := by omega
              rw [List.take_length] at hB
              rename World => wC
              have hV := hV.below hb
              have cy := Below.chain cx hb
              have hl4 : (B1 ++ bV X).length ≤ 500000 := by
                have := fm_len V4.row 10 X (fun x hx => row_short x (HRV.out x hx).1 (HRV.out x hx).2)
                rw [List.length_append]; unfold bV; omega
              rw [← HB1.out, List.append_assoc] at hB hl4
              obtain ⟨R1, hR1⟩ : ∃ R, R = bS S ++ bV X := ⟨_, rfl⟩
              rw [← hR1] at hB hl4
              have HR1 := Lib.hid hR1
              clear hR1 HB1 hb hg hlt cx hbs'
              go_wp2_with fail
              go_loopg [8, 16, 17, 18, 19] n (fun g s8 s16 s17 s18 s19 wz => ∃ j : Nat, g + j = n ∧ s16 = .int .i64 j ∧ Bs wz.heap.size wz s8 (bN (L.drop j) ++ R1) ∧ Below wC.heap.size wC wz)
              case atStart => exact ⟨0, rfl, rfl, by simpa using hB, Below.refl _ _⟩
              case round =>
                clear hB
                obtain ⟨j, hg, rfl, hB, hb⟩ := hrel
                by_cases hlt : j < n
                · have hj : j < L.length := by rw [HLn.out]; exact hlt
                  obtain ⟨a, rfl, hab, hcell⟩ := H1.out j hj
                  have hx := HL.out L[j] (List.getElem_mem hj)
                  have cc := Below.chain cy hb
                  have jj : (j : Int) < (len1 : Int) := by omega
                  have jn : (j : Int) < (n : Int) := by omega
                  have hd := fm_drop numB L j hj
                  unfold bN at hB
                  rw [hd, List.append_assoc] at hB
                  obtain ⟨ab, cb, rfl⟩ := hB.shape
                  have hlen : (numB L[j] ++ (List.flatMap numB (L.drop (j + 1)) ++ R1)).length ≤ 1000000 := by
                    have h9 := fm_len numB 9 (L.drop (j + 1)) (fun x hx => numB_le x (HL.out x (List.mem_of_mem_drop hx)))
                    have h2 : (L.drop (j + 1)).length ≤ 10 := by rw [List.length_drop, HLn.out]; omega
                    have h3 := numB_le L[j] hx
                    simp only [List.length_append] at hl4 ⊢; omega
                  have G := Lib.hid (get_any _ _ wr hB hlen)
                  rw [get_back L[j] hx] at G
                  have hsl := hB.sliced (numB L[j]).length _ cb (by rw [List.length_append]; omega) (Nat.le_refl _) hB.cap.1 (Nat.le_refl _)
                  rw [List.take_length, List.drop_left] at hsl
                  have HSL := Lib.hid hsl
                  have kl : ((numB L[j]).length : Int) ≤ ((numB L[j] ++ (List.flatMap numB (L.drop (j + 1)) ++ R1)).length : Int) := by rw [List.length_append]; omega
                  have kc := hB.cap.1
                  clear hsl hB hd hlen
                  generalize (numB L[j] ++ (List.flatMap numB (L.drop (j + 1)) ++ R1)).length = LB at *
                  generalize (numB L[j]).length = K at *
                  go_wp2_with fail
                  (with_reducible refine G.out.mono ?_); rintro e w2 ⟨rfl, hb2⟩
                  have hcr : w2.cell? (a.add j) = some (.int .u64 (L[j] : Int)) := ((Below.chain cc hb2).cell (by rw [add_block]; exact hab)).trans hcell
                  go_wp2_with fail
                  all_goals
                    go_roundg (n - (j + 1))
                    case rel =>
                      refine ⟨j + 1, by omega, by go_num, ?_, Below.chain hb hb2⟩
                      have hs := (HSL.out.below hb2).size
                      unfold Go.sliced at hs
                      first
                        | (rw [if_neg ‹¬ cb = K›, Nat.mul_one] at hs; exact hs)
                        | (have hk := ‹cb = K›; rw [if_pos hk, hk, Nat.sub_self] at hs; exact hs)
                    case measure => omega
                · obtain rfl : n = j := by omega
                  rw [List.drop_of_length_le (by rw [HLn.out]; exact Nat.le_refl _)] at hB
                  have e0 : bN [] ++ R1 = R1 := by simp [bN]
                  rw [e0] at hB
                  rename World => wD
                  have hV := hV.below hb
                  have cz := Below.chain cy hb
                  have hl5 : R1.length ≤ 500000 := by rw [List.length_append] at hl4; omega
                  rw [HR1.out] at hB hl5
                  clear e0 HR1 hb hg hlt cy hl4
                  go_wp2_with fail
                  go_loopg [8, 20, 21, 22, 23] m (fun g s8 s20 s21 s22 s23 wz => ∃ j : Nat, g + j = m ∧ s20 = .int .i64 j ∧ Bs wz.heap.size wz s8 (bS (S.drop j) ++ bV X) ∧ Below wD.heap.size wD wz)
                  case atStart => exact ⟨0, rfl, rfl, by simpa using hB, Below.refl _ _⟩
                  case round =>
                    clear hB
                    obtain ⟨j, hg, rfl, hB, hb⟩ := hrel
                    by_cases hlt : j < m
                    · have hj : j < S.length := by rw [HSm.out]; exact hlt
                      obtain ⟨a, rfl, hab, hcell⟩ := H2.out j hj
                      have cc := Below.chain cz hb
                      have jj : (j : Int) < (len2 : Int) := by omega
                      have jn : (j : Int) < (m : Int) := by omega
                      obtain ⟨mm, hmm⟩ : ∃ mm, mm = min S[j].size 100 := ⟨_, rfl⟩
                      have hmI : min (S[j].size : Int) 100 = (mm : Int) := by omega
                      have hmS : (mm : Int) ≤ (S[j].size : Int) := by omega
                      have hct : cutT S[j] = (S[j].extract 0 mm).data.toList := by unfold cutT; rw [← hmm]
                      have hd := fm_drop tB S j hj
                      unfold bS at hB
                      rw [hd, List.append_assoc] at hB
                      obtain ⟨ab, cb, rfl⟩ := hB.shape
                      have hlen : (tB S[j] ++ (List.flatMap tB (S.drop (j + 1)) ++ bV X)).length ≤ 1000000 := by
                        have h9 := fm_len tB 109 (S.drop (j + 1)) (fun x _ => tB_len x)
                        have h2 : (S.drop (j + 1)).length ≤ 10 := by rw [List.length_drop, HSm.out]; omega
                        have h3 := tB_len S[j]
                        simp only [List.length_append] at hl5 ⊢; omega
                      have hc100 := cutT_len S[j]
                      have G := Lib.hid (gtext_any _ _ wr hB hlen)
                      have tb := text_back (cutT S[j]) (List.flatMap tB (S.drop (j + 1)) ++ bV X) (by omega)
                      rw [show textB (cutT S[j]) = tB S[j] from rfl] at tb
                      rw [tb, hct, bytes_eta] at G
                      have hsl := hB.sliced (tB S[j]).length _ cb (by rw [List.length_append]; omega) (Nat.le_refl _) hB.cap.1 (Nat.le_refl _)
                      rw [List.take_length, List.drop_left] at hsl
                      have HSL := Lib.hid hsl
                      have kl : ((tB S[j]).length : Int) ≤ ((tB S[j] ++ (List.flatMap tB (S.drop (j + 1)) ++ bV X)).length : Int) := by rw [List.length_append]; omega
                      have kc := hB.cap.1
                      clear hsl hB hd hlen hct hmm tb
                      generalize (tB S[j] ++ (List.flatMap tB (S.drop (j + 1)) ++ bV X)).length = LB at *
                      generalize (tB S[j]).length = K at *
                      go_wp2_with fail
                      (with_reducible refine G.out.mono ?_); rintro e w2 ⟨rfl, hb2⟩
                      have hcr : (World.drew w2).cell? (a.add j) = some (.string S[j]) := ((Below.chain cc hb2).drew.cell (by rw [add_block]; exact hab)).trans hcell
                      go_wp2_with fail
                      refine wp_region_tail 16 (by kernel_rfl) (by kernel_rfl) ?_
                      simp only [List.take_succ_cons, List.take_zero, List.drop_succ_cons, List.drop_zero]
                      repeat still_step
                      refine wpStill_nil ?_
                      go_wp2_with fail
                      all_goals
                        go_roundg (m - (j + 1))
                        case rel =>
                          refine ⟨j + 1, by omega, by go_num, ?_, (Below.chain hb hb2).drew⟩
                          have hs := (HSL.out.below hb2.drew).size
                          unfold Go.sliced at hs
                          first
                            | (rw [if_neg ‹¬ cb = K›, Nat.mul_one] at hs; exact hs)
                            | (have hk := ‹cb = K›; rw [if_pos hk, hk, Nat.sub_self] at hs; exact hs)
                        case measure => omega
                    · obtain rfl : m = j := by omega
                      rw [List.drop_of_length_le (by rw [HSm.out]; exact Nat.le_refl _)] at hB
                      have e0 : bS [] ++ bV X = bV X := by simp [bS]
                      rw [e0] at hB
                      rename World => wE
                      have hV := hV.below hb
                      have cu := Below.chain cz hb
                      clear e0 hb hg hlt cz hl5
                      go_wp2_with fail
                      go_loopg [8, 24, 25, 26, 27] X.length (fun g s8 s24 s25 s26 s27 wz => ∃ j : Nat, g + j = X.length ∧ s24 = .int .i64 j ∧ Bs wz.heap.size wz s8 (bV (X.drop j)) ∧ Below wE.heap.size wE wz)
                      case atStart => exact ⟨0, by omega, rfl, by simpa using hB, Below.refl _ _⟩
                      case round =>
                        clear hB
                        obtain ⟨j, hg, rfl, hB, hb⟩ := hrel
                        by_cases hlt : j < X.length
                        · have cc := Below.chain cu hb
                          have hV' := hV.below hb
                          have hV'' := hV'
                          obtain ⟨g, rfl, -, -, -, -⟩ := hV''.at j hlt
                          obtain ⟨hr, hs0⟩ := HRV.out X[j] (List.getElem_mem hlt)
                          have jj : (j : Int) < (X.length : Int) := by omega
                          have hd := fm_drop V4.row X j hlt
                          unfold bV at hB
                          rw [hd] at hB
                          obtain ⟨ab, cb, rfl⟩ := hB.shape
                          have hlen : (X[j].row ++ List.flatMap V4.row (X.drop (j + 1))).length ≤ 1000000 := by
                            have h9 := fm_len V4.row 10 (X.drop (j + 1)) (fun x hx => row_short x (HRV.out x (List.mem_of_mem_drop hx)).1 (HRV.out x (List.mem_of_mem_drop hx)).2)
                            have h2 : (X.drop (j + 1)).length ≤ 20 := by rw [List.length_drop]; omega
                            have h3 := row_short X[j] hr hs0
                            simp only [List.length_append]; omega
                          have G := Lib.hid (gval_any _ _ wr hB hlen)
                          rw [val_back X[j] hr] at G
                          have hsl := hB.sliced X[j].row.length _ cb (by rw [List.length_append]; omega) (Nat.le_refl _) hB.cap.1 (Nat.le_refl _)
                          rw [List.take_length, List.drop_left] at hsl
                          have HSL := Lib.hid hsl
                          have kl : (X[j].row.length : Int) ≤ ((X[j].row ++ List.flatMap V4.row (X.drop (j + 1))).length : Int) := by rw [List.length_append]; omega
                          have kc := hB.cap.1
                          have SM := rsame_any X[j].k X[j].n X[j].k X[j].n X[j].f X[j].f hr.f hr.f ⟨X[j].s.toArray⟩ ⟨X[j].s.toArray⟩
                          rw [show idB X[j].k X[j].n (Flt.canon X[j].f) ⟨X[j].s.toArray⟩ X[j].k X[j].n (Flt.canon X[j].f) ⟨X[j].s.toArray⟩ = true by simp [idB]] at SM
                          clear hsl hB hd hlen hs0 hr
                          generalize (X[j].row ++ List.flatMap V4.row (X.drop (j + 1))).length = LB at *
                          generalize X[j].row.length = K at *
                          go_wp2_with fail
                          (with_reducible refine G.out.mono ?_); rintro e w2 ⟨rfl, hb2⟩
                          have l2 := lies_new w2 (.int .i64 X[j].k) (.int .i64 X[j].n) (.float .f64 X[j].f) (.string ⟨X[j].s.toArray⟩) 29
                          have ca := below_a1 w2 (.cells #[.int .i64 X[j].k, .int .i64 X[j].n, .float .f64 X[j].f, .string ⟨X[j].s.toArray⟩] 29)
                          obtain ⟨g', hgg, y0, y1, y2, y3⟩ := (hV'.below (Below.chain hb2 ca)).at j hlt
                          cases hgg
                          have LX := fun x : Later (w2.alloc (.cells #[.int .i64 X[j].k, .int .i64 X[j].n, .float .f64 X[j].f, .string ⟨X[j].s.toArray⟩] 29)) => And.intro (l2.below x.kept) (And.intro (later_cell y0 x) (And.intro (later_cell y1 x) (And.intro (later_cell y2 x) (later_cell y3 x))))
                          unfold Lies at LX
                          have hcb := Below.chain hb (Below.chain hb2 ca)
                          have hcl := Below.chain hb2 ca
                          clear y0 y1 y2 y3 l2 ca hV'
                          go_wp2_with fail
                          refine wp_region_later (by kernel_rfl) (by kernel_rfl) ?_
                          repeat (go_big_quiet_step (first | with_reducible exact later_call (SM _)))
                          refine wpQuiet_nil ?_
                          rintro w' ⟨x, rfl⟩
                          go_wp2_with fail
                          all_goals
                            go_roundg (X.length - (j + 1))
                            case rel =>
                              refine ⟨j + 1, by omega, by go_num, ?_, Below.chain hcb x.kept⟩
                              have hs := (HSL.out.below (Below.chain hcl x.kept)).size
                              unfold Go.sliced at hs
                              first
                                | (rw [if_neg ‹¬ cb = K›, Nat.mul_one] at hs; exact hs)
                                | (have hk := ‹cb = K›; rw [if_pos hk, hk, Nat.sub_self] at hs; exact hs)
                            case measure => omega
                        · obtain rfl : j = X.length := by omega
                          rw [List.drop_length] at hB
                          have e0 : bV [] = [] := by simp [bV]
                          rw [e0] at hB
                          obtain ⟨ab, cb, rfl⟩ := hB.shape
                          go_wp2_with fail
                          go_ret
                          exact ⟨rfl, Below.chain cu hb⟩
theorem walk (v : Value) (L : List Nat) (v' : Value) (S : List ByteArray) (w : World) (h1 : Ns w v L) (h2 : Ss w v' S) :
    Calls Try.prog 8 #[v, v'] w fun e w' => e = .returned (.bool true) ∧ Below w.heap.size w w' := by
  obtain ⟨a1, c1, rfl, hL, hc1⟩ := h1
  obtain ⟨a2, c2, rfl, hc2⟩ := h2
  refine walk_core (L.take 10) (S.take 10) a1 a2 L.length S.length c1 c2 (min L.length 10) (min S.length 10) w (fun x hx => hL x (List.mem_of_mem_take hx)) (by omega) (by omega) (by simp; omega) (by simp; omega) ?_ ?_
  · intro j hj
    have hj' : j < L.length := by simp at hj; omega
    obtain ⟨a, h1, h2, h3⟩ := hc1 j hj'
    exact ⟨a, h1, h2, by rw [List.getElem_take]; exact h3⟩
  · intro j hj
    have hj' : j < S.length := by simp at hj; omega
    obtain ⟨a, h1, h2, h3⟩ := hc2 j hj'
    exact ⟨a, h1, h2, by rw [List.getElem_take]; exact h3⟩
end Go.Proofs.Ytcbogapnhabhkaa.PackRows
