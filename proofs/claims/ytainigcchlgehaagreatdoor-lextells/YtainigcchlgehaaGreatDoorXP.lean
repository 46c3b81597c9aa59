import Derived.Test.YtainigcchlgehaaGreatDoorXQ3
namespace Go.Proofs.YtainigcchlgehaaGreatDoor
open Go Go.ChangeShapes Go.WideShapes Go.ChangeAt Go.RowKit
open Go.Joins
set_option linter.unusedVariables false
/-! ### the reference's Lex -/
abbrev OwT := Ow encK 49
theorem info_rtok : (Tryz.prog.info? 49).map (fun i => (i.zero, i.size, i.bytes)) = some (some (.agg #[.int .i64 0, .string ⟨#[]⟩, .int .i64 0]), 3, 32) := by kernel_rfl
def RLexP (w0 : World) (w' : World) (e : Ending) : Except Nat (List Tk) → Prop
  | .error p => e = .returned (.tuple #[.slice none 0 0, .int .i64 (p : Int), .int .i64 2])
  | .ok r => ∃ v, e = .returned (.tuple #[v, .int .i64 0, .int .i64 0]) ∧ OwT w' w0.heap.size v r
def RLexR (w : World) (l : Bt) (e : Ending) (w' : World) : Prop := RLexP w w' e (lexT l 0) ∧ Below w.heap.size w w'
theorem rlexP_ok {w w' : World} {l : Bt} {r : List Tk} {v : Value} {e : Ending} (h : lexT l 0 = .ok r) (he : e = .returned (.tuple #[v, .int .i64 0, .int .i64 0])) (hO : OwT w' w.heap.size v r) (hb : Below w.heap.size w w') : RLexR w l e w' := by
  unfold RLexR RLexP; rw [h]; exact ⟨⟨v, he, hO⟩, hb⟩
theorem rlexP_bad {w w' : World} {l : Bt} {p : Nat} {e : Ending} (h : lexT l 0 = .error p) (he : e = .returned (.tuple #[.slice none 0 0, .int .i64 (p : Int), .int .i64 2])) (hb : Below w.heap.size w w') : RLexR w l e w' := by
  unfold RLexR RLexP; rw [h]; exact ⟨he, hb⟩
theorem blank_of {c : UInt8} (h : blanksL.contains c = true) : c = 32 ∨ c = 9 ∨ c = 13 ∨ c = 10 := by
  have := List.contains_iff_mem.1 h
  simpa [blanksL] using this
theorem byte_ne {c : UInt8} {k : UInt8} {n : Nat} (hk : k.toNat = n) (h : c ≠ k) : ((c.toNat : Int) == (n : Int)) = false := by
  rw [beq_eq_false_iff_ne]
  intro e
  exact h (UInt8.toNat_inj.1 (by omega))
set_option maxHeartbeats 8000000 in
set_option maxRecDepth 100000 in
theorem rlex_any (s : ByteArray) (hs : s.size ≤ 65536) (w : World) : Calls Tryz.prog 11 #[.string s] w (RLexR w s.data.toList) := by
  have HLs := Lib.hid (lx_len s)
  have hs1 : (s.size : Int) ≤ 65536 := by omega
  have hs2 : ¬ (65536 : Int) < (s.size : Int) := by omega
  have HHS := Lib.hid hs
  have Q0 := Lib.hid (Ow.lit (E := encK) (e := 49) w w.heap.size [] (Nat.le_refl _) (by simp) _ rfl)
  have B0 := Lib.hid (below_a1 w (.cells #[] 49))
  clear hs
  go_enter Tryz.func11, Tryz.ntmps11
  go_wp2_with fail
  go_loopg [5, 6, 7, 8] s.size (fun g s5 s6 s7 s8 wr => ∃ (r : List Tk) (p : Nat), g + p = s.size ∧ s6 = .int .i64 p ∧ OwT wr w.heap.size s5 r ∧ r.length ≤ p ∧ appE r (lexT (s.data.toList.drop p) p) = lexT s.data.toList 0 ∧ Below w.heap.size w wr)
  case atStart => exact ⟨[], 0, rfl, rfl, Q0.out, Nat.le_refl _, by rw [appE_nil]; rfl, B0.out⟩
  case round =>
    obtain ⟨r, p, hg, rfl, hO, hrp, hI, hB⟩ := hrel
    obtain ⟨va, vc, rfl⟩ := hO.shape
    have HO := Lib.hid hO
    have HI := Lib.hid hI
    have HBW := Lib.hid hB
    clear hO hI hB
    have p1 : (0 : Int) ≤ (p : Int) := by omega
    have p2 : (p : Int) ≤ (s.size : Int) := by omega
    by_cases hlt : p < s.size
    · have p3 : (p : Int) < (s.size : Int) := by omega
      have hd := lx_drop s p hlt
      by_cases hbl : blanksL.contains s[p] = true
      · rcases blank_of hbl with hk | hk | hk | hk
        all_goals clear hbl
        · have HN := Lib.hid (show appE r (lexT (s.data.toList.drop (p + 1)) (p + 1)) = lexT s.data.toList 0 by rw [← HI.out, hd, lexT_blank _ _ (by rw [hk]; decide)])
          have b32 : ((s[p].toNat : Int) == 32) = true := by rw [hk]; decide
          clear hk hd
          go_wp2_with fail
          go_roundg (s.size - (p + 1))
          case rel => exact ⟨r, p + 1, by omega, by go_num, HO.out, by omega, HN.out, HBW.out⟩
          case measure => omega
        · have HN := Lib.hid (show appE r (lexT (s.data.toList.drop (p + 1)) (p + 1)) = lexT s.data.toList 0 by rw [← HI.out, hd, lexT_blank _ _ (by rw [hk]; decide)])
          have b32 : ((s[p].toNat : Int) == 32) = false := by rw [hk]; decide
          have b9 : ((s[p].toNat : Int) == 9) = true := by rw [hk]; decide
          clear hk hd
          go_wp2_with fail
          go_roundg (s.size - (p + 1))
          case rel => exact ⟨r, p + 1, by omega, by go_num, HO.out, by omega, HN.out, HBW.out⟩
          case measure => omega
        · have HN := Lib.hid (show appE r (lexT (s.data.toList.drop (p + 1)) (p + 1)) = lexT s.data.toList 0 by rw [← HI.out, hd, lexT_blank _ _ (by rw [hk]; decide)])
          have b32 : ((s[p].toNat : Int) == 32) = false := by rw [hk]; decide
          have b9 : ((s[p].toNat : Int) == 9) = false := by rw [hk]; decide
          have b13 : ((s[p].toNat : Int) == 13) = true := by rw [hk]; decide
          clear hk hd
          go_wp2_with fail
          go_roundg (s.size - (p + 1))
          case rel => exact ⟨r, p + 1, by omega, by go_num, HO.out, by omega, HN.out, HBW.out⟩
          case measure => omega
        · have HN := Lib.hid (show appE r (lexT (s.data.toList.drop (p + 1)) (p + 1)) = lexT s.data.toList 0 by rw [← HI.out, hd, lexT_blank _ _ (by rw [hk]; decide)])
          have b32 : ((s[p].toNat : Int) == 32) = false := by rw [hk]; decide
          have b9 : ((s[p].toNat : Int) == 9) = false := by rw [hk]; decide
          have b13 : ((s[p].toNat : Int) == 13) = false := by rw [hk]; decide
          have b10 : ((s[p].toNat : Int) == 10) = true := by rw [hk]; decide
          clear hk hd
          go_wp2_with fail
          go_roundg (s.size - (p + 1))
          case rel => exact ⟨r, p + 1, by omega, by go_num, HO.out, by omega, HN.out, HBW.out⟩
          case measure => omega
      have hbl' : blanksL.contains s[p] = false := by simpa using hbl
      have hne : s[p] ≠ 32 ∧ s[p] ≠ 9 ∧ s[p] ≠ 13 ∧ s[p] ≠ 10 := by
        refine ⟨?_, ?_, ?_, ?_⟩ <;> (intro e; rw [e] at hbl; exact hbl (by decide))
      have b32 : ((s[p].toNat : Int) == 32) = false := byte_ne (n := 32) rfl hne.1
      have b9 : ((s[p].toNat : Int) == 9) = false := byte_ne (n := 9) rfl hne.2.1
      have b13 : ((s[p].toNat : Int) == 13) = false := byte_ne (n := 13) rfl hne.2.2.1
      have b10 : ((s[p].toNat : Int) == 10) = false := byte_ne (n := 10) rfl hne.2.2.2
      have CO := Lib.hid (fun u => rone_any s p HHS.out hlt u)
      have hFL := firstF_le (s.data.toList.drop p)
      rw [List.length_drop, HLs.out] at hFL
      have h0 : blN (s.data.toList.drop p) = 0 := by rw [hd]; exact blN_zero hbl'
      have hdd : (s.data.toList.drop p).drop (blN (s.data.toList.drop p)) = s[p] :: s.data.toList.drop (p + 1) := by rw [h0]; exact hd
      have hkd := firstF_kind s[p] (s.data.toList.drop (p + 1))
      rw [← hd] at hkd
      by_cases hz : (firstF (s.data.toList.drop p)).2 = 0
      · have HR := Lib.hid (show lexT s.data.toList 0 = .error p by
          rw [← HI.out, lexT_bad p hdd (by rw [← hd]; exact hz), h0]; rfl)
        have hv : tokV (s.data.toList.drop p) p = .agg #[.int .i64 0, .string ⟨#[]⟩, .int .i64 0] := if_pos hz
        rw [hv] at CO
        clear hz hFL hne hbl hbl' h0 hdd hd hv hkd
        go_wp2_with fail
        refine (CO.out _).mono ?_; rintro e w2 ⟨rfl, hb2⟩
        have HB2 := Lib.hid (HBW.out.trans (hb2.mono HBW.out.size))
        clear hb2
        go_wp2_with fail
        go_ret3
        exact rlexP_bad HR.out rfl (HB2.out.trans ((below_a1 w2 _).mono HB2.out.size))
      · have hstep := lexT_step r p hdd (by rw [← hd]; exact hz)
        rw [← hd, h0, Nat.add_zero, List.drop_drop] at hstep
        have hv : tokV (s.data.toList.drop p) p = .agg #[.int .i64 ((firstF (s.data.toList.drop p)).1 : Nat), .string ⟨((s.data.toList.drop p).take (firstF (s.data.toList.drop p)).2).toArray⟩, .int .i64 (p : Nat)] := if_neg hz
        rw [hv] at CO
        have hTX : (⟨((s.data.toList.drop p).take (firstF (s.data.toList.drop p)).2).toArray⟩ : ByteArray).size = (firstF (s.data.toList.drop p)).2 := by
          rw [tk_size, List.length_take, List.length_drop, HLs.out]; omega
        obtain ⟨K, hK⟩ : ∃ K, K = (firstF (s.data.toList.drop p)).1 := ⟨_, rfl⟩
        obtain ⟨N, hN⟩ : ∃ N, N = (firstF (s.data.toList.drop p)).2 := ⟨_, rfl⟩
        rw [← hK, ← hN] at hstep CO
        rw [← hN] at hTX hFL hz
        rw [← hK] at hkd
        obtain ⟨X, hX⟩ : ∃ X : ByteArray, X = ⟨((s.data.toList.drop p).take N).toArray⟩ := ⟨_, rfl⟩
        rw [← hX] at CO hTX
        obtain ⟨XS, hXS⟩ : ∃ XS, XS = r ++ [(⟨K, (s.data.toList.drop p).take N, p⟩ : Tk)] := ⟨_, rfl⟩
        rw [← hXS] at hstep
        have HXS := Lib.hid hXS
        have HX := Lib.hid hX
        have HN := Lib.hid (show appE XS (lexT (s.data.toList.drop (p + N)) (p + N)) = lexT s.data.toList 0 by rw [← HI.out, ← hstep])
        have kz : ((K : Int) == 0) = false := by rw [beq_eq_false_iff_ne]; omega
        have hTXi : (X.size : Int) = (N : Int) := by omega
        obtain ⟨E, hE⟩ : ∃ E, E = p + N := ⟨_, rfl⟩
        rw [← hE] at HN
        have hEi : (p : Int) + (X.size : Int) = (E : Int) := by omega
        have e1 : (E : Int) ≤ (s.size : Int) := by omega
        have HLT := Lib.hid (show p < E ∧ E ≤ s.size by omega)
        have HLN := Lib.hid (show r.length + 1 ≤ 1000000 by have := HHS.out; omega)
        have HXL := Lib.hid (show XS.length ≤ E by rw [hXS, List.length_append, List.length_singleton]; omega)
        clear hz hFL hne hbl hbl' h0 hdd hd hv hkd hstep hK hN hX hXS hE hTX hTXi
        go_wp2_with fail
        refine (CO.out _).mono ?_; rintro e w2 ⟨rfl, hb2⟩
        have HB2 := Lib.hid (HBW.out.trans (hb2.mono HBW.out.size))
        have HO2 := Lib.hid (HO.out.below hb2)
        have W1 := below_a1 w2 (.cells #[.int .i64 (K : Int), .string X, .int .i64 (p : Int)] 49)
        have V1 := Lib.hid (Vr.new w2 49 #[.int .i64 (K : Int), .string X, .int .i64 (p : Int)])
        have HF := Lib.hid (HO2.out.far (Nat.le_refl w2.heap.size))
        have HO3 := Lib.hid (HO2.out.below W1)
        have HB3 := Lib.hid (HB2.out.trans (W1.mono HB2.out.size))
        have W2 := below_a1 (w2.alloc (.cells #[.int .i64 (K : Int), .string X, .int .i64 (p : Int)] 49)) (.cells #[.int .i64 (K : Int), .string X, .int .i64 (p : Int)] 49)
        have HO5 := Lib.hid (HO3.out.below W2)
        have V2 := Lib.hid (V1.out.keep W2)
        have SB := Lib.hid (HB3.out.trans (W2.mono HB3.out.size))
        have HR5 := Lib.hid (show RwK ((w2.alloc (.cells #[.int .i64 (K : Int), .string X, .int .i64 (p : Int)] 49)).alloc (.cells #[.int .i64 (K : Int), .string X, .int .i64 (p : Int)] 49)) (.slice (some ⟨w2.heap.size + 1, 0, none⟩) 1 1) [(⟨K, (s.data.toList.drop p).take N, p⟩ : Tk)] from by
          have h := (Ow.lit (E := encK) (e := 49) (w2.alloc (.cells #[.int .i64 (K : Int), .string X, .int .i64 (p : Int)] 49)) (w2.alloc (.cells #[.int .i64 (K : Int), .string X, .int .i64 (p : Int)] 49)).heap.size [(⟨K, (s.data.toList.drop p).take N, p⟩ : Tk)] (Nat.le_refl _) (by simp) #[.int .i64 (K : Int), .string X, .int .i64 (p : Int)] (by rw [HX.out]; rfl)).rw
          rw [World.size_alloc] at h; exact h)
        clear hb2 W1 W2
        go_wp2_with (at_builtin; refine wpList_append_rw (E := encK) rfl _ _ _ rfl Tryz.underlying27 info_rtok rfl (by decide) (by decide) rfl rfl HO5.out HR5.out HLN.out SB.out.size ?_; intro v6 w6 hO6 hg6 hat6; rw [← HXS.out] at hO6; obtain ⟨va6, vc6, rfl⟩ := hO6.shape; (have HO6 := Lib.hid hO6); (have V6 := V2.out.grown hg6 (fun h => HF.out h.symm)); (have q1 := V6.cell 1); (have HB6 := Lib.hid (SB.out.grown hg6 SB.out.size (fun k hk => HO5.out.row _ hk))); clear hO6 hg6 hat6)
        go_roundg (s.size - E)
        case rel => exact ⟨XS, E, by have := HLT.out; omega, by go_num, HO6.out, HXL.out, HN.out, HB6.out⟩
        case measure => have := HLT.out; omega
    · have p3 : ¬ ((p : Int) < (s.size : Int)) := by omega
      have HR := Lib.hid (show lexT s.data.toList 0 = .ok r by
        rw [← HI.out, List.drop_eq_nil_of_le (by rw [HLs.out]; omega)]
        show Except.ok (r ++ []) = _
        rw [List.append_nil])
      go_wp2_with fail
      go_ret3
      exact rlexP_ok HR.out rfl HO.out HBW.out
end Go.Proofs.YtainigcchlgehaaGreatDoor
