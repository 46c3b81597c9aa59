import Derived.Test.YtainigcchlgehaaGreatDoorXF
namespace Go.Proofs.YtainigcchlgehaaGreatDoor
open Go Go.ChangeShapes Go.WideShapes Go.ChangeAt Go.RowKit
open Go.Joins
set_option linter.unusedVariables false
theorem ba_of {b : ByteArray} {l : Bt} (h : b.data.toList = l) : b = ⟨l.toArray⟩ := by
  subst h; rfl
/-- tokens in memory -/
def encK : Enc Tk 3 where
  enc x := [.int .i64 (x.kind : Int), .string ⟨x.text.toArray⟩, .int .i64 (x.pos : Int)]
  len _ := rfl
  one x u h := by
    simp only [List.mem_cons, List.not_mem_nil, or_false] at h
    rcases h with rfl | rfl | rfl <;> rfl
abbrev OwK := Ow encK 34
abbrev RwK := Rw encK
theorem info_tok : (Tryz.prog.info? 34).map (fun i => (i.zero, i.size, i.bytes)) = some (some (.agg #[.int .i64 0, .string ⟨#[]⟩, .int .i64 0]), 3, 32) := by kernel_rfl
/-- what Lex answers, of a text that is not too long -/
def LexP (w0 : World) (w' : World) (e : Ending) : Except Nat (List Tk) → Prop
  | .error p => e = .returned (.tuple #[.slice none 0 0, .int .i64 (p : Int), .int .i64 2])
  | .ok r => ∃ v, e = .returned (.tuple #[v, .int .i64 0, .int .i64 0]) ∧ OwK w' w0.heap.size v r
def LexR (w : World) (l : Bt) (e : Ending) (w' : World) : Prop := LexP w w' e (lexT l 0) ∧ Below w.heap.size w w'
theorem lexT_blanks (l : Bt) (p : Nat) : lexT l p = lexT (l.drop (blN l)) (p + blN l) := by
  cases h : l.drop (blN l) with
  | nil => rw [lexT_nil _ h]; rfl
  | cons c t =>
    have h0 : blN (c :: t) = 0 := blN_zero (bl_head l c t h)
    have hd : (c :: t).drop (blN (c :: t)) = c :: t := by rw [h0]; rfl
    by_cases hz : (firstF (c :: t)).2 = 0
    · rw [lexT_bad _ h hz, lexT_bad _ hd hz, h0]; rfl
    · rw [lexT_cons _ h hz, lexT_cons _ hd hz, h0]; rfl
theorem blN_drop (l : Bt) : blN (l.drop (blN l)) = 0 := by
  cases h : l.drop (blN l) with
  | nil => rfl
  | cons c t => exact blN_zero (bl_head l c t h)
/-- what holds at the loop's head: the tokens so far, the place -/
def LexI (l : Bt) (r : List Tk) (p : Nat) : Prop := appE r (lexT (l.drop p) p) = lexT l 0 ∧ blN (l.drop p) = 0 ∧ p ≤ l.length ∧ r.length ≤ p
theorem lexI_start (l : Bt) : LexI l [] (blN l) := ⟨by rw [appE_nil]; have := lexT_blanks l 0; rw [Nat.zero_add] at this; exact this.symm, blN_drop l, blN_le l, Nat.zero_le _⟩
theorem lexI_end {l : Bt} {r : List Tk} {p : Nat} (h : LexI l r p) (hp : l.length ≤ p) : lexT l 0 = .ok r := by
  rw [← h.1, List.drop_eq_nil_of_le hp]
  show Except.ok (r ++ []) = _
  rw [List.append_nil]
theorem lexI_bad {l : Bt} {r : List Tk} {p : Nat} (h : LexI l r p) (hp : p < l.length) (h0 : (firstF (l.drop p)).2 = 0) : lexT l 0 = .error p := by
  rw [← h.1]
  have hd : l.drop p = l[p] :: l.drop (p + 1) := List.drop_eq_getElem_cons hp
  have hb : (l.drop p).drop (blN (l.drop p)) = l[p] :: l.drop (p + 1) := by rw [h.2.1]; exact hd
  rw [hd] at h0
  rw [lexT_bad _ hb h0, h.2.1]; rfl
/-- a token more -/
theorem lexI_next {l : Bt} {r : List Tk} {p : Nat} (h : LexI l r p) (hp : p < l.length) (h0 : (firstF (l.drop p)).2 ≠ 0) :
    LexI l (r ++ [⟨(firstF (l.drop p)).1, (l.drop p).take (firstF (l.drop p)).2, p⟩]) (p + (firstF (l.drop p)).2 + blN (l.drop (p + (firstF (l.drop p)).2))) := by
  have hd : l.drop p = l[p] :: l.drop (p + 1) := List.drop_eq_getElem_cons hp
  have hb : (l.drop p).drop (blN (l.drop p)) = l[p] :: l.drop (p + 1) := by rw [h.2.1]; exact hd
  have hle := firstF_le (l.drop p)
  rw [List.length_drop] at hle
  have hbl := blN_le (l.drop (p + (firstF (l.drop p)).2))
  rw [List.length_drop] at hbl
  refine ⟨?_, ?_, by omega, by have := h.2.2.2; simp; omega⟩
  · rw [← h.1]
    have h0' := h0
    rw [hd] at h0'
    rw [lexT_step r p hb h0', h.2.1, ← hd, Nat.add_zero, List.drop_drop]
    conv => rhs; rw [lexT_blanks]
    rw [List.drop_drop]
  · have := blN_drop (l.drop (p + (firstF (l.drop p)).2))
    rw [List.drop_drop] at this
    exact this
theorem lx_ext_drop (s : ByteArray) (p : Nat) : (s.extract p s.size).data.toList = s.data.toList.drop p := by
  rw [lx_ext, List.take_of_length_le]
  rw [List.length_drop, lx_len]
  omega
theorem lexP_ok {w w' : World} {l : Bt} {r : List Tk} {v : Value} {e : Ending} (h : lexT l 0 = .ok r) (he : e = .returned (.tuple #[v, .int .i64 0, .int .i64 0])) (hO : OwK w' w.heap.size v r) (hb : Below w.heap.size w w') : LexR w l e w' := by
  unfold LexR LexP; rw [h]; exact ⟨⟨v, he, hO⟩, hb⟩
theorem lexP_bad {w w' : World} {l : Bt} {p : Nat} {e : Ending} (h : lexT l 0 = .error p) (he : e = .returned (.tuple #[.slice none 0 0, .int .i64 (p : Int), .int .i64 2])) (hb : Below w.heap.size w w') : LexR w l e w' := by
  unfold LexR LexP; rw [h]; exact ⟨he, hb⟩
set_option maxHeartbeats 4000000 in
set_option maxRecDepth 100000 in
theorem lex_any (s : ByteArray) (hs : s.size ≤ 65536) (w : World) (hT : TabsX w) : Calls Tryz.prog 10 #[.string s] w (LexR w s.data.toList) := by
  have HLs := Lib.hid (lx_len s)
  have HS0 := Lib.hid (lexI_start s.data.toList)
  have hs1 : (s.size : Int) ≤ 65536 := by omega
  have hs2 : ¬ (65536 : Int) < (s.size : Int) := by omega
  have HB0 := Lib.hid (lxblanks_any s (by omega))
  have HE := Lib.hid (lx_ext_drop s)
  have HHS := Lib.hid hs
  obtain ⟨p0, hp0⟩ : ∃ p, p = blN s.data.toList := ⟨_, rfl⟩
  rw [← hp0] at HS0 HB0
  clear hs hp0
  have Q0 := Lib.hid (fun wr => Ow.nil (E := encK) (e := 34) wr w.heap.size)
  go_enter Tryz.func10, Tryz.ntmps10
  go_wp2_with fail
  refine (HB0.out _).mono ?_; rintro e w1 ⟨rfl, hb1⟩
  have HB1 := Lib.hid hb1
  clear hb1
  go_wp2_with fail
  go_loopg [5, 6] (s.size - p0) (fun g s5 s6 wr => ∃ (r : List Tk) (p : Nat), g + p = s.size ∧ s6 = .int .i64 p ∧ OwK wr w.heap.size s5 r ∧ LexI s.data.toList r p ∧ Below w.heap.size w wr)
  case atStart =>
    have := HS0.out.2.2.1
    rw [HLs.out] at this
    exact ⟨[], p0, by omega, rfl, Q0.out _, HS0.out, HB1.out⟩
  case round =>
    obtain ⟨r, p, hg, rfl, hO, hI, hB⟩ := hrel
    obtain ⟨va, vc, rfl⟩ := hO.shape
    have HO := Lib.hid hO
    have HI := Lib.hid hI
    have HBW := Lib.hid hB
    clear hO hI hB
    have p1 : (0 : Int) ≤ (p : Int) := by omega
    have p2 : (p : Int) ≤ (s.size : Int) := by omega
    by_cases hlt : p < s.size
    · have p3 : (p : Int) < (s.size : Int) := by omega
      have hsE : (s.extract p s.size).size = s.size - p := by rw [ByteArray.size_extract]; omega
      have CF := Lib.hid (lxfirst_any (s.extract p s.size) (by have := HHS.out; omega) (by omega))
      have hFL := firstF_le (s.data.toList.drop p)
      rw [List.length_drop, HLs.out] at hFL
      rw [HE.out p] at CF
      by_cases hz : (firstF (s.data.toList.drop p)).2 = 0
      · have HR := Lib.hid (lexI_bad HI.out (by rw [HLs.out]; exact hlt) hz)
        rw [hz] at CF
        generalize (firstF (s.data.toList.drop p)).1 = K at *
        clear hz hFL
        go_wp2_with fail
        refine (CF.out _ (hT.below HBW.out)).mono ?_; rintro e w2 ⟨rfl, hb2⟩
        have HB2 := Lib.hid (HBW.out.trans (hb2.mono HBW.out.size))
        clear hb2
        go_wp2_with fail
        go_ret3
        exact lexP_bad HR.out rfl HB2.out
      · have HN := Lib.hid (lexI_next HI.out (by rw [HLs.out]; exact hlt) hz)
        obtain ⟨K, hK⟩ : ∃ K, K = (firstF (s.data.toList.drop p)).1 := ⟨_, rfl⟩
        obtain ⟨N, hN⟩ : ∃ N, N = (firstF (s.data.toList.drop p)).2 := ⟨_, rfl⟩
        rw [← hK, ← hN] at HN CF
        rw [← hN] at hFL hz
        obtain ⟨E, hE⟩ : ∃ E, E = p + N := ⟨_, rfl⟩
        have hEi : (p : Int) + (N : Int) = (E : Int) := by omega
        have HT := Lib.hid (show s.extract p E = ⟨((s.data.toList.drop p).take N).toArray⟩ from ba_of (by rw [lx_ext, hE]; congr 1; omega))
        rw [← hE] at HN
        obtain ⟨XS, hXS⟩ : ∃ XS, XS = r ++ [(⟨K, (s.data.toList.drop p).take N, p⟩ : Tk)] := ⟨_, rfl⟩
        rw [← hXS] at HN
        have HXS := Lib.hid hXS
        have e1 : (E : Int) ≤ (s.size : Int) := by omega
        have e2 : (p : Int) ≤ (E : Int) := by omega
        have e0 : (0 : Int) ≤ (E : Int) := by omega
        have nz : ((N : Int) == 0) = false := by rw [beq_eq_false_iff_ne]; omega
        have HLT := Lib.hid (show p < E by omega)
        have hbl := blN_le (s.data.toList.drop E)
        rw [List.length_drop, HLs.out] at hbl
        have CB := Lib.hid (lxblanks_any (s.extract E s.size) (by rw [ByteArray.size_extract]; have := HHS.out; omega))
        rw [HE.out E] at CB
        obtain ⟨G, hG⟩ : ∃ G, G = blN (s.data.toList.drop E) := ⟨_, rfl⟩
        rw [← hG] at HN CB hbl
        have g1 : (E : Int) + (G : Int) ≤ (s.size : Int) := by omega
        have HG := Lib.hid (show E + G ≤ s.size by omega)
        have HLN := Lib.hid (show r.length + 1 ≤ 1000000 by have := HI.out.2.2.2; have := HHS.out; omega)
        clear hz hFL hK hN hE hXS hG hbl hsE
        go_wp2_with fail
        refine (CF.out _ (hT.below HBW.out)).mono ?_; rintro e w2 ⟨rfl, hb2⟩
        have HB2 := Lib.hid (HBW.out.trans (hb2.mono HBW.out.size))
        have HO2 := Lib.hid (HO.out.below hb2)
        clear hb2
        have HO5 := Lib.hid (HO2.out.below (below_a1 w2 (.cells #[.int .i64 (K : Int), .string (s.extract p E), .int .i64 (p : Int)] 34)))
        have HR5 := Lib.hid (Ow.lit (E := encK) (e := 34) w2 w2.heap.size [(⟨K, (s.data.toList.drop p).take N, p⟩ : Tk)] (Nat.le_refl _) (by simp) #[.int .i64 (K : Int), .string (s.extract p E), .int .i64 (p : Int)] (by rw [HT.out]; rfl)).rw
        have SB := Lib.hid (HB2.out.trans ((below_a1 w2 (.cells #[.int .i64 (K : Int), .string (s.extract p E), .int .i64 (p : Int)] 34)).mono HB2.out.size))
        go_wp2_with (at_builtin; refine wpList_append_rw (E := encK) rfl _ _ _ rfl Tryz.underlying23 info_tok rfl (by decide) (by decide) rfl rfl HO5.out HR5.out HLN.out SB.out.size ?_; intro v6 w6 hO6 hg6 hat6; rw [← HXS.out] at hO6; obtain ⟨va6, vc6, rfl⟩ := hO6.shape; (have HO6 := Lib.hid hO6); (have HB6 := Lib.hid (SB.out.grown hg6 SB.out.size (fun k hk => HO5.out.row _ hk))); clear hO6 hg6 hat6)
        refine (CB.out _).mono ?_; rintro e w7 ⟨rfl, hb7⟩
        have HB7 := Lib.hid (HB6.out.trans (hb7.mono HB6.out.size))
        have HO7 := Lib.hid (HO6.out.below hb7)
        clear hb7
        go_wp2_with fail
        go_roundg (s.size - (E + G))
        case rel => exact ⟨XS, E + G, by have := HG.out; omega, by go_num, HO7.out, HN.out, HB7.out⟩
        case measure => have := HLT.out; omega
    · have p3 : ¬ ((p : Int) < (s.size : Int)) := by omega
      have HR := Lib.hid (lexI_end HI.out (by rw [HLs.out]; omega))
      go_wp2_with fail
      go_ret3
      exact lexP_ok HR.out rfl HO.out HBW.out
end Go.Proofs.YtainigcchlgehaaGreatDoor
