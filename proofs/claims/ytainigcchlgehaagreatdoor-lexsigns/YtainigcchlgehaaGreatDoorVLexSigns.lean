/- The walk of the law LexSigns. -/
import Derived.Test.YtainigcchlgehaaGreatDoorXO
import Derived.Laws.StructEq
namespace Go.Proofs.YtainigcchlgehaaGreatDoor.LexSigns
open Go Go.ChangeShapes Go.WideShapes Go.ChangeAt Go.RowKit
open Go.Joins
set_option linter.unusedVariables false
/-! the mathematics -/
theorem sep9 : Sep 9 := ⟨by decide, by decide, by decide⟩
theorem good_lexb (t : Tk) (hg : GoodTk t) {c : UInt8} (hc : Sep c) (hb : blanksL.contains c = true) (y : Bt) (p : Nat) : lexT (t.text ++ c :: y) p = match lexT y (p + t.text.length + 1) with
    | .error e => .error e
    | .ok r => .ok (⟨t.kind, t.text, p⟩ :: r) := by
  cases hx : t.text with
  | nil => exact absurd hx hg.ne
  | cons d r =>
    have hbd := hg.head d r hx
    have h0 : blN (d :: (r ++ c :: y)) = 0 := blN_zero hbd
    have hd : (d :: r ++ c :: y).drop (blN (d :: r ++ c :: y)) = d :: (r ++ c :: y) := by rw [List.cons_append, h0]; rfl
    have hf0 : firstF (d :: r) = (t.kind, (d :: r).length) := by rw [← hx]; exact hg.one
    have hf : firstF (d :: (r ++ c :: y)) = (t.kind, (d :: r).length) := by
      rw [← List.cons_append, firstF_sep hc (by rw [hf0]; simp) y, hf0]
    rw [lexT_cons p hd (by rw [hf]; simp), hf, List.cons_append, h0]
    have e1 : (d :: (r ++ c :: y)).drop (d :: r).length = c :: y := by rw [← List.cons_append, List.drop_left]
    have e2 : (d :: (r ++ c :: y)).take (d :: r).length = d :: r := by rw [← List.cons_append, List.take_left]
    show (match lexT ((d :: (r ++ c :: y)).drop (d :: r).length) (p + 0 + (d :: r).length) with | .error e => _ | .ok r' => _) = _
    rw [e1, lexT_blank _ _ hb, Nat.add_zero]
    cases lexT y (p + (d :: r).length + 1) with
    | error e => rfl
    | ok s =>
      show Except.ok ((⟨t.kind, (d :: (r ++ c :: y)).take (d :: r).length, p⟩ : Tk) :: s) = _
      rw [e2]
def goodS (s : Bt) : Bool := decide (firstF s = (5, s.length)) && !s.isEmpty && s.all fun c => !blanksL.contains c
theorem goodS_all : (signsL.all goodS) = true := by kernel_rfl
theorem good_sign {s : Bt} (h : s ∈ signsL) : GoodTk ⟨5, s, 0⟩ := by
  have := List.all_eq_true.1 goodS_all s h
  unfold goodS at this
  simp only [Bool.and_eq_true, decide_eq_true_eq, Bool.not_eq_true', List.all_eq_true] at this
  obtain ⟨⟨h1, h2⟩, h3⟩ := this
  refine ⟨h1, fun e => ?_, fun c r e => ?_⟩
  · have e' : s = [] := e
    rw [e'] at h2; cases h2
  · have e' : s = c :: r := e
    exact h3 c (by rw [e']; simp)
/-- a gap: blanks, that end a token -/
structure Gap (g : Bt) : Prop where
  all : g.drop (blN g) = []
  head : ∃ c r, g = c :: r ∧ Sep c ∧ blanksL.contains c = true ∧ r.drop (blN r) = []
theorem gap1 : Gap [32] := ⟨rfl, 32, [], rfl, sep32, rfl, rfl⟩
theorem gap2 : Gap [9] := ⟨rfl, 9, [], rfl, sep9, rfl, rfl⟩
theorem gap3 : Gap [10] := ⟨rfl, 10, [], rfl, sep10, rfl, rfl⟩
theorem gap4 : Gap [32, 13, 10, 32] := ⟨rfl, 32, [13, 10, 32], rfl, sep32, rfl, rfl⟩
theorem two_lex {g x y : Bt} (hg : Gap g) (hx : x ∈ signsL) (hy : y ∈ signsL) : ∃ a b, lexT (g ++ x ++ g ++ y ++ g) 0 = .ok [⟨5, x, a⟩, ⟨5, y, b⟩] := by
  obtain ⟨c, r, e, hc, hb, hr⟩ := hg.head
  have e0 : g ++ x ++ g ++ y ++ g = g ++ (x ++ c :: (r ++ (y ++ c :: r))) := by
    conv => lhs; rw [List.append_assoc, List.append_assoc, List.append_assoc]
    congr 2
    rw [e]; simp
  have h2 : ∀ p, lexT (y ++ c :: r) p = .ok [⟨5, y, p⟩] := fun p => by
    have := good_lexb ⟨5, y, 0⟩ (good_sign hy) hc hb r p
    rw [lexT_nil _ hr] at this
    exact this
  have h1 : ∀ p, ∃ q, lexT (x ++ c :: (r ++ (y ++ c :: r))) p = .ok [⟨5, x, p⟩, ⟨5, y, q⟩] := fun p => by
    have := good_lexb ⟨5, x, 0⟩ (good_sign hx) hc hb (r ++ (y ++ c :: r)) p
    rw [blanks_nil hr, h2] at this
    exact ⟨_, this⟩
  rw [e0, blanks_nil hg.all]
  obtain ⟨q, h⟩ := h1 (0 + g.length)
  exact ⟨_, q, h⟩
/-- the signs' letters, each a sign -/
def sgnB (c : UInt8) : Bool := signs1.contains [c]
theorem sgn_all : (signsL.all fun s => s.all sgnB) = true := by kernel_rfl
theorem sgn_facts : ((List.range 256).all fun n => !sgnB (UInt8.ofNat n) || (!digitB n && !begB n && decide (UInt8.ofNat n ≠ 39) && !blanksL.contains (UInt8.ofNat n))) = true := by kernel_rfl
theorem sgn_fact (c : UInt8) (h : sgnB c = true) : digitB c.toNat = false ∧ begB c.toNat = false ∧ c ≠ 39 ∧ blanksL.contains c = false := by
  have hc : c.toNat < 256 := c.toNat_lt
  have := List.all_eq_true.1 sgn_facts c.toNat (List.mem_range.2 hc)
  rw [UInt8.ofNat_toNat, h] at this
  simp only [Bool.not_true, Bool.false_or, Bool.and_eq_true, Bool.not_eq_true', decide_eq_true_eq] at this
  exact ⟨this.1.1.1, this.1.1.2, this.1.2, this.2⟩
theorem findS_mem (l : Bt) : ∀ (S : List Bt) (s : Bt), s ∈ S → Lib.hasPrefix l s = true → (∀ z ∈ S, z ≠ []) → findS l S ≠ 0
  | z :: S, s, h, hp, hn => by
    rw [findS_cons]
    split
    · have := hn z (by simp)
      intro e; exact this (List.eq_nil_of_length_eq_zero e)
    · rename_i hz
      rcases List.mem_cons.1 h with rfl | h
      · exact absurd hp hz
      · exact findS_mem l S s h hp (fun z hz => hn z (by simp [hz]))
theorem sgn_first {c : UInt8} {t : Bt} (h : sgnB c = true) : firstF (c :: t) = (5, signN (c :: t)) ∧ signN (c :: t) ≠ 0 := by
  obtain ⟨h1, h2, h3, -⟩ := sgn_fact c h
  refine ⟨?_, ?_⟩
  · rw [firstF_cons, if_neg (by rw [h1]; decide), if_neg (by rw [h2]; decide), if_neg h3]
  · unfold signN
    have hm : [c] ∈ signsL := by
      unfold sgnB at h
      have := List.contains_iff_mem.1 h
      unfold signsL
      simp only [List.mem_append]; exact .inr (.inr this)
    refine findS_mem _ _ [c] hm (by simp [Lib.hasPrefix, List.isPrefixOf]) ?_
    decide
theorem sgn_lex : ∀ (n : Nat) (l : Bt) (p : Nat), l.length ≤ n → (∀ c ∈ l, sgnB c = true) → ∃ r, lexT l p = .ok r
  | 0, l, p, h, _ => by
    have : l = [] := List.eq_nil_of_length_eq_zero (by omega)
    subst this; exact ⟨[], lexT_nil _ rfl⟩
  | n + 1, [], p, _, _ => ⟨[], lexT_nil _ rfl⟩
  | n + 1, c :: t, p, h, hs => by
    obtain ⟨-, -, -, hb⟩ := sgn_fact c (hs c (by simp))
    obtain ⟨hf, hz⟩ := sgn_first (t := t) (hs c (by simp))
    have h0 : blN (c :: t) = 0 := blN_zero hb
    have hd : (c :: t).drop (blN (c :: t)) = c :: t := by rw [h0]; rfl
    obtain ⟨r, hr⟩ := sgn_lex n ((c :: t).drop (firstF (c :: t)).2) (p + blN (c :: t) + (firstF (c :: t)).2) (by rw [List.length_drop, hf]; simp only [List.length_cons] at h ⊢; omega) (fun d hd' => hs d (List.mem_of_mem_drop hd'))
    exact ⟨_, by rw [lexT_cons p hd (by rw [hf]; exact hz), hr]⟩
theorem one_lex {x y : Bt} (hx : x ∈ signsL) (hy : y ∈ signsL) : ∃ k a r, lexT (x ++ y) 0 = .ok (⟨k, (x ++ y).take (signN (x ++ y)), a⟩ :: r) := by
  have hall : ∀ c ∈ x ++ y, sgnB c = true := by
    intro c hc
    rcases List.mem_append.1 hc with h | h
    · exact List.all_eq_true.1 (List.all_eq_true.1 sgn_all x hx) c h
    · exact List.all_eq_true.1 (List.all_eq_true.1 sgn_all y hy) c h
  have hne := (good_sign hx).ne
  cases hl : x ++ y with
  | nil =>
    have : x = [] := (List.append_eq_nil_iff.1 hl).1
    exact absurd this hne
  | cons c t =>
    rw [hl] at hall
    obtain ⟨-, -, -, hb⟩ := sgn_fact c (hall c (by simp))
    obtain ⟨hf, hz⟩ := sgn_first (t := t) (hall c (by simp))
    have h0 : blN (c :: t) = 0 := blN_zero hb
    have hd : (c :: t).drop (blN (c :: t)) = c :: t := by rw [h0]; rfl
    obtain ⟨r, hr⟩ := sgn_lex (c :: t).length ((c :: t).drop (firstF (c :: t)).2) (0 + blN (c :: t) + (firstF (c :: t)).2) (by rw [List.length_drop]; omega) (fun d hd' => hall d (List.mem_of_mem_drop hd'))
    exact ⟨_, _, r, by rw [lexT_cons 0 hd (by rw [hf]; exact hz), hr, hf]⟩
/-- the longest of these that stands ahead -/
def maxP (l : Bt) : List Bt → Nat
  | [] => 0
  | s :: t => max (if Lib.hasPrefix l s = true then s.length else 0) (maxP l t)
theorem maxP_app (l : Bt) (b : List Bt) : ∀ a : List Bt, maxP l (a ++ b) = max (maxP l a) (maxP l b)
  | [] => by simp [maxP]
  | s :: a => by
    show max _ (maxP l (a ++ b)) = max (max _ (maxP l a)) (maxP l b)
    rw [maxP_app l b a, Nat.max_assoc]
theorem maxP_le (l : Bt) (m : Nat) : ∀ S : List Bt, (∀ s ∈ S, s.length ≤ m) → maxP l S ≤ m
  | [], _ => Nat.zero_le _
  | s :: S, h => by
    unfold maxP
    have h1 := h s (by simp)
    have h2 := maxP_le l m S (fun s hs => h s (by simp [hs]))
    split <;> omega
theorem findS_max (l : Bt) : ∀ S : List Bt, S.Pairwise (fun a b => b.length ≤ a.length) → findS l S = maxP l S
  | [], _ => rfl
  | s :: S, h => by
    rw [List.pairwise_cons] at h
    rw [findS_cons]
    unfold maxP
    have h2 := maxP_le l s.length S h.1
    split
    · omega
    · rw [findS_max l S h.2]; omega
theorem sign_max (l : Bt) : signN l = maxP l signsL := findS_max l signsL (by decide)
theorem max_step (l : Bt) (i : Nat) (hi : i < signsL.length) : maxP l (signsL.take (i + 1)) = max (maxP l (signsL.take i)) (if Lib.hasPrefix l signsL[i] = true then signsL[i].length else 0) := by
  rw [List.take_succ_eq_append_getElem hi, maxP_app]
  simp [maxP]
/-! the walk -/
def SB : List ByteArray := [⟨#[60, 45, 91]⟩, ⟨#[60, 126, 91]⟩, ⟨#[93, 45, 62]⟩, ⟨#[93, 126, 62]⟩, ⟨#[60, 45, 62]⟩, ⟨#[45, 91]⟩, ⟨#[126, 91]⟩, ⟨#[93, 45]⟩, ⟨#[93, 126]⟩, ⟨#[45, 62]⟩, ⟨#[60, 45]⟩, ⟨#[60, 126]⟩, ⟨#[126, 62]⟩, ⟨#[60, 61]⟩, ⟨#[62, 61]⟩, ⟨#[60, 62]⟩, ⟨#[40]⟩, ⟨#[41]⟩, ⟨#[91]⟩, ⟨#[93]⟩, ⟨#[123]⟩, ⟨#[125]⟩, ⟨#[44]⟩, ⟨#[58]⟩, ⟨#[124]⟩, ⟨#[38]⟩, ⟨#[33]⟩, ⟨#[37]⟩, ⟨#[42]⟩, ⟨#[43]⟩, ⟨#[63]⟩, ⟨#[61]⟩, ⟨#[60]⟩, ⟨#[62]⟩, ⟨#[45]⟩, ⟨#[126]⟩]
theorem SB_len : SB.length = 36 := rfl
theorem SB_at : SB.map (fun b => b.data.toList) = signsL := rfl
theorem sb_get (i : Nat) (h : i < SB.length) (h2 : i < signsL.length) : SB[i].data.toList = signsL[i] := by
  have : (SB.map (fun b => b.data.toList))[i]'(by rw [List.length_map]; exact h) = SB[i].data.toList := List.getElem_map _
  rw [← this]
  congr 1
theorem sb_mem (i : Nat) (h : i < SB.length) : SB[i].data.toList ∈ signsL := by
  have h2 : i < signsL.length := by rw [SB_len] at h; exact h
  have e := sb_get i h h2
  have m : signsL[i] ∈ signsL := List.getElem_mem h2
  exact (congrArg (· ∈ signsL) e).mpr m
theorem rws_at {w : World} {b n c : Nat} {l : List ByteArray} (h : RwS w (.slice (some ⟨b, 0, none⟩) n c) l) (i : Nat) (hi : i < l.length) : w.cell? ⟨b, i, none⟩ = some (.string l[i]) := by
  obtain ⟨ao', cap', he, -, -, -, hc⟩ := h
  cases he
  obtain ⟨b', o', he, hcell⟩ := hc i hi
  cases he
  have := hcell 0 (by decide)
  simpa [encS] using this
set_option maxHeartbeats 8000000 in
set_option maxRecDepth 100000 in
theorem core (a b c : Int) (i j A B C : Nat) (hA : bits BinOp.and IntKind.i64 a 65535 = (A : Int)) (hi : Int.tmod (A : Int) 36 = (i : Int)) (hi2 : i < 36) (hB : bits BinOp.and IntKind.i64 b 65535 = (B : Int)) (hj : Int.tmod (B : Int) 36 = (j : Int)) (hj2 : j < 36) (hC : bits BinOp.and IntKind.i64 c 3 = (C : Int)) (hC4 : C < 4)
    (X Y : ByteArray) (hX : SB[i]'(by rw [SB_len]; exact hi2) = X) (hY : SB[j]'(by rw [SB_len]; exact hj2) = Y) (w : World) (hT : TabsX w) :
    Calls Tryz.prog 8 #[.int .i64 a, .int .i64 b, .int .i64 c] w fun e w' => e = .returned (.bool true) ∧ Below w.heap.size w w' := by
  have CS := Lib.hid (shown10_any w hT)
  have i0 : (0 : Int) ≤ (i : Int) := by omega
  have i1 : (i : Int) < 36 := by omega
  have j0 : (0 : Int) ≤ (j : Int) := by omega
  have j1 : (j : Int) < 36 := by omega
  have HX := Lib.hid hX
  have HY := Lib.hid hY
  have hxm : X.data.toList ∈ signsL := by rw [← hX]; exact sb_mem i _
  have hym : Y.data.toList ∈ signsL := by rw [← hY]; exact sb_mem j _
  have HXM := Lib.hid hxm
  have HYM := Lib.hid hym
  have hb3 : ∀ s ∈ signsL, s.length ≤ 3 := by decide
  have lx := hb3 _ hxm
  have ly := hb3 _ hym
  rw [lx_len] at lx ly
  obtain ⟨G, hG, hgap, lg⟩ : ∃ G : ByteArray, ([Value.string ⟨#[32]⟩, Value.string ⟨#[9]⟩, Value.string ⟨#[10]⟩, Value.string ⟨#[32, 13, 10, 32]⟩] : List Value)[C]'(by simpa using hC4) = .string G ∧ Gap G.data.toList ∧ G.size ≤ 4 := by
    match C, hC4 with
    | 0, _ => exact ⟨_, rfl, gap1, by decide⟩
    | 1, _ => exact ⟨_, rfl, gap2, by decide⟩
    | 2, _ => exact ⟨_, rfl, gap3, by decide⟩
    | 3, _ => exact ⟨_, rfl, gap4, by decide⟩
  have HG := Lib.hid hG
  obtain ⟨Z, hZ⟩ : ∃ Z, G ++ X ++ G ++ Y ++ G = Z := ⟨_, rfl⟩
  obtain ⟨O, hO⟩ : ∃ O, X ++ Y = O := ⟨_, rfl⟩
  have lz : Z.size ≤ 100 := by rw [← hZ]; simp only [ByteArray.size_append]; omega
  have lo : O.size ≤ 6 := by rw [← hO]; simp only [ByteArray.size_append]; omega
  have eZ : Z.data.toList = G.data.toList ++ X.data.toList ++ G.data.toList ++ Y.data.toList ++ G.data.toList := by rw [← hZ]; simp
  have eO : O.data.toList = X.data.toList ++ Y.data.toList := by rw [← hO]; simp
  obtain ⟨pa, pb, h2⟩ := two_lex hgap hxm hym
  rw [← eZ] at h2
  obtain ⟨ok, oa, orr, h1⟩ := one_lex hxm hym
  rw [← eO] at h1
  have C2 := Lib.hid (fun u hu => lex_any Z (by omega) u hu)
  have C1 := Lib.hid (fun u hu => lex_any O (by omega) u hu)
  have X2 := Lib.hid h2
  have X1 := Lib.hid h1
  have lzi : (Z.size : Int) ≤ 100 := by omega
  have loi : (O.size : Int) ≤ 6 := by omega
  have lxi : (X.size : Int) ≤ 3 := by omega
  have lyi : (Y.size : Int) ≤ 3 := by omega
  have lgi : (G.size : Int) ≤ 4 := by omega
  clear hX hY hxm hym hb3 hG hgap eZ eO h2 h1
  go_enter Tryz.func8, Tryz.ntmps8
  go_wp2_with fail
  refine CS.out.mono ?_; rintro e w1 ⟨rfl, hb1⟩
  go_upto_region 3 with fail
  have hS := Ow.lit (E := encS) (e := 9) w1 w1.heap.size SB (Nat.le_refl _) (by rw [SB_len]; decide) #[.string ⟨#[60, 45, 91]⟩, .string ⟨#[60, 126, 91]⟩, .string ⟨#[93, 45, 62]⟩, .string ⟨#[93, 126, 62]⟩, .string ⟨#[60, 45, 62]⟩, .string ⟨#[45, 91]⟩, .string ⟨#[126, 91]⟩, .string ⟨#[93, 45]⟩, .string ⟨#[93, 126]⟩, .string ⟨#[45, 62]⟩, .string ⟨#[60, 45]⟩, .string ⟨#[60, 126]⟩, .string ⟨#[126, 62]⟩, .string ⟨#[60, 61]⟩, .string ⟨#[62, 61]⟩, .string ⟨#[60, 62]⟩, .string ⟨#[40]⟩, .string ⟨#[41]⟩, .string ⟨#[91]⟩, .string ⟨#[93]⟩, .string ⟨#[123]⟩, .string ⟨#[125]⟩, .string ⟨#[44]⟩, .string ⟨#[58]⟩, .string ⟨#[124]⟩, .string ⟨#[38]⟩, .string ⟨#[33]⟩, .string ⟨#[37]⟩, .string ⟨#[42]⟩, .string ⟨#[43]⟩, .string ⟨#[63]⟩, .string ⟨#[61]⟩, .string ⟨#[60]⟩, .string ⟨#[62]⟩, .string ⟨#[45]⟩, .string ⟨#[126]⟩] rfl
  have hW1 := below_a1 w1 (.cells #[.string ⟨#[60, 45, 91]⟩, .string ⟨#[60, 126, 91]⟩, .string ⟨#[93, 45, 62]⟩, .string ⟨#[93, 126, 62]⟩, .string ⟨#[60, 45, 62]⟩, .string ⟨#[45, 91]⟩, .string ⟨#[126, 91]⟩, .string ⟨#[93, 45]⟩, .string ⟨#[93, 126]⟩, .string ⟨#[45, 62]⟩, .string ⟨#[60, 45]⟩, .string ⟨#[60, 126]⟩, .string ⟨#[126, 62]⟩, .string ⟨#[60, 61]⟩, .string ⟨#[62, 61]⟩, .string ⟨#[60, 62]⟩, .string ⟨#[40]⟩, .string ⟨#[41]⟩, .string ⟨#[91]⟩, .string ⟨#[93]⟩, .string ⟨#[123]⟩, .string ⟨#[125]⟩, .string ⟨#[44]⟩, .string ⟨#[58]⟩, .string ⟨#[124]⟩, .string ⟨#[38]⟩, .string ⟨#[33]⟩, .string ⟨#[37]⟩, .string ⟨#[42]⟩, .string ⟨#[43]⟩, .string ⟨#[63]⟩, .string ⟨#[61]⟩, .string ⟨#[60]⟩, .string ⟨#[62]⟩, .string ⟨#[45]⟩, .string ⟨#[126]⟩] 9)
  rw [SB_len] at hS
  generalize w1.alloc (.cells #[.string ⟨#[60, 45, 91]⟩, .string ⟨#[60, 126, 91]⟩, .string ⟨#[93, 45, 62]⟩, .string ⟨#[93, 126, 62]⟩, .string ⟨#[60, 45, 62]⟩, .string ⟨#[45, 91]⟩, .string ⟨#[126, 91]⟩, .string ⟨#[93, 45]⟩, .string ⟨#[93, 126]⟩, .string ⟨#[45, 62]⟩, .string ⟨#[60, 45]⟩, .string ⟨#[60, 126]⟩, .string ⟨#[126, 62]⟩, .string ⟨#[60, 61]⟩, .string ⟨#[62, 61]⟩, .string ⟨#[60, 62]⟩, .string ⟨#[40]⟩, .string ⟨#[41]⟩, .string ⟨#[91]⟩, .string ⟨#[93]⟩, .string ⟨#[123]⟩, .string ⟨#[125]⟩, .string ⟨#[44]⟩, .string ⟨#[58]⟩, .string ⟨#[124]⟩, .string ⟨#[38]⟩, .string ⟨#[33]⟩, .string ⟨#[37]⟩, .string ⟨#[42]⟩, .string ⟨#[43]⟩, .string ⟨#[63]⟩, .string ⟨#[61]⟩, .string ⟨#[60]⟩, .string ⟨#[62]⟩, .string ⟨#[45]⟩, .string ⟨#[126]⟩] 9) = W at *
  have c1 := Below.chain hb1 hW1
  have HS := Lib.hid hS.rw
  have cx := rws_at hS.rw i (by rw [SB_len]; exact hi2)
  have cy := rws_at hS.rw j (by rw [SB_len]; exact hj2)
  rw [HX.out] at cx
  rw [HY.out] at cy
  clear hS hW1
  go_upto_region 6 with fail
  rw [HG.out]
  have cG := below_a1 W (.cells #[.string ⟨#[32]⟩, .string ⟨#[9]⟩, .string ⟨#[10]⟩, .string ⟨#[32, 13, 10, 32]⟩] 9)
  generalize W.alloc (.cells #[.string ⟨#[32]⟩, .string ⟨#[9]⟩, .string ⟨#[10]⟩, .string ⟨#[32, 13, 10, 32]⟩] 9) = W2 at *
  have c2 := Below.chain c1 cG
  have HS2 := Lib.hid (HS.out.keep cG)
  clear cG cx cy
  go_wp2_with fail
  refine (C2.out _ (hT.below c2)).mono ?_; rintro e w3 h3
  obtain ⟨⟨v3, rfl, hO3⟩, hb3⟩ := lexR_ok h3 X2.out
  obtain ⟨va3, vc3, rfl⟩ := hO3.shape
  have c3 := Below.chain c2 hb3
  have HS3 := Lib.hid (HS2.out.keep hb3)
  have HO3 := Lib.hid hO3
  simp only [List.length_cons, List.length_nil, Nat.reduceAdd]
  clear h3 hb3 hO3 c2
  go_wp2_with fail
  refine (C1.out _ (hT.below c3)).mono ?_; rintro e w4 h4
  obtain ⟨⟨v4, rfl, hO4⟩, hb4⟩ := lexR_ok h4 X1.out
  obtain ⟨va4, vc4, rfl⟩ := hO4.shape
  have c4 := Below.chain c3 hb4
  have HS4 := Lib.hid (HS3.out.keep hb4)
  have HQ3 := Lib.hid (HO3.out.below hb4).rw
  have HQ4 := Lib.hid hO4.rw
  obtain ⟨OL, hOL⟩ : ∃ OL, (⟨ok, O.data.toList.take (signN O.data.toList), oa⟩ :: orr : List Tk).length = OL := ⟨_, rfl⟩
  have hOL1 : 1 ≤ OL := by rw [← hOL]; simp
  have olz : ((OL : Int) == 0) = false := by rw [beq_eq_false_iff_ne]; omega
  have HOL := Lib.hid hOL
  rw [hOL]
  clear h4 hb4 hO4 c3 hOL
  go_wp2_with fail
  go_loopg [18, 19, 20] 36 (fun g s18 s19 s20 wr => ∃ (n : Nat) (bb : ByteArray), g + n = 36 ∧ s19 = .int .i64 n ∧ s18 = .string bb ∧ bb.data.toList = O.data.toList.take bb.size ∧ bb.size = maxP O.data.toList (signsL.take n) ∧ Below w4.heap.size w4 wr)
  case atStart => exact ⟨0, ⟨#[]⟩, rfl, rfl, rfl, rfl, rfl, Below.refl _ _⟩
  case round =>
    obtain ⟨n, bb, hg, rfl, rfl, hb1, hb2, hb⟩ := hrel
    have HB := Lib.hid hb
    have n0 : (0 : Int) ≤ (n : Int) := by omega
    by_cases hlt : n < 36
    · have ii : (n : Int) < 36 := by omega
      have cz := rws_at (HS4.out.keep hb) n (by rw [SB_len]; exact hlt)
      have ez := sb_get n (by rw [SB_len]; exact hlt) hlt
      have hst := max_step O.data.toList n hlt
      rw [← ez, ← hb2] at hst
      have HB1 := Lib.hid hb1
      have HB2 := Lib.hid hb2
      generalize SB[n]'(by rw [SB_len]; exact hlt) = z at *
      have HST := Lib.hid hst
      clear ez hst hb1 hb2 hb
      have bi : (bb.size : Int) ≤ 6 := by
        have := HB1.out
        have h2 := congrArg List.length this
        rw [List.length_take, lx_len, lx_len] at h2
        omega
      by_cases hzo : z.size ≤ O.size
      · have y1 : (z.size : Int) ≤ (O.size : Int) := by omega
        have y0 : (0 : Int) ≤ (z.size : Int) := by omega
        have d1 : decide ((z.size : Int) ≤ (O.size : Int)) = true := by simp; omega
        have d1' : decide (z.size ≤ O.size) = true := by simp; omega
        by_cases heq : O.extract 0 z.size = z
        · have HP := Lib.hid (show Lib.hasPrefix O.data.toList z.data.toList = true by
            rw [hp_pref]
            have : z.data.toList = O.data.toList.take z.size := by
              conv => lhs; rw [← heq]
              rw [lx_ext]; rfl
            rw [this]; exact List.take_prefix _ _)
          have HE := Lib.hid (show z.data.toList = O.data.toList.take z.size by
              conv => lhs; rw [← heq]
              rw [lx_ext]; rfl)
          by_cases hgt : bb.size < z.size
          · have d2 : decide ((bb.size : Int) < (z.size : Int)) = true := by simp; omega
            have d2' : decide (bb.size < z.size) = true := by simp; omega
            have HN := Lib.hid (show z.size = maxP O.data.toList (signsL.take (n + 1)) by rw [HST.out, if_pos HP.out, lx_len]; omega)
            go_wp2_with fail
            go_quiet (fail)
            all_goals
              go_wp2_with fail
              go_roundg (36 - (n + 1))
              case rel => exact ⟨n + 1, z, by omega, by go_num, rfl, HE.out, HN.out, below_drewN HB.out _⟩
              case measure => omega
          · have d2 : decide ((bb.size : Int) < (z.size : Int)) = false := by simp; omega
            have d2' : decide (bb.size < z.size) = false := by simp; omega
            have HN := Lib.hid (show bb.size = maxP O.data.toList (signsL.take (n + 1)) by rw [HST.out, if_pos HP.out, lx_len]; omega)
            go_wp2_with fail
            go_quiet (fail)
            all_goals
              go_wp2_with fail
              go_roundg (36 - (n + 1))
              case rel => exact ⟨n + 1, bb, by omega, by go_num, rfl, HB1.out, HN.out, below_drewN HB.out _⟩
              case measure => omega
        · obtain ⟨V, hV⟩ : ∃ V, O.extract 0 z.size = V := ⟨_, rfl⟩
          have hVz : (V.toList == z.toList) = false := by
            rw [beq_eq_false_iff_ne, Lib.toList_data, Lib.toList_data]
            intro h
            apply heq
            rw [hV]
            exact (ba_of h).trans rfl
          have HN := Lib.hid (show bb.size = maxP O.data.toList (signsL.take (n + 1)) by
            rw [HST.out, if_neg]
            · omega
            · rw [hp_pref]
              intro hp
              apply heq
              have h1 := List.prefix_iff_eq_take.1 hp
              rw [lx_len] at h1
              have h2 : (O.extract 0 z.size).data.toList = z.data.toList := by rw [lx_ext]; exact h1.symm
              exact (ba_of h2).trans rfl)
          clear heq
          go_wp2_with fail
          go_quiet (fail)
          all_goals
            go_wp2_with fail
            go_roundg (36 - (n + 1))
            case rel => exact ⟨n + 1, bb, by omega, by go_num, rfl, HB1.out, HN.out, below_drewN HB.out _⟩
            case measure => omega
      · have d1 : decide ((z.size : Int) ≤ (O.size : Int)) = false := by simp; omega
        have d1' : decide (z.size ≤ O.size) = false := by simp; omega
        have HN := Lib.hid (show bb.size = maxP O.data.toList (signsL.take (n + 1)) by
          rw [HST.out, if_neg]
          · omega
          · rw [hp_pref]
            intro hp
            have := hp.length_le
            rw [lx_len, lx_len] at this
            omega)
        go_wp2_with fail
        go_quiet (fail)
        all_goals
          go_wp2_with fail
          go_roundg (36 - (n + 1))
          case rel => exact ⟨n + 1, bb, by omega, by go_num, rfl, HB1.out, HN.out, below_drewN HB.out _⟩
          case measure => omega
    · have ii : ¬ ((n : Int) < 36) := by omega
      have en : n = 36 := by omega
      have et : bb = ⟨(O.data.toList.take (signN O.data.toList)).toArray⟩ := by
        apply ba_of
        rw [hb1, hb2, en, sign_max, List.take_of_length_le (show signsL.length ≤ 36 from Nat.le_refl _)]
      obtain ⟨b3, o3, rfl, hc3⟩ := RwK.at (HQ3.out.keep hb) 0 (by simp)
      obtain ⟨p0, p1, -⟩ := hc3 0 (by simp)
      obtain ⟨u0, u1, -⟩ := hc3 1 (by simp)
      obtain ⟨b4, o4, rfl, hc4⟩ := RwK.at (HQ4.out.keep hb) 0 (by simp)
      obtain ⟨-, q1, -⟩ := hc4 0 (by simp)
      simp only [List.getElem_cons_succ, List.getElem_cons_zero, Nat.reduceMul, Nat.add_zero] at p0 p1 u0 u1 q1
      rw [← et] at q1
      rw [show (⟨X.data.toList.toArray⟩ : ByteArray) = X from rfl] at p1
      rw [show (⟨Y.data.toList.toArray⟩ : ByteArray) = Y from rfl] at u1
      have ol1 : (0 : Int) < (OL : Int) := by omega
      have c5 := Below.chain c4 HB.out
      clear hc3 hc4 hb et hb1 hb2
      go_wp2_with fail
      go_ret
      exact ⟨rfl, c5⟩
theorem walk (a b c : Int) (a1 : -9223372036854775808 ≤ a) (a2 : a ≤ 9223372036854775807) (b1 : -9223372036854775808 ≤ b) (b2 : b ≤ 9223372036854775807) (c1 : -9223372036854775808 ≤ c) (c2 : c ≤ 9223372036854775807) (w : World) (hT : TabsX w) :
    Calls Tryz.prog 8 #[.int .i64 a, .int .i64 b, .int .i64 c] w fun e w' => e = .returned (.bool true) ∧ Below w.heap.size w w' := by
  obtain ⟨A, hA, hA2⟩ := lex_mask a
  obtain ⟨B, hB, hB2⟩ := lex_mask b
  obtain ⟨C, hC, hC2⟩ := lex_mask3 c
  exact core a b c (A % 36) (B % 36) A B C hA rfl (Nat.mod_lt _ (by decide)) hB rfl (Nat.mod_lt _ (by decide)) hC hC2 _ _ rfl rfl w hT
end Go.Proofs.YtainigcchlgehaaGreatDoor.LexSigns
