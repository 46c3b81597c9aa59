import Derived.Test.YtainigcchlgehaaGreatDoorBS
import Derived.Test.YtainigcchlgehaaGreatDoorGW
import Derived.Lib.SlTrimSet
namespace Go.Proofs.YtainigcchlgehaaGreatDoor
open Go Go.RowKit
set_option linter.unusedVariables false
/-! What the tokens of a text are. -/
abbrev Bt := List UInt8
def blanksL : Bt := [32, 9, 13, 10]
/-- how long what Read takes is -/
def szR : Option (Nat × Int × Int × Nat × Bt) → Nat
  | some p => p.1
  | none => 0
def numN (l : Bt) : Nat := max (szR (vrdSem l)) (szR (vrdSem (45 :: l)) - 1)
def runP : Bt → Nat
  | [] => 0
  | c :: t => if okc c.toNat = true then runP t + 1 else 0
def keysL : List Bt := [[87, 65, 76, 75], [84, 82, 65, 73, 76], [65, 67, 89, 67, 76, 73, 67], [83, 73, 77, 80, 76, 69], [65, 76, 76], [65, 78, 89], [83, 72, 79, 82, 84, 69, 83, 84], [87, 72, 69, 82, 69], [79, 82], [65, 78, 68], [78, 79, 84], [73, 83], [110, 117, 108, 108], [116, 114, 117, 101], [102, 97, 108, 115, 101], [105, 110, 102], [110, 97, 110]]
def isKeyB (l : Bt) : Bool := keysL.contains l
def wordF (l : Bt) : Nat × Nat :=
  if wordL (l.take (runP l)) = false then (1, 0) else if isKeyB (l.take (runP l)) = true then (2, runP l) else (1, runP l)
def signs3 : List Bt := [[60, 45, 91], [60, 126, 91], [93, 45, 62], [93, 126, 62], [60, 45, 62]]
def signs2 : List Bt := [[45, 91], [126, 91], [93, 45], [93, 126], [45, 62], [60, 45], [60, 126], [126, 62], [60, 61], [62, 61], [60, 62]]
def signs1 : List Bt := [[40], [41], [91], [93], [123], [125], [44], [58], [124], [38], [33], [37], [42], [43], [63], [61], [60], [62], [45], [126]]
def signsL : List Bt := signs3 ++ (signs2 ++ signs1)
/-- the first of these that stands ahead: how long it is -/
def findS (l : Bt) : List Bt → Nat
  | [] => 0
  | s :: t => if Lib.hasPrefix l s = true then s.length else findS l t
def signN (l : Bt) : Nat := findS l signsL
/-- the kind of the token that stands ahead, and its size: 0 is none -/
def firstF : Bt → Nat × Nat
  | [] => (0, 0)
  | c :: t => if digitB c.toNat = true then (3, numN (c :: t)) else if begB c.toNat = true then wordF (c :: t)
    else if c = 39 then (4, szR (vrdSem (c :: t))) else (5, signN (c :: t))
/-- how many blanks stand ahead -/
def blN : Bt → Nat
  | [] => 0
  | c :: t => if blanksL.contains c = true then blN t + 1 else 0
structure Tk where
  kind : Nat
  text : Bt
  pos : Nat
deriving DecidableEq
/-- the tokens of what stands from at on, or where the first begins that is none -/
def lexL : Nat → Bt → Nat → Except Nat (List Tk)
  | 0, _, _ => .ok []
  | f + 1, l, p => match l.drop (blN l) with
    | [] => .ok []
    | c :: t => if (firstF (c :: t)).2 = 0 then .error (p + blN l)
      else match lexL f ((c :: t).drop (firstF (c :: t)).2) (p + blN l + (firstF (c :: t)).2) with
        | .error e => .error e
        | .ok r => .ok (⟨(firstF (c :: t)).1, (c :: t).take (firstF (c :: t)).2, p + blN l⟩ :: r)
def lexT (l : Bt) (p : Nat) : Except Nat (List Tk) := lexL (l.length + 1) l p
theorem blN_le : ∀ l : Bt, blN l ≤ l.length
  | [] => Nat.le_refl _
  | c :: t => by unfold blN; have := blN_le t; split <;> simp <;> omega
theorem runP_le : ∀ l : Bt, runP l ≤ l.length
  | [] => Nat.le_refl _
  | c :: t => by unfold runP; have := runP_le t; split <;> simp <;> omega
theorem dropWhile_bl : ∀ l : Bt, l.dropWhile (blanksL.contains ·) = l.drop (blN l)
  | [] => rfl
  | c :: t => by
    unfold blN
    rw [List.dropWhile_cons]
    by_cases h : blanksL.contains c = true
    · rw [if_pos h, if_pos h, dropWhile_bl t]; rfl
    · rw [if_neg h, if_neg h]; rfl
/-- behind the blanks stands no blank -/
theorem bl_head : ∀ (l : Bt) (c : UInt8) (t : Bt), l.drop (blN l) = c :: t → blanksL.contains c = false
  | [], _, _, h => by simp [blN] at h
  | d :: l, c, t, h => by
    unfold blN at h
    by_cases hd : blanksL.contains d = true
    · rw [if_pos hd] at h; exact bl_head l c t h
    · rw [if_neg hd] at h
      simp at h
      obtain ⟨rfl, rfl⟩ := h
      simpa using hd
theorem blN_zero {c : UInt8} {t : Bt} (h : blanksL.contains c = false) : blN (c :: t) = 0 := by
  unfold blN; rw [if_neg (by simpa using h)]
theorem blN_succ {c : UInt8} {t : Bt} (h : blanksL.contains c = true) : blN (c :: t) = blN t + 1 := by
  show (if blanksL.contains c = true then blN t + 1 else 0) = _
  rw [if_pos h]
/-- enough is enough -/
theorem lexL_fuel : ∀ (f g : Nat) (l : Bt) (p : Nat), l.length < f → l.length < g → lexL f l p = lexL g l p
  | 0, _, _, _, h, _ => by omega
  | _, 0, _, _, _, h => by omega
  | f + 1, g + 1, l, p, h1, h2 => by
    unfold lexL
    cases hd : l.drop (blN l) with
    | nil => rfl
    | cons c t =>
      dsimp only
      have hl : (c :: t).length ≤ l.length := by rw [← hd]; simp
      by_cases h0 : (firstF (c :: t)).2 = 0
      · rw [if_pos h0, if_pos h0]
      · rw [if_neg h0, if_neg h0]
        have : ((c :: t).drop (firstF (c :: t)).2).length < f ∧ ((c :: t).drop (firstF (c :: t)).2).length < g := by
          rw [List.length_drop]; simp only [List.length_cons] at hl ⊢; omega
        rw [lexL_fuel f g _ _ this.1 this.2]
/-- one step -/
theorem lexT_nil {l : Bt} (p : Nat) (h : l.drop (blN l) = []) : lexT l p = .ok [] := by
  unfold lexT lexL; rw [h]
theorem lexT_bad {l : Bt} (p : Nat) {c : UInt8} {t : Bt} (h : l.drop (blN l) = c :: t) (h0 : (firstF (c :: t)).2 = 0) : lexT l p = .error (p + blN l) := by
  unfold lexT lexL; rw [h]; dsimp only; rw [if_pos h0]
theorem lexT_cons {l : Bt} (p : Nat) {c : UInt8} {t : Bt} (h : l.drop (blN l) = c :: t) (h0 : (firstF (c :: t)).2 ≠ 0) :
    lexT l p = match lexT ((c :: t).drop (firstF (c :: t)).2) (p + blN l + (firstF (c :: t)).2) with
      | .error e => .error e
      | .ok r => .ok (⟨(firstF (c :: t)).1, (c :: t).take (firstF (c :: t)).2, p + blN l⟩ :: r) := by
  have hl : (c :: t).length ≤ l.length := by rw [← h]; simp
  rw [lexT, lexL, h]
  dsimp only
  rw [if_neg h0, lexL_fuel l.length (((c :: t).drop (firstF (c :: t)).2).length + 1) _ _ (by rw [List.length_drop]; simp only [List.length_cons] at hl ⊢; omega) (by omega)]
  rfl
theorem lexT_blank {c : UInt8} (l : Bt) (p : Nat) (h : blanksL.contains c = true) : lexT (c :: l) p = lexT l (p + 1) := by
  have e : (c :: l).drop (blN (c :: l)) = l.drop (blN l) := by rw [blN_succ h]; rfl
  cases hd : l.drop (blN l) with
  | nil => rw [lexT_nil _ hd, lexT_nil _ (e.trans hd)]
  | cons d t =>
    by_cases h0 : (firstF (d :: t)).2 = 0
    · rw [lexT_bad _ hd h0, lexT_bad _ (e.trans hd) h0, blN_succ h]; congr 1; omega
    · rw [lexT_cons _ hd h0, lexT_cons _ (e.trans hd) h0, blN_succ h, show p + (blN l + 1) = p + 1 + blN l by omega]
/-- what is ahead of it: tokens that are there already -/
def appE (r : List Tk) : Except Nat (List Tk) → Except Nat (List Tk)
  | .error e => .error e
  | .ok t => .ok (r ++ t)
theorem appE_nil (x : Except Nat (List Tk)) : appE [] x = x := by cases x <;> rfl
theorem lexT_step {l : Bt} (r : List Tk) (p : Nat) {c : UInt8} {t : Bt} (h : l.drop (blN l) = c :: t) (h0 : (firstF (c :: t)).2 ≠ 0) :
    appE r (lexT l p) = appE (r ++ [⟨(firstF (c :: t)).1, (c :: t).take (firstF (c :: t)).2, p + blN l⟩]) (lexT ((c :: t).drop (firstF (c :: t)).2) (p + blN l + (firstF (c :: t)).2)) := by
  rw [lexT_cons p h h0]
  cases lexT ((c :: t).drop (firstF (c :: t)).2) (p + blN l + (firstF (c :: t)).2) with
  | error e => rfl
  | ok s => simp [appE]
/-- texts of floats that begin with no sign -/
theorem ftext_short (a : Nat) (ha : a < 18446744073709551616) (h : (Flt.text a).head? ≠ some 45) : (Flt.text a).length ≤ 22 := by
  by_cases hn : Flt.isNan a = true
  · have e : Flt.text a = [110, 97, 110] := by unfold Flt.text; rw [if_pos hn]
    rw [e]; decide
  by_cases h1 : a = 9218868437227405312
  · have e : Flt.text a = [105, 110, 102] := by unfold Flt.text; rw [if_neg hn, if_pos h1]
    rw [e]; decide
  by_cases h2 : a = 18442240474082181120
  · have e : Flt.text a = [45, 105, 110, 102] := by unfold Flt.text; rw [if_neg hn, if_neg h1, if_pos h2]
    rw [e]; decide
  have hn' : Flt.isNan a = false := by simpa using hn
  have hr : Flt.rung a < 9218868437227405312 := by
    unfold Flt.isNan Flt.rung at hn'
    unfold Flt.rung
    simp at hn'
    omega
  have e : Flt.text a = (if Flt.neg a = true then [45] else []) ++ (Lib.decDigits (Flt.oddM (Flt.rung a)) ++ (112 :: Lib.itoa (Flt.oddE (Flt.rung a)))) := by unfold Flt.text; rw [if_neg hn, if_neg h1, if_neg h2]
  have hM := Flt.oddM_lt (Flt.rung a)
  have hE := Flt.oddE_bounds hr
  have p16 : (10 : Nat) ^ (15 + 1) = 10000000000000000 := by decide
  have lM : (Lib.decDigits (Flt.oddM (Flt.rung a))).length ≤ 16 := dec_len_pw 15 _ (by omega)
  have lE : (Lib.itoa (Flt.oddE (Flt.rung a))).length ≤ 5 := by
    unfold Lib.itoa
    have e4 : (10 : Nat) ^ (3 + 1) = 10000 := by decide
    split
    · have := dec_len_pw 3 (Flt.oddE (Flt.rung a)).natAbs (by omega)
      simp; omega
    · have := dec_len_pw 3 (Flt.oddE (Flt.rung a)).toNat (by omega)
      omega
  by_cases hneg : Flt.neg a = true
  · rw [e, if_pos hneg] at h; simp at h
  · rw [e, if_neg hneg]; simp only [List.nil_append, List.length_append, List.length_cons]; omega
theorem rp_short {m : Bt} {v : Int × Int × Nat} (h : rpSem m = some v) (h45 : m.head? ≠ some 45) : m.length ≤ 22 := by
  unfold rpSem at h
  by_cases q0 : m = [110, 117, 108, 108]
  · rw [q0]; decide
  by_cases q1 : m = [102, 97, 108, 115, 101]
  · rw [q1]; decide
  by_cases q2 : m = [116, 114, 117, 101]
  · rw [q2]; decide
  rw [if_neg q0, if_neg q1, if_neg q2] at h
  have hf : ∀ {o : Option (Int × Int × Nat)}, (parseSem m).map (fun f => ((3 : Int), (0 : Int), f)) = some v → m.length ≤ 22 := fun {o} hh => by
    cases hp : parseSem m with
    | none => rw [hp] at hh; cases hh
    | some f =>
      obtain ⟨a, b, c⟩ := parseSem_some hp
      have := ftext_short f a (by rw [b]; exact h45)
      rwa [b] at this
  split at h
  · rename_i x hx
    split at h
    · rename_i hi
      have hb := pi64_le hx
      rw [← hi]
      have := itoa_len20 x hb.1 hb.2; omega
    · exact hf (o := none) h
  · exact hf (o := none) h
theorem findR_take (l : Bt) (k : Nat) : ∀ n, n ≤ k → findR (l.take k) n = findR l n
  | 0, _ => rfl
  | n + 1, h => by
    simp only [findR]
    rw [List.take_take, Nat.min_eq_left h, findR_take l k n (by omega)]
theorem runN_cut : ∀ (m k : Nat) (l : Bt), runN m (l.take k) = min (runN m l) k
  | 0, k, l => by simp [runN]
  | m + 1, 0, l => by simp [runN]
  | m + 1, k + 1, [] => by simp [runN]
  | m + 1, k + 1, c :: l => by
    rw [List.take_succ_cons]
    unfold runN
    split
    · rw [runN_cut m k l]; omega
    · simp
/-- what is longer than that does not matter -/
theorem vrd_23 (l : Bt) (hq : Lib.hasPrefix l [39] = false) : vrdSem (l.take 23) = vrdSem l := by
  have hq2 : Lib.hasPrefix (l.take 23) [39] = false := by
    cases h : Lib.hasPrefix (l.take 23) [39] with
    | false => rfl
    | true =>
      rw [hp_iff] at h
      have : Lib.hasPrefix l [39] = true := (hp_iff l).2 (by rw [List.head?_take] at h; simpa using h)
      rw [this] at hq; cases hq
  unfold vrdSem
  rw [if_neg (by rw [hq2]; decide), if_neg (by rw [hq]; decide), runN_cut]
  have := (runN_le 23 l).1
  rw [Nat.min_eq_left this, findR_take l 23 _ this]
theorem vrd_22 (l : Bt) (hq : Lib.hasPrefix l [39] = false) (h45 : l.head? ≠ some 45) : vrdSem (l.take 22) = vrdSem l := by
  have hq2 : Lib.hasPrefix (l.take 22) [39] = false := by
    cases h : Lib.hasPrefix (l.take 22) [39] with
    | false => rfl
    | true =>
      rw [hp_iff] at h
      have : Lib.hasPrefix l [39] = true := (hp_iff l).2 (by rw [List.head?_take] at h; simpa using h)
      rw [this] at hq; cases hq
  unfold vrdSem
  rw [if_neg (by rw [hq2]; decide), if_neg (by rw [hq]; decide), runN_cut, findR_take l 22 _ (Nat.min_le_right _ _)]
  have h23 := runN_le 23 l
  congr 1
  by_cases hr : runN 23 l = 23
  · rw [hr]
    show findR l 22 = (match rpSem (l.take 23) with | some v => some (23, v) | none => findR l 22)
    cases hx : rpSem (l.take 23) with
    | none => rfl
    | some v =>
      have := rp_short hx (by rw [List.head?_take]; simpa using h45)
      rw [List.length_take] at this
      omega
  · rw [Nat.min_eq_left (by omega)]
theorem hp_no {c : UInt8} {t : Bt} (h : c ≠ 39) : Lib.hasPrefix (c :: t) [39] = false := by
  cases hh : Lib.hasPrefix (c :: t) [39] with
  | false => rfl
  | true => rw [hp_iff] at hh; exact absurd (Option.some.inj hh) h
theorem num_cut {c : UInt8} {t : Bt} (h : digitB c.toNat = true) : numN ((c :: t).take 22) = numN (c :: t) := by
  have h39 : c ≠ 39 := by rintro rfl; revert h; decide
  have h45 : c ≠ 45 := by rintro rfl; revert h; decide
  unfold numN
  rw [vrd_22 (c :: t) (hp_no h39) (by simpa using h45)]
  rw [show (45 :: (c :: t).take 22 : Bt) = (45 :: c :: t).take 23 from rfl, vrd_23 (45 :: c :: t) (hp_no (by decide))]
end Go.Proofs.YtainigcchlgehaaGreatDoor
