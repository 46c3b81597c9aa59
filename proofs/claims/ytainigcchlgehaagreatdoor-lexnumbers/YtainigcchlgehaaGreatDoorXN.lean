import Derived.Test.YtainigcchlgehaaGreatDoorXM
namespace Go.Proofs.YtainigcchlgehaaGreatDoor
open Go Go.RowKit
set_option linter.unusedVariables false
/-! ### rows of tokens -/
def Tk.up (q : Nat) (t : Tk) : Tk := ⟨t.kind, t.text, t.pos + q⟩
def upE (q : Nat) : Except Nat (List Tk) → Except Nat (List Tk)
  | .error p => .error (p + q)
  | .ok r => .ok (r.map (Tk.up q))
/-- by the length: what holds of what is left behind the first token holds of all -/
theorem lex_ind {M : Bt → Prop} (h0 : ∀ l, l.drop (blN l) = [] → M l) (h1 : ∀ l c t, l.drop (blN l) = c :: t → (firstF (c :: t)).2 = 0 → M l)
    (h2 : ∀ l c t, l.drop (blN l) = c :: t → (firstF (c :: t)).2 ≠ 0 → M ((c :: t).drop (firstF (c :: t)).2) → M l) : ∀ l, M l := by
  have key : ∀ n l, l.length ≤ n → M l := by
    intro n
    induction n with
    | zero =>
      intro l hl
      have : l = [] := List.eq_nil_of_length_eq_zero (by omega)
      subst this
      exact h0 [] rfl
    | succ n ih =>
      intro l hl
      cases hd : l.drop (blN l) with
      | nil => exact h0 l hd
      | cons c t =>
        by_cases hz : (firstF (c :: t)).2 = 0
        · exact h1 l c t hd hz
        · refine h2 l c t hd hz (ih _ ?_)
          have hl2 : (c :: t).length ≤ l.length := by rw [← hd]; simp
          rw [List.length_drop]
          simp only [List.length_cons] at hl2 ⊢
          omega
  exact fun l => key l.length l (Nat.le_refl _)
theorem lexT_up (q : Nat) : ∀ (l : Bt) (p : Nat), lexT l (p + q) = upE q (lexT l p) := by
  refine lex_ind (M := fun l => ∀ p, lexT l (p + q) = upE q (lexT l p)) ?_ ?_ ?_
  · intro l h p; rw [lexT_nil _ h, lexT_nil _ h]; rfl
  · intro l c t h hz p; rw [lexT_bad _ h hz, lexT_bad _ h hz]; show Except.error _ = Except.error _; congr 1; omega
  · intro l c t h hz ih p
    rw [lexT_cons _ h hz, lexT_cons _ h hz]
    rw [show p + q + blN l + (firstF (c :: t)).2 = (p + blN l + (firstF (c :: t)).2) + q by omega, ih]
    cases lexT ((c :: t).drop (firstF (c :: t)).2) (p + blN l + (firstF (c :: t)).2) with
    | error e => rfl
    | ok r =>
      show Except.ok _ = Except.ok _
      congr 1
      show _ = Tk.up q _ :: r.map (Tk.up q)
      unfold Tk.up
      congr 2
      show p + q + blN l = p + blN l + q
      omega
theorem blN_app {l : Bt} {c : UInt8} {t : Bt} (y : Bt) (h : l.drop (blN l) = c :: t) : blN (l ++ y) = blN l ∧ (l ++ y).drop (blN (l ++ y)) = c :: t ++ y := by
  have h1 : blN (l ++ y) = blN l := by
    induction l with
    | nil => simp [blN] at h
    | cons d l ih =>
      by_cases hd : blanksL.contains d = true
      · rw [blN_succ hd] at h
        rw [List.cons_append, blN_succ hd, blN_succ hd, ih h]
      · have hd' : blanksL.contains d = false := by simpa using hd
        rw [List.cons_append, blN_zero hd', blN_zero hd']
  refine ⟨h1, ?_⟩
  rw [h1, List.drop_append_of_le_length (blN_le l), h]
theorem blanks_nil {l : Bt} (h : l.drop (blN l) = []) : ∀ (y : Bt) (p : Nat), lexT (l ++ y) p = lexT y (p + l.length) := by
  induction l with
  | nil => intro y p; rfl
  | cons d l ih =>
    intro y p
    by_cases hd : blanksL.contains d = true
    · rw [blN_succ hd] at h
      rw [List.cons_append, lexT_blank _ _ hd, ih h, List.length_cons, show p + 1 + l.length = p + (l.length + 1) by omega]
    · have hd' : blanksL.contains d = false := by simpa using hd
      rw [blN_zero hd'] at h; cases h
/-- tokens behind tokens -/
theorem lexT_join (b : Bt) : ∀ (a : Bt) (p : Nat), lexT (a ++ 10 :: b) p = match lexT a p with
    | .error e => .error e
    | .ok r => appE r (lexT b (p + a.length + 1)) := by
  refine lex_ind (M := fun a => ∀ p, lexT (a ++ 10 :: b) p = match lexT a p with | .error e => .error e | .ok r => appE r (lexT b (p + a.length + 1))) ?_ ?_ ?_
  · intro a h p
    rw [lexT_nil _ h, blanks_nil h, lexT_blank _ _ (by decide)]
    dsimp only
    rw [appE_nil]
  · intro a c t h hz p
    obtain ⟨e1, e2⟩ := blN_app (10 :: b) h
    have hz' := firstF_bad (by simp) hz b
    rw [lexT_bad _ h hz]
    rw [List.cons_append] at e2 hz'
    rw [lexT_bad _ e2 hz', e1]
  · intro a c t h hz ih p
    obtain ⟨e1, e2⟩ := blN_app (10 :: b) h
    have hf := firstF_sep sep10 hz b
    have hle := firstF_le (c :: t)
    rw [List.cons_append] at e2 hf
    rw [lexT_cons _ h hz, lexT_cons _ e2 (by rw [hf]; exact hz), e1, hf, ← List.cons_append, List.drop_append_of_le_length hle, List.take_append_of_le_length hle, ih]
    have hal : a.length = blN a + (c :: t).length := by rw [← h, List.length_drop]; have := blN_le a; omega
    cases lexT ((c :: t).drop (firstF (c :: t)).2) (p + blN a + (firstF (c :: t)).2) with
    | error e => rfl
    | ok r =>
      dsimp only
      rw [List.length_drop, show p + blN a + (firstF (c :: t)).2 + ((c :: t).length - (firstF (c :: t)).2) + 1 = p + a.length + 1 by omega]
      cases lexT b (p + a.length + 1) with
      | error e => rfl
      | ok s => rfl
/-- a token that stands for itself -/
structure GoodTk (t : Tk) : Prop where
  one : firstF t.text = (t.kind, t.text.length)
  ne : t.text ≠ []
  head : ∀ c r, t.text = c :: r → blanksL.contains c = false
theorem good_of {c : UInt8} {t : Bt} (hb : blanksL.contains c = false) (hz : (firstF (c :: t)).2 ≠ 0) (p : Nat) : GoodTk ⟨(firstF (c :: t)).1, (c :: t).take (firstF (c :: t)).2, p⟩ := by
  have hle := firstF_le (c :: t)
  obtain ⟨n, hn⟩ : ∃ n, (firstF (c :: t)).2 = n + 1 := ⟨(firstF (c :: t)).2 - 1, by omega⟩
  refine ⟨?_, ?_, ?_⟩
  · show firstF ((c :: t).take _) = (_, ((c :: t).take _).length)
    rw [firstF_cut hz _ (Nat.le_refl _), List.length_take, Nat.min_eq_left hle]
  · show (c :: t).take _ ≠ []
    rw [hn]; simp
  · intro d r h
    have h' : (c :: t).take (firstF (c :: t)).2 = d :: r := h
    rw [hn, List.take_succ_cons] at h'
    injection h' with h1 _
    rw [← h1]; exact hb
/-- where tokens stand: each behind the one ahead, as it stands there -/
def Stand (s : Bt) : Nat → List Tk → Prop
  | _, [] => True
  | e, t :: r => e ≤ t.pos ∧ (s.drop t.pos).take t.text.length = t.text ∧ t.pos + t.text.length ≤ s.length ∧ GoodTk t ∧ 1 ≤ t.kind ∧ t.kind ≤ 5 ∧ Stand s (t.pos + t.text.length) r
theorem lex_stand (s : Bt) : ∀ (l : Bt) (p : Nat), s.drop p = l → p ≤ s.length → ∀ r, lexT l p = .ok r → Stand s p r := by
  refine lex_ind (M := fun l => ∀ p, s.drop p = l → p ≤ s.length → ∀ r, lexT l p = .ok r → Stand s p r) ?_ ?_ ?_
  · intro l h p _ _ r hr
    rw [lexT_nil _ h] at hr
    cases hr; trivial
  · intro l c t h hz p _ _ r hr
    rw [lexT_bad _ h hz] at hr; cases hr
  · intro l c t h hz ih p hs hp r hr
    rw [lexT_cons _ h hz] at hr
    have hle := firstF_le (c :: t)
    have hb := bl_head l c t h
    have hk := firstF_kind c t
    have hg := good_of hb hz (p + blN l)
    have hd : s.drop (p + blN l) = c :: t := by rw [← List.drop_drop, hs, h]
    have hlen : p + blN l + (c :: t).length = s.length := by
      have h1 : (s.drop (p + blN l)).length = (c :: t).length := by rw [hd]
      rw [List.length_drop] at h1
      simp only [List.length_cons] at h1 ⊢
      omega
    have ih' := ih (p + blN l + (firstF (c :: t)).2) (by rw [← List.drop_drop, hd]) (by omega)
    cases hx : lexT ((c :: t).drop (firstF (c :: t)).2) (p + blN l + (firstF (c :: t)).2) with
    | error e => rw [hx] at hr; cases hr
    | ok r' =>
      rw [hx] at hr
      injection hr with hr
      subst hr
      have hl : ((c :: t).take (firstF (c :: t)).2).length = (firstF (c :: t)).2 := by rw [List.length_take, Nat.min_eq_left hle]
      refine ⟨Nat.le_add_right _ _, ?_, ?_, hg, hk.1, hk.2, ?_⟩
      · show (s.drop (p + blN l)).take _ = _
        rw [hl, hd]
      · show p + blN l + _ ≤ _
        rw [hl]; omega
      · show Stand s (p + blN l + ((c :: t).take (firstF (c :: t)).2).length) r'
        rw [hl]; exact ih' r' hx
/-- the same tokens, but for where they stand -/
def Alike : List Tk → List Tk → Prop
  | [], [] => True
  | a :: r, b :: s => a.kind = b.kind ∧ a.text = b.text ∧ Alike r s
  | _, _ => False
theorem good_lex (t : Tk) (hg : GoodTk t) (p : Nat) : lexT t.text p = .ok [⟨t.kind, t.text, p⟩] := by
  cases hx : t.text with
  | nil => exact absurd hx hg.ne
  | cons c r =>
    have hb := hg.head c r hx
    have h0 : blN (c :: r) = 0 := blN_zero hb
    have hd : (c :: r).drop (blN (c :: r)) = c :: r := by rw [h0]; rfl
    have hf : firstF (c :: r) = (t.kind, (c :: r).length) := by rw [← hx]; exact hg.one
    rw [lexT_cons p hd (by rw [hf]; simp), hf, h0]
    have e1 : (c :: r).drop (c :: r).length = [] := List.drop_length
    have e2 : (c :: r).take (c :: r).length = c :: r := List.take_length
    show (match lexT ((c :: r).drop (c :: r).length) _ with | .error e => _ | .ok r' => _) = _
    rw [e1, lexT_nil _ rfl]
    show Except.ok [(⟨t.kind, (c :: r).take (c :: r).length, p⟩ : Tk)] = _
    rw [e2]
theorem good_lex2 (t : Tk) (hg : GoodTk t) (y : Bt) (p : Nat) : lexT (t.text ++ 32 :: y) p = match lexT y (p + t.text.length + 1) with
    | .error e => .error e
    | .ok r => .ok (⟨t.kind, t.text, p⟩ :: r) := by
  cases hx : t.text with
  | nil => exact absurd hx hg.ne
  | cons c r =>
    have hb := hg.head c r hx
    have h0 : blN (c :: (r ++ 32 :: y)) = 0 := blN_zero hb
    have hd : (c :: r ++ 32 :: y).drop (blN (c :: r ++ 32 :: y)) = c :: (r ++ 32 :: y) := by rw [List.cons_append, h0]; rfl
    have hf0 : firstF (c :: r) = (t.kind, (c :: r).length) := by rw [← hx]; exact hg.one
    have hf : firstF (c :: (r ++ 32 :: y)) = (t.kind, (c :: r).length) := by
      rw [← List.cons_append, firstF_sep sep32 (by rw [hf0]; simp) y, hf0]
    rw [lexT_cons p hd (by rw [hf]; simp), hf, List.cons_append, h0]
    have e1 : (c :: (r ++ 32 :: y)).drop (c :: r).length = 32 :: y := by rw [← List.cons_append, List.drop_left]
    have e2 : (c :: (r ++ 32 :: y)).take (c :: r).length = c :: r := by rw [← List.cons_append, List.take_left]
    show (match lexT ((c :: (r ++ 32 :: y)).drop (c :: r).length) (p + 0 + (c :: r).length) with | .error e => _ | .ok r' => _) = _
    rw [e1, lexT_blank _ _ (by decide), Nat.add_zero]
    cases lexT y (p + (c :: r).length + 1) with
    | error e => rfl
    | ok s =>
      show Except.ok ((⟨t.kind, (c :: (r ++ 32 :: y)).take (c :: r).length, p⟩ : Tk) :: s) = _
      rw [e2]
theorem lex_back : ∀ (r : List Tk) (p : Nat), (∀ t ∈ r, GoodTk t) → ∃ r', lexT (joinT r) p = .ok r' ∧ Alike r' r
  | [], p, _ => ⟨[], lexT_nil _ rfl, trivial⟩
  | [t], p, h => ⟨_, good_lex t (h t (by simp)) p, rfl, rfl, trivial⟩
  | t :: u :: r, p, h => by
    obtain ⟨r', h1, h2⟩ := lex_back (u :: r) (p + t.text.length + 1) (fun x hx => h x (by simp only [List.mem_cons] at hx ⊢; exact .inr hx))
    refine ⟨⟨t.kind, t.text, p⟩ :: r', ?_, rfl, rfl, h2⟩
    show lexT (t.text ++ 32 :: joinT (u :: r)) p = _
    rw [good_lex2 t (h t (by simp)), h1]
theorem stand_good {s : Bt} : ∀ {e : Nat} {r : List Tk}, Stand s e r → ∀ t ∈ r, GoodTk t
  | _, [], _, t, h => by cases h
  | e, a :: r, hs, t, h => by
    obtain ⟨_, _, _, hg, _, _, hr⟩ := hs
    rcases List.mem_cons.1 h with rfl | h
    · exact hg
    · exact stand_good hr t h
theorem stand_at {s : Bt} : ∀ {e : Nat} {r : List Tk}, Stand s e r → ∀ (k : Nat) (h : k < r.length), (s.drop r[k].pos).take r[k].text.length = r[k].text ∧ r[k].pos + r[k].text.length ≤ s.length ∧ GoodTk r[k] ∧ 1 ≤ r[k].kind ∧ r[k].kind ≤ 5
  | _, [], _, k, h => by simp at h
  | e, a :: r, hs, 0, h => ⟨hs.2.1, hs.2.2.1, hs.2.2.2.1, hs.2.2.2.2.1, hs.2.2.2.2.2.1⟩
  | e, a :: r, hs, k + 1, h => stand_at hs.2.2.2.2.2.2 k (by simpa using h)
/-- where the first k tokens end -/
def endAt (r : List Tk) (e : Nat) : Nat → Nat
  | 0 => e
  | k + 1 => match r[k]? with
    | some t => t.pos + t.text.length
    | none => e
theorem endAt_succ (r : List Tk) (e k : Nat) (h : k < r.length) : endAt r e (k + 1) = r[k].pos + r[k].text.length := by
  show (match r[k]? with | some t => t.pos + t.text.length | none => e) = _
  rw [List.getElem?_eq_getElem h]
theorem stand_next {s : Bt} : ∀ {e : Nat} {r : List Tk}, Stand s e r → ∀ (k : Nat) (h : k < r.length), endAt r e k ≤ r[k].pos
  | _, [], _, k, h => by simp at h
  | e, a :: r, hs, 0, h => hs.1
  | e, a :: r, hs, 1, h => by
    cases r with
    | nil => simp at h
    | cons b r => exact hs.2.2.2.2.2.2.1
  | e, a :: r, hs, k + 2, h => by
    have h' : k + 1 < r.length := Nat.lt_of_succ_lt_succ h
    have := stand_next hs.2.2.2.2.2.2 (k + 1) h'
    rw [endAt_succ r _ k (by omega)] at this
    rw [endAt_succ (a :: r) e (k + 1) (by simp; omega)]
    exact this
theorem stand_end {s : Bt} {e : Nat} {r : List Tk} (h : Stand s e r) (he : e ≤ s.length) : ∀ k, k ≤ r.length → endAt r e k ≤ s.length
  | 0, _ => he
  | k + 1, hk => by
    rw [endAt_succ r e k (by omega)]
    exact (stand_at h k (by omega)).2.1
/-- not more tokens than bytes -/
theorem stand_len0 {s : Bt} : ∀ {e : Nat} {r : List Tk}, Stand s e r → e ≤ s.length → e + r.length ≤ s.length
  | e, [], _, he => he
  | e, a :: r, hs, _ => by
    have := stand_len0 hs.2.2.2.2.2.2 hs.2.2.1
    have hne := hs.2.2.2.1.ne
    have : 1 ≤ a.text.length := by cases h : a.text with | nil => exact absurd h hne | cons c t => simp
    have h1 := hs.1
    show e + (r.length + 1) ≤ _
    omega
theorem stand_len {s : Bt} {r : List Tk} (h : Stand s 0 r) : r.length ≤ s.length := by
  have := stand_len0 h (Nat.zero_le _); omega
theorem blN_take : ∀ (l : Bt), (l.take (blN l)).drop (blN (l.take (blN l))) = []
  | [] => rfl
  | c :: t => by
    by_cases h : blanksL.contains c = true
    · rw [blN_succ h, List.take_succ_cons, blN_succ h]
      exact blN_take t
    · rw [blN_zero (by simpa using h)]; rfl
theorem stand_pos {s : Bt} : ∀ {e : Nat} {r : List Tk}, Stand s e r → ∀ (k : Nat) (h : k < r.length), e ≤ r[k].pos
  | _, [], _, k, h => by simp at h
  | e, a :: r, hs, 0, h => hs.1
  | e, a :: r, hs, k + 1, h => by
    have := stand_pos hs.2.2.2.2.2.2 k (by simpa using h)
    have h1 := hs.1
    have hk : k < r.length := by simpa using h
    show e ≤ (r[k]'hk).pos
    omega
/-- what comes later does not matter -/
theorem lex_cut (s : Bt) : ∀ (l : Bt) (p : Nat), s.drop p = l → p ≤ s.length → ∀ r, lexT l p = .ok r → ∀ (k : Nat) (h : k < r.length), lexT (l.take (r[k].pos - p)) p = .ok (r.take k) := by
  refine lex_ind (M := fun l => ∀ p, s.drop p = l → p ≤ s.length → ∀ r, lexT l p = .ok r → ∀ (k : Nat) (h : k < r.length), lexT (l.take (r[k].pos - p)) p = .ok (r.take k)) ?_ ?_ ?_
  · intro l h p _ _ r hr k hk
    rw [lexT_nil _ h] at hr
    cases hr; simp at hk
  · intro l c t h hz p _ _ r hr
    rw [lexT_bad _ h hz] at hr; cases hr
  · intro l c t h hz ih p hs hp r hr k hk
    have hr0 := hr
    rw [lexT_cons _ h hz] at hr
    have hle := firstF_le (c :: t)
    have hd : s.drop (p + blN l) = c :: t := by rw [← List.drop_drop, hs, h]
    have hlen : p + blN l + (c :: t).length = s.length := by
      have h1 : (s.drop (p + blN l)).length = (c :: t).length := by rw [hd]
      rw [List.length_drop] at h1
      simp only [List.length_cons] at h1 ⊢
      omega
    have ih' := ih (p + blN l + (firstF (c :: t)).2) (by rw [← List.drop_drop, hd]) (by omega)
    have st' := lex_stand s _ (p + blN l + (firstF (c :: t)).2) (by rw [← List.drop_drop, hd]) (by omega)
    cases hx : lexT ((c :: t).drop (firstF (c :: t)).2) (p + blN l + (firstF (c :: t)).2) with
    | error e => rw [hx] at hr; cases hr
    | ok r' =>
      rw [hx] at hr
      injection hr with hr
      subst hr
      cases k with
      | zero =>
        show lexT (l.take (p + blN l - p)) p = .ok []
        rw [show p + blN l - p = blN l by omega]
        exact lexT_nil _ (blN_take l)
      | succ k =>
        have hk' : k < r'.length := by simpa using hk
        show lexT (l.take (r'[k].pos - p)) p = .ok (⟨_, _, _⟩ :: r'.take k)
        have hpos := stand_pos (st' r' hx) k hk'
        have ihk := ih' r' hx k hk'
        generalize r'[k].pos = P at *
        -- the blanks ahead, and the first token, are there
        have eT : l.take (P - p) = l.take (blN l) ++ (c :: t).take (P - p - blN l) := by
          have := List.take_append_drop (blN l) (l.take (P - p))
          rw [List.take_take, Nat.min_eq_left (by omega), List.drop_take, h] at this
          exact this.symm
        obtain ⟨m, hm⟩ : ∃ m, P - p - blN l = m + 1 := ⟨P - p - blN l - 1, by omega⟩
        have hB : blN (l.take (blN l) ++ (c :: t).take (P - p - blN l)) = blN l := by
          have hhead := bl_head l c t h
          have hbl := blN_le l
          have : ∀ (u : Bt), u.drop (blN u) = [] → ∀ (y : Bt), blN (u ++ c :: y) = u.length := by
            intro u
            induction u with
            | nil => intro _ y; exact blN_zero hhead
            | cons d u ihu =>
              intro hu y
              by_cases hdd : blanksL.contains d = true
              · rw [blN_succ hdd] at hu
                rw [List.cons_append, blN_succ hdd, ihu hu y]; rfl
              · rw [blN_zero (by simpa using hdd)] at hu; cases hu
          rw [hm, List.take_succ_cons, this _ (blN_take l), List.length_take, Nat.min_eq_left hbl]
        have hD : (l.take (P - p)).drop (blN (l.take (P - p))) = c :: t.take m := by
          rw [eT, hB, List.drop_append, List.drop_eq_nil_of_le (by rw [List.length_take]; omega), List.length_take, Nat.min_eq_left (blN_le l), Nat.sub_self, hm]
          rfl
        have hF : firstF (c :: t.take m) = firstF (c :: t) := by
          rw [← List.take_succ_cons]
          exact firstF_cut hz (m + 1) (by omega)
        rw [lexT_cons p hD (by rw [hF]; exact hz), hF]
        have hB2 : blN (l.take (P - p)) = blN l := by rw [eT]; exact hB
        rw [hB2, ← List.take_succ_cons, ← hm, List.drop_take, List.take_take, Nat.min_eq_left (by omega)]
        rw [show P - p - blN l - (firstF (c :: t)).2 = P - (p + blN l + (firstF (c :: t)).2) by omega, ihk]
end Go.Proofs.YtainigcchlgehaaGreatDoor
