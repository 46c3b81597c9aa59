import Derived.Test.YtfhnjilflffdfaaEL
import Derived.Test.YtfhnjilflffdfaaE4
namespace Go.Proofs.Ytfhnjilflffdfaa
open Go Go.RowKit
set_option linter.unusedVariables false
abbrev Vl.zero : Vl := ⟨0, 0, 0, ⟨#[]⟩⟩
/-- how many kids an operator has; 0: there is none such -/
def opN (s : ByteArray) : Nat :=
  if s.toList ∈ [[61], [60, 62], [60], [60, 61], [62], [62, 61], [97, 110, 100], [111, 114], [43], [45], [42]] then 2 else if s.toList ∈ [[110, 111, 116], [105, 115, 110, 117, 108, 108]] then 1 else 0
def Vl.nought (v : Vl) : Bool := decide (v.k = 0 ∧ v.n = 0 ∧ (v.f = 0 ∨ v.f = 9223372036854775808) ∧ v.s.toList = [])
mutual
def formed : Ex → Bool
  | .node kind name v kids => if kind = 1 then (name.toList.isEmpty && kids.isEmpty && v.right) else if kind = 2 then (!name.toList.isEmpty && kids.isEmpty && v.nought) else if kind = 3 then (v.nought && decide (opN name ≠ 0) && decide (opN name = kids.length) && formedL kids) else false
def formedL : List Ex → Bool
  | [] => true
  | t :: l => formed t && formedL l
end
mutual
def deep : Ex → Nat
  | .node _ _ _ kids => 1 + deepL kids
def deepL : List Ex → Nat
  | [] => 0
  | t :: l => max (deep t) (deepL l)
end
def rightE (t : Ex) : Bool := decide (deep t ≤ 50) && formed t
/-- the first property of a name -/
def findP (name : ByteArray) (l : List Pr) : Vl := match l.find? (fun p => p.1.toList == name.toList) with | some p => p.2 | none => Vl.zero
/-- a value, and whether something has overflowed; none: something is of a wrong type -/
abbrev Res := Option (Vl × Bool)
def tv (t : Int) : Vl := ⟨vK t, vN t, 0, ⟨#[]⟩⟩
def Vl.ofI (v : Vl) : Int := Ytfhnjilflffdfaa.ofI v.k v.n
def Vl.ofE (v : Vl) : Int := Ytfhnjilflffdfaa.ofE v.k v.n
def comb1 (s : ByteArray) (a : Vl × Bool) : Res :=
  if s.toList = [110, 111, 116] then (if a.1.ofE = 0 then some (tv (notI a.1.ofI), a.2) else none) else some (tv (if a.1.k = 0 then 1 else 0), a.2)
def settles (s : ByteArray) : Int := if s.toList = [97, 110, 100] then 0 else 1
def comb2 (s : ByteArray) (a b : Vl × Bool) : Res :=
  if s.toList = [97, 110, 100] ∨ s.toList = [111, 114] then (if a.1.ofE = 0 ∧ b.1.ofE = 0 then some (tv (joinI (settles s) [a.1.ofI, b.1.ofI]), a.2 || b.2) else none)
  else if opO s ≠ 0 then
    (if (reckR s a.1.k a.1.n a.1.f a.1.s b.1.k b.1.n b.1.f b.1.s).2.2.2 = 4 then none else some (⟨(reckR s a.1.k a.1.n a.1.f a.1.s b.1.k b.1.n b.1.f b.1.s).1, (reckR s a.1.k a.1.n a.1.f a.1.s b.1.k b.1.n b.1.f b.1.s).2.1, (reckR s a.1.k a.1.n a.1.f a.1.s b.1.k b.1.n b.1.f b.1.s).2.2.1, ⟨#[]⟩⟩, a.2 || b.2 || decide ((reckR s a.1.k a.1.n a.1.f a.1.s b.1.k b.1.n b.1.f b.1.s).2.2.2 = 7)))
  else if (testR s a.1.k a.1.n a.1.f a.1.s b.1.k b.1.n b.1.f b.1.s).2.2 = 0 then some (⟨(testR s a.1.k a.1.n a.1.f a.1.s b.1.k b.1.n b.1.f b.1.s).1, (testR s a.1.k a.1.n a.1.f a.1.s b.1.k b.1.n b.1.f b.1.s).2.1, 0, ⟨#[]⟩⟩, a.2 || b.2) else none
def combL (s : ByteArray) : List Res → Res
  | [some a] => comb1 s a
  | [some a, some b] => comb2 s a b
  | _ => none
mutual
def ev (l : List Pr) : Ex → Res
  | .node kind name v kids => if kind = 1 then some (v, false) else if kind = 2 then some (findP name l, false) else combL name (evL l kids)
def evL (l : List Pr) : List Ex → List Res
  | [] => []
  | t :: ts => ev l t :: evL l ts
end
def outR : Res → Vl × Int
  | none => (Vl.zero, 4)
  | some (v, true) => (Vl.zero, 7)
  | some (v, false) => (v, 0)
def evalR (l : List Pr) (t : Ex) : Vl × Int := if rightE t = true then outR (ev l t) else (Vl.zero, 1)
def Ex.kind : Ex → Int
  | .node k _ _ _ => k
def holdsR (l : List Pr) (t : Ex) : Bool × Int :=
  if t.kind = 0 then (true, 0) else if (evalR l t).2 ≠ 0 then (false, (evalR l t).2) else if (evalR l t).1.ofE ≠ 0 then (false, 4) else (decide ((evalR l t).1.ofI = 1), 0)
/-- properties whose values are right -/
def PsOk (l : List Pr) : Prop := ∀ q ∈ l, q.2.right = true ∧ q.2.Ok
theorem zero_right : Vl.zero.right = true := by simp [Vl.right, rightB]
theorem fix_ok (l : List Pr) (h : ∀ q ∈ l, q.2.Ok) : PsOk (l.map fixP) := by
  intro q hq
  obtain ⟨p, hp, rfl⟩ := List.mem_map.1 hq
  unfold fixP
  split
  · exact ⟨by assumption, h p hp⟩
  · exact ⟨zero_right, zero_ok⟩
theorem find_ok {l : List Pr} (h : PsOk l) (name : ByteArray) : (findP name l).right = true ∧ (findP name l).Ok := by
  unfold findP
  split
  · rename_i p hp
    exact h p (List.mem_of_find?_eq_some hp)
  · exact ⟨zero_right, zero_ok⟩
theorem tv_ok (t : Int) : (tv t).right = true ∧ (tv t).Ok := by
  unfold tv vK vN
  refine ⟨?_, ⟨?_, ?_, by simp⟩⟩
  · by_cases h0 : t = 0
    · subst h0; simp [Vl.right, rightB]
    · by_cases h1 : t = 1
      · subst h1; simp [Vl.right, rightB]
      · simp [Vl.right, rightB, h0, h1]
  · show _ ≤ (if t = 1 then (1 : Int) else 0); split <;> omega
  · show (if t = 1 then (1 : Int) else 0) ≤ _; split <;> omega
theorem arC_ok (o : BinOp) (x y : Nat) : arC o x y < 18446744073709551616 ∧ Flt.canon (arC o x y) = arC o x y := by
  unfold arC
  cases h : floatBits o .f64 x y with
  | none => exact ⟨by decide, by decide⟩
  | some r =>
    have hr : r < 18446744073709551616 := by simpa [Lit.wf] using floatBits_wf h
    refine ⟨Flt.canon_lt hr, ?_⟩
    show Flt.canon (Flt.canon r) = Flt.canon r
    unfold Flt.canon
    by_cases hn : Flt.isNan r = true
    · rw [if_pos hn]; decide
    · rw [if_neg hn, if_neg hn]
theorem reck_ok (s : ByteArray) (a b : Vl) : Vl.right ⟨(reckR s a.k a.n a.f a.s b.k b.n b.f b.s).1, (reckR s a.k a.n a.f a.s b.k b.n b.f b.s).2.1, (reckR s a.k a.n a.f a.s b.k b.n b.f b.s).2.2.1, ⟨#[]⟩⟩ = true ∧ Vl.Ok ⟨(reckR s a.k a.n a.f a.s b.k b.n b.f b.s).1, (reckR s a.k a.n a.f a.s b.k b.n b.f b.s).2.1, (reckR s a.k a.n a.f a.s b.k b.n b.f b.s).2.2.1, ⟨#[]⟩⟩ := by
  have hnl : (⟨#[]⟩ : ByteArray).toList = [] := nil_list
  have ha := arC_ok (fop (opO s)) (asF a.k a.n a.f) (asF b.k b.n b.f)
  unfold reckR
  split
  · exact ⟨by simp [Vl.right, rightB, hnl], by simp, by simp, by simp⟩
  · split
    · exact ⟨by simp [Vl.right, rightB, hnl], by simp, by simp, by simp⟩
    · split
      · exact ⟨by simp [Vl.right, rightB, hnl], by simp, by simp, by simp⟩
      · split
        · exact ⟨by simp [Vl.right, rightB, hnl, ha.2], by simp, by simp, ha.1⟩
        · split
          · rename_i hr
            have hr' : -9223372036854775808 ≤ iop (opO s) a.n b.n ∧ iop (opO s) a.n b.n ≤ 9223372036854775807 := by simpa [roomB] using hr
            exact ⟨by simp [Vl.right, rightB, hnl], hr'.1, hr'.2, by simp⟩
          · exact ⟨by simp [Vl.right, rightB, hnl], by simp, by simp, by simp⟩
theorem test_ok (s : ByteArray) (a b : Vl) : Vl.right ⟨(testR s a.k a.n a.f a.s b.k b.n b.f b.s).1, (testR s a.k a.n a.f a.s b.k b.n b.f b.s).2.1, 0, ⟨#[]⟩⟩ = true ∧ Vl.Ok ⟨(testR s a.k a.n a.f a.s b.k b.n b.f b.s).1, (testR s a.k a.n a.f a.s b.k b.n b.f b.s).2.1, 0, ⟨#[]⟩⟩ := by
  have hnl : (⟨#[]⟩ : ByteArray).toList = [] := nil_list
  unfold testR
  split
  · exact ⟨by simp [Vl.right, rightB, hnl], by simp, by simp, by simp⟩
  · split
    · exact ⟨by simp [Vl.right, rightB, hnl], by simp, by simp, by simp⟩
    · split
      · exact ⟨by simp [Vl.right, rightB, hnl], by simp, by simp, by simp⟩
      · generalize holdB (opI s) (ordI a.k a.n a.f a.s b.k b.n b.f b.s) = c
        cases c
        · exact ⟨by simp [Vl.right, rightB, hnl, b01], by simp [b01], by simp [b01], by simp⟩
        · exact ⟨by simp [Vl.right, rightB, hnl, b01], by simp [b01], by simp [b01], by simp⟩
theorem comb1_ok {s : ByteArray} {a r : Vl × Bool} (h : comb1 s a = some r) : r.1.right = true ∧ r.1.Ok := by
  unfold comb1 at h
  split at h
  · split at h
    · cases h; exact tv_ok _
    · cases h
  · cases h; exact tv_ok _
theorem comb2_ok {s : ByteArray} {a b r : Vl × Bool} (h : comb2 s a b = some r) : r.1.right = true ∧ r.1.Ok := by
  unfold comb2 at h
  split at h
  · split at h
    · cases h; exact tv_ok _
    · cases h
  · split at h
    · split at h
      · cases h
      · cases h; exact reck_ok s a.1 b.1
    · split at h
      · cases h; exact test_ok s a.1 b.1
      · cases h
theorem combL_ok {s : ByteArray} {l : List Res} {r : Vl × Bool} (h : combL s l = some r) : r.1.right = true ∧ r.1.Ok := by
  unfold combL at h
  split at h
  · exact comb1_ok h
  · exact comb2_ok h
  · cases h
/-- what a right expression comes to is right -/
theorem ev_ok {l : List Pr} (hl : PsOk l) {t : Ex} (ht : formed t = true) (hv : ∀ kind name v kids, t = .node kind name v kids → v.Ok) {r : Vl × Bool} (h : ev l t = some r) : r.1.right = true ∧ r.1.Ok := by
  cases t with
  | node kind name v kids =>
    rw [ev] at h
    split at h
    · rename_i hk
      cases h
      rw [formed, if_pos hk] at ht
      simp only [Bool.and_eq_true] at ht
      exact ⟨ht.2, hv _ _ _ _ rfl⟩
    · split at h
      · cases h; exact find_ok hl name
      · exact combL_ok h
end Go.Proofs.Ytfhnjilflffdfaa
