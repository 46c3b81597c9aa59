/- For every row of labels, every expression and every number the law LabelWrong answers true: what is not right, in a not, an and, an or beside any right expression of at most a hundred parts, is not right, holds nowhere and has no names; no condition. -/
import Derived.Test.YtlnmjbheohkanaaVLabelWrong
import Derived.Test.YtlnmjbheohkanaaKE
namespace Go.Proofs.Ytlnmjbheohkanaa.LabelWrong
open Go.ChangeShapes Go.WideShapes Go.ChangeAt Go.RowKit
open Go.ChangeMaps (open_string shut_string)
set_option linter.unusedVariables false
theorem own : ownKnob Try.prog.godebug = none := by kernel_rfl
set_option maxRecDepth 100000 in
theorem lifted (os : Os) (started : os.Started) (H : Type) (enc : TypeId × Value → H) :
    ReturnsInHanded {} Try.checked os 9 .any (Rows.labelWrongSpec.pre6 enc Try.prog Try.f9 Rows.labelWrongRow.domain false) (Rows.labelWrongSpec.post enc Try.prog Try.f9 false true false false) := by
  refine returnsInHanded_of_change (C := Try.checked) own started (by kernel_rfl) Try.func9
    (ChangeSpec.witness6 (enc := enc) (C := Try.checked) false ⟨#[], #[.slice none 0 0, .agg #[.int .i64 0, .string ByteArray.empty, .int .i64 0, .int .i64 0, .float .f64 0, .string ByteArray.empty, .slice none 0 0], .int .i64 0], []⟩ 8 (by kernel_rfl) (by kernel_rfl) (by kernel_rfl) (by kernel_rfl)) ?_
  intro W base args ds gs before hval0 hW hcnd _
  have hval : ∀ (j : Nat) t v, Try.f9.params[j]? = some t → args[j]? = some v → Value.okWide Try.prog W .any base t v := hval0
  have hW' := hW
  obtain ⟨p, q, hA0, hV, rfl, hfz, hnd⟩ := hW
  have hA : DataW.TrodAll enc Try.prog W 0 (fun _ => true) true Try.f9.params.toList args.toList ds p := hA0
  rw [Try.params9] at hA hval
  obtain ⟨v0, vs0, d0, ds0, p0, q0, hargs, rfl, rfl, h0, r0⟩ := trodAll_cons hA
  obtain ⟨v1, vs1, d1, ds1, p1, q1, rfl, rfl, rfl, h1, r1⟩ := trodAll_cons r0
  obtain ⟨v2, vs2, d2, ds2, p2, q2, rfl, rfl, rfl, h2, r2⟩ := trodAll_cons r1
  obtain ⟨rfl, rfl, rfl⟩ := trodAll_nil r2
  obtain rfl : args = #[v0, v1, v2] := by cases args; simp_all
  obtain ⟨rfl, rfl⟩ := trodVars_none hV
  have hh0 := h0
  have hh1 := h1
  have hh2 := h2
  have hlt := hW'.lt
  obtain ⟨l0, B0⟩ := open_rws (hval 0 22 v0 rfl rfl) h0
  obtain ⟨t1, x1, rfl, X1⟩ := open_ex' (hval 1 28 v1 rfl rfl) h1
  obtain ⟨a2, rfl, rfl, rfl, w2⟩ := open_int Try.underlying3 (hval 2 3 v2 rfl rfl) h2
  clear hA0 hval0
  simp only [List.append_nil] at hW'
  have b2 := bounds_i64 w2
  refine (walk v0 l0 t1 x1 a2 W B0 X1 b2.1 b2.2).mono fun e W' ⟨he, hg⟩ => ?_
  subst he
  refine ⟨_, rfl, _, _, _, [], (p0 ++ (p1 ++ ([] ++ []))), [], hW', ?_, ?_, ?_, hg.frame _, fun h => by cases h⟩
  · exact trodAll_cons_mk (shut_bool Try.underlying4 _) trodAll_mk0
  · exact trodAll_cons_mk (Below.trod laid_out (by kernel_rfl) (by decide +kernel) hh0 hg (fun x hx => hlt x (by first | (simp at hx; done) | simp [hx]))) (trodAll_cons_mk (Below.trod laid_out (by kernel_rfl) (by decide +kernel) hh1 hg (fun x hx => hlt x (by first | (simp at hx; done) | simp [hx]))) (trodAll_cons_mk (Below.trod laid_out (by kernel_rfl) (by decide +kernel) hh2 hg (fun x hx => hlt x (by first | (simp at hx; done) | simp [hx]))) trodAll_mk0))
  · exact rfl
theorem over : Rows.labelWrongRow.holds Try.pinned (OpenSpec.ofChange Rows.labelWrongSpec) :=
  OpenClaim.holds_of_wide 9 Try.f9 rfl rfl rfl rfl rfl rfl rfl ⟨rfl, rfl, rfl, rfl, rfl⟩ rfl rfl rfl rfl rfl (by kernel_rfl) Try.func9 (by kernel_rfl)
    (of_decide_eq_true (by kernel_rfl)) (by unfold Func.isWrapper; first | (rw [if_pos (by decide +kernel)]; kernel_rfl) | (rw [if_neg (by decide +kernel)]; exact ⟨rfl, rfl⟩))
    (fun os started H enc _ => lifted os started H enc)
end Go.Proofs.Ytlnmjbheohkanaa.LabelWrong
namespace Go.Proofs.Ytlnmjbheohkanaa
theorem LabelWrong_holds : Rows.LabelWrongSaid := LabelWrong.over
end Go.Proofs.Ytlnmjbheohkanaa
