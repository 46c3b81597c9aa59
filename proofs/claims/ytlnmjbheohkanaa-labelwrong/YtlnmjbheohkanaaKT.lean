import Derived.Test.YtlnmjbheohkanaaKS2
import Derived.Test.YtlnmjbheohkanaaKE
namespace Go.Proofs.Ytlnmjbheohkanaa
open Go Go.RowKit
set_option linter.unusedVariables false
theorem termE_K {n : Int} {t : Ex} (h : termE n t = true) : (deep t : Int) ≤ n ∧ termK t = true := by
  unfold termE at h
  simpa using h
theorem termE_mk {n : Int} {t : Ex} (h : (deep t : Int) ≤ n) (h' : termK t = true) : termE n t = true := by
  unfold termE
  rw [h', decide_eq_true h]; rfl
theorem termK_nz {kind : Int} {name : ByteArray} {v : Vl} {kids : List Ex} (h : termK (.node kind name v kids) = true) : ¬ kind = 0 := by
  rintro rfl
  rw [termK] at h
  simp [kidsN] at h
theorem right_term {n : Int} {t : Ex} (hn : n ≤ 50) (h : termE n t = true) : rightL t = true := by
  obtain ⟨h1, h2⟩ := termE_K h
  cases t with
  | node kind name v kids =>
    rw [right_nz _ _ _ _ (termK_nz h2)]
    exact termE_mk (by omega) h2
theorem deep_not (t : Ex) : deep (notE t) = 1 + deep t := by rw [deep, deepL, deepL]; omega
theorem deep_and (t u : Ex) : deep (andE t u) = 1 + max (deep t) (deep u) := by rw [deep, deepL, deepL, deepL]; omega
theorem deep_or (t u : Ex) : deep (orE t u) = 1 + max (deep t) (deep u) := by rw [deep, deepL, deepL, deepL]; omega
theorem term_not {n : Int} {t : Ex} (h : termE n t = true) : termE (n + 1) (notE t) = true := by
  obtain ⟨h1, h2⟩ := termE_K h
  exact termE_mk (by rw [deep_not]; omega) (termK_not t h2)
theorem term_and {n : Int} {t u : Ex} (h : termE n t = true) (h' : termE n u = true) : termE (n + 1) (andE t u) = true := by
  obtain ⟨h1, h2⟩ := termE_K h
  obtain ⟨k1, k2⟩ := termE_K h'
  exact termE_mk (by rw [deep_and]; omega) (termK_and t u h2 k2)
theorem term_or {n : Int} {t u : Ex} (h : termE n t = true) (h' : termE n u = true) : termE (n + 1) (orE t u) = true := by
  obtain ⟨h1, h2⟩ := termE_K h
  obtain ⟨k1, k2⟩ := termE_K h'
  exact termE_mk (by rw [deep_or]; omega) (termK_or t u h2 k2)
theorem has_term {n : Int} {t : Ex} (l : List ByteArray) (hn : n ≤ 50) (h : termE n t = true) : hasL l t = holdsL l t := by
  unfold hasL
  rw [right_term hn h]; rfl
theorem has_bad {t : Ex} (l : List ByteArray) (h : rightL t = false) : hasL l t = false := by
  unfold hasL
  rw [h]; rfl
end Go.Proofs.Ytlnmjbheohkanaa
