import Derived.Test.YtlnmjbheohkanaaKD
import Derived.Test.YtlnmjbheohkanaaK9
namespace Go.Proofs.Ytlnmjbheohkanaa
open Go Go.RowKit
set_option linter.unusedVariables false
abbrev vz : Vl := ⟨0, 0, 0, ⟨#[]⟩⟩
abbrev nmE (s : ByteArray) : Ex := .node 4 s vz []
abbrev notE (t : Ex) : Ex := .node 6 ⟨#[]⟩ vz [t]
abbrev andE (t u : Ex) : Ex := .node 7 ⟨#[]⟩ vz [t, u]
abbrev orE (t u : Ex) : Ex := .node 8 ⟨#[]⟩ vz [t, u]
abbrev sA : ByteArray := ⟨#[65]⟩
abbrev sB : ByteArray := ⟨#[66]⟩
abbrev sC : ByteArray := ⟨#[67]⟩
abbrev eS : Ex := andE (nmE sA) (notE (nmE sC))
abbrev nilE : Ex := .node 0 ⟨#[]⟩ vz []
theorem tl_ (l : List UInt8) : (⟨l.toArray⟩ : ByteArray).toList = l := by rw [Lib.toList_data]
theorem nought_z : Vl.nought vz = true := by
  unfold Vl.nought
  have : (⟨#[]⟩ : ByteArray).toList = [] := nil_list
  simp [this]
theorem word_A : wordB sA = true := by decide
theorem word_C : wordB sC = true := by decide
theorem termK_nm (s : ByteArray) (h : wordB s = true) : termK (nmE s) = true := by
  rw [termK, nought_z, termL]
  simp [kidsN, nameOk, h]
theorem termK_not (t : Ex) (h : termK t = true) : termK (notE t) = true := by
  have e0 : (⟨#[]⟩ : ByteArray).toList = [] := nil_list
  rw [termK, nought_z, termL, termL, h]
  simp [kidsN, nameOk, e0]
theorem termK_and (t u : Ex) (h : termK t = true) (h' : termK u = true) : termK (andE t u) = true := by
  have e0 : (⟨#[]⟩ : ByteArray).toList = [] := nil_list
  rw [termK, nought_z, termL, termL, termL, h, h']
  simp [kidsN, nameOk, e0]
theorem termK_or (t u : Ex) (h : termK t = true) (h' : termK u = true) : termK (orE t u) = true := by
  have e0 : (⟨#[]⟩ : ByteArray).toList = [] := nil_list
  rw [termK, nought_z, termL, termL, termL, h, h']
  simp [kidsN, nameOk, e0]
theorem right_nz (k : Int) (name : ByteArray) (v : Vl) (kids : List Ex) (hk : ¬ k = 0) : rightL (.node k name v kids) = termE 50 (.node k name v kids) := by rw [rightL, if_neg hk]
theorem right_S : rightL eS = true := by
  rw [right_nz _ _ _ _ (by decide)]
  unfold termE
  rw [termK_and _ _ (termK_nm _ word_A) (termK_not _ (termK_nm _ word_C))]
  simp [deep, deepL]
theorem inB_dec (l : List ByteArray) (s : ByteArray) : inB l s = (l.map byt).contains (byt s) := by
  rw [inB_byt, Bool.eq_iff_iff]; simp
theorem holds_nm (l : List ByteArray) (s : ByteArray) : holdsL l (nmE s) = inB l s := by rw [holdsL, if_pos rfl]
theorem holds_not (l : List ByteArray) (t : Ex) : holdsL l (notE t) = !holdsL l t := by
  rw [holdsL, if_neg (by decide), if_neg (by decide), if_pos rfl, holdsLL]; rfl
theorem holds_and (l : List ByteArray) (t u : Ex) : holdsL l (andE t u) = (holdsL l t && holdsL l u) := by
  rw [holdsL, if_neg (by decide), if_neg (by decide), if_neg (by decide), if_pos rfl, holdsLL, holdsLL]; rfl
theorem holds_or (l : List ByteArray) (t u : Ex) : holdsL l (orE t u) = (holdsL l t || holdsL l u) := by
  rw [holdsL, if_neg (by decide), if_neg (by decide), if_neg (by decide), if_neg (by decide), if_pos rfl, holdsLL, holdsLL]; rfl
theorem has_S1 : hasL [sA, sB] eS = true := by
  unfold hasL
  rw [right_S, holds_and, holds_not, holds_nm, holds_nm, inB_dec, inB_dec]; decide
theorem has_S2 : hasL [sA, sC] eS = false := by
  unfold hasL
  rw [right_S, holds_and, holds_not, holds_nm, holds_nm, inB_dec, inB_dec]; decide
theorem right_0 : rightL nilE = true := by
  have e0 : (⟨#[]⟩ : ByteArray).toList = [] := nil_list
  rw [rightL, if_pos rfl, nought_z]; simp [e0]
theorem has_0 : hasL [] nilE = true := by
  unfold hasL
  rw [right_0, holdsL, if_neg (by decide), if_neg (by decide), if_neg (by decide), if_neg (by decide), if_neg (by decide)]; rfl
theorem names_S : namesL eS = [sA, sC] := by
  rw [namesL_ok right_S]
  apply map_byt_inj
  rw [addB_byt]
  simp only [namesT, namesTL]
  decide
theorem word_1 : wordB ⟨#[97, 95, 49]⟩ = true := by decide
theorem word_2 : wordB ⟨#[49, 97]⟩ = false := by decide
theorem nil_tx (w : World) : Tx w nilE ⟨0, ⟨#[]⟩, vz, none, 0, 0⟩ := Tx.mk zero_ok (Rw.nil _) (Txs.nil _)
theorem two_rw (w : World) (a b : ByteArray) : RwS (w.alloc (.cells #[.string a, .string b] 9)) (.slice (some ⟨w.heap.size, 0, none⟩) 2 2) [a, b] :=
  (Ow.lit (E := encS) (e := 9) w w.heap.size [a, b] (Nat.le_refl _) (by simp) _ rfl).rw
end Go.Proofs.Ytlnmjbheohkanaa
