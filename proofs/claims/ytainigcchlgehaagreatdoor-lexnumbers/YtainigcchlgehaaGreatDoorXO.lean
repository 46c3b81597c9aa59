import Derived.Test.YtainigcchlgehaaGreatDoorXN
import Derived.Test.YtainigcchlgehaaGreatDoorXW
namespace Go.Proofs.YtainigcchlgehaaGreatDoor
open Go Go.ChangeShapes Go.WideShapes Go.ChangeAt Go.RowKit
open Go.Joins
set_option linter.unusedVariables false
theorem lex_mask (a : Int) : ∃ A : Nat, bits BinOp.and IntKind.i64 a 65535 = (A : Int) ∧ A < 65536 := by
  refine ⟨(BitVec.ofInt 64 a).toNat % 65536, ?_, Nat.mod_lt _ (by decide)⟩
  show IntKind.i64.wrap ((BitVec.ofInt 64 a &&& BitVec.ofInt 64 65535).toNat : Int) = _
  have e : (BitVec.ofInt 64 65535).toNat = 65535 := by decide
  have nat_mask16 : ∀ n : Nat, n &&& 65535 = n % 65536 := fun n => Nat.and_two_pow_sub_one_eq_mod n 16
  rw [BitVec.toNat_and, e, nat_mask16, IntKind.wrap_i64]
  have := Nat.mod_lt (BitVec.ofInt 64 a).toNat (show 0 < 65536 by decide)
  omega
theorem lex_mask3 (a : Int) : ∃ A : Nat, bits BinOp.and IntKind.i64 a 3 = (A : Int) ∧ A < 4 := by
  refine ⟨(BitVec.ofInt 64 a).toNat % 4, ?_, Nat.mod_lt _ (by decide)⟩
  show IntKind.i64.wrap ((BitVec.ofInt 64 a &&& BitVec.ofInt 64 3).toNat : Int) = _
  have e : (BitVec.ofInt 64 3).toNat = 3 := by decide
  have nat_mask2 : ∀ n : Nat, n &&& 3 = n % 4 := fun n => Nat.and_two_pow_sub_one_eq_mod n 2
  rw [BitVec.toNat_and, e, nat_mask2, IntKind.wrap_i64]
  have := Nat.mod_lt (BitVec.ofInt 64 a).toNat (show 0 < 4 by decide)
  omega
theorem lexR_bad {w w' : World} {l : Bt} {e : Ending} {p : Nat} (h : LexR w l e w') (hx : lexT l 0 = .error p) : e = .returned (.tuple #[.slice none 0 0, .int .i64 (p : Int), .int .i64 2]) ∧ Below w.heap.size w w' := by
  unfold LexR at h; rw [hx] at h; exact h
theorem lexR_ok {w w' : World} {l : Bt} {e : Ending} {r : List Tk} (h : LexR w l e w') (hx : lexT l 0 = .ok r) : (∃ v, e = .returned (.tuple #[v, .int .i64 0, .int .i64 0]) ∧ OwK w' w.heap.size v r) ∧ Below w.heap.size w w' := by
  unfold LexR at h; rw [hx] at h; exact h
theorem lexR_any {w w' : World} {l : Bt} {e : Ending} (h : LexR w l e w') : (∃ v n k, e = .returned (.tuple #[v, .int .i64 n, .int .i64 k])) ∧ Below w.heap.size w w' := by
  cases hx : lexT l 0 with
  | error p => obtain ⟨h1, h2⟩ := lexR_bad h hx; exact ⟨⟨_, _, _, h1⟩, h2⟩
  | ok r => obtain ⟨⟨v, h1, -⟩, h2⟩ := lexR_ok h hx; exact ⟨⟨_, _, _, h1⟩, h2⟩
theorem lex_bad_lt : ∀ (l : Bt) (p e : Nat), lexT l p = .error e → e < p + l.length := by
  refine lex_ind (M := fun l => ∀ p e, lexT l p = .error e → e < p + l.length) ?_ ?_ ?_
  · intro l h p e he; rw [lexT_nil _ h] at he; cases he
  · intro l c t h hz p e he
    rw [lexT_bad _ h hz] at he
    injection he with he
    have h1 : (l.drop (blN l)).length = (c :: t).length := by rw [h]
    rw [List.length_drop, List.length_cons] at h1
    omega
  · intro l c t h hz ih p e he
    rw [lexT_cons _ h hz] at he
    have h1 : (l.drop (blN l)).length = (c :: t).length := by rw [h]
    have hle := firstF_le (c :: t)
    rw [List.length_drop] at h1
    cases hx : lexT ((c :: t).drop (firstF (c :: t)).2) (p + blN l + (firstF (c :: t)).2) with
    | ok r => rw [hx] at he; cases he
    | error e' =>
      rw [hx] at he
      injection he with he
      have := ih _ _ hx
      rw [List.length_drop] at this
      simp only [List.length_cons] at this h1 hle
      omega
end Go.Proofs.YtainigcchlgehaaGreatDoor
