import Derived.Test.YtcbogapnhabhkaaPQ
namespace Go.Proofs.Ytcbogapnhabhkaa
open Go Go.RowKit
set_option linter.unusedVariables false
theorem and_mask (a : Int) : ∃ A : Nat, bits BinOp.and IntKind.i64 a 65535 = (A : Int) ∧ A < 65536 := by
  refine ⟨(BitVec.ofInt 64 a).toNat % 65536, ?_, Nat.mod_lt _ (by decide)⟩
  show IntKind.i64.wrap ((BitVec.ofInt 64 a &&& BitVec.ofInt 64 65535).toNat : Int) = _
  have e : (BitVec.ofInt 64 65535).toNat = 65535 := by decide
  rw [BitVec.toNat_and, e, nat_mask16, IntKind.wrap_i64]
  have := Nat.mod_lt (BitVec.ofInt 64 a).toNat (show 0 < 65536 by decide)
  omega
theorem get_back (n : Nat) (hn : n < 18446744073709551616) (r : List UInt8) : getT (numR (numB n ++ r)) (numB n ++ r).length = .tuple #[.int .u64 n, .int .i64 ((numB n).length : Nat), .bool true] := by
  rw [numR_put n hn r]
  simp only [getT]
  have e : ((numB n ++ r).length : Int) - (r.length : Int) = ((numB n).length : Int) := by rw [List.length_append]; omega
  rw [e]
theorem get_cut (n : Nat) (hn : n < 18446744073709551616) (K : Nat) (hK : K < (numB n).length) (L : Nat) : getT (numR ((numB n).take K)) L = .tuple #[.int .u64 0, .int .i64 0, .bool false] := by
  rw [cut_none (R := numR) (B := numB) (P := fun n => n < 18446744073709551616) (fun x hx r => numR_put x hx r) (fun l x r h => numR_back h) n hn K hK]
  rfl
theorem text_back (s r : List UInt8) (hs : s.length < 18446744073709551616) : textT (textR (textB s ++ r)) (textB s ++ r).length = .tuple #[.string ⟨s.toArray⟩, .int .i64 ((textB s).length : Nat), .bool true] := by
  rw [textR_put s hs r]
  simp only [textT]
  have e : ((textB s ++ r).length : Int) - (r.length : Int) = ((textB s).length : Int) := by rw [List.length_append]; omega
  rw [e]
theorem text_cut (s : List UInt8) (hs : s.length < 18446744073709551616) (K : Nat) (hK : K < (textB s).length) (L : Nat) : textT (textR ((textB s).take K)) L = .tuple #[.string ⟨#[]⟩, .int .i64 0, .bool false] := by
  rw [cut_none (R := textR) (B := textB) (P := fun s => s.length < 18446744073709551616) (fun x hx r => textR_put x hx r) (fun l x r h => textR_back h) s hs K hK]
  rfl
theorem val_back (x : V4) (hx : RV x) (r : List UInt8) : valT (valR (x.row ++ r)) (x.row ++ r).length = .tuple #[.agg #[.int .i64 x.k, .int .i64 x.n, .float .f64 x.f, .string ⟨x.s.toArray⟩], .int .i64 (x.row.length : Nat), .bool true] := by
  rw [valR_put x hx r]
  simp only [valT]
  have e : ((x.row ++ r).length : Int) - (r.length : Int) = (x.row.length : Int) := by rw [List.length_append]; omega
  rw [e]
theorem val_cut (x : V4) (hx : RV x) (K : Nat) (hK : K < x.row.length) (L : Nat) : valT (valR (x.row.take K)) L = .tuple #[.agg #[.int .i64 0, .int .i64 0, .float .f64 0, .string ⟨#[]⟩], .int .i64 0, .bool false] := by
  rw [cut_none (R := valR) (B := V4.row) (P := RV) (fun x hx r => valR_put x hx r) (fun l x r h => valR_back h) x hx K hK]
  rfl
theorem bytes_eta (s : ByteArray) : (⟨s.data.toList.toArray⟩ : ByteArray) = s := by simp
theorem nil_own (w : World) : Own (w.alloc (.cells #[] 5)) w.heap.size (.slice (some ⟨w.heap.size, 0, none⟩) 0 0) [] := Own.lit w w.heap.size [] (Nat.le_refl _) (by simp) #[] rfl
end Go.Proofs.Ytcbogapnhabhkaa
