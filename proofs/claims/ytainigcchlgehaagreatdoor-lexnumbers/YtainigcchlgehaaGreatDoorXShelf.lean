import Derived.Test.YtainigcchlgehaaGreatDoorShelf
import Derived.Shelf.Strings.SlTrimAscii
/- strings.TrimLeft at a cutset of ASCII bytes, out of the kit's proved fact, at this translation's numbers. -/
namespace Go.Proofs.YtainigcchlgehaaGreatDoor
open Go Go.RowKit
theorem lex_TrimLeft (s cutset : ByteArray) (w : World) (hcs : cutset.size < 4294967281) (hascii : ∀ (j : Nat) b, cutset.data.toList[j]? = some b → b.toNat < 128) :
    Calls Tryz.prog 26 #[.string s, .string cutset] w fun e w' => e = .returned (.string ⟨(Lib.trimLeftS s.data.toList cutset.data.toList).toArray⟩) ∧ Below w.heap.size w w' := Any.strings_TrimLeft_laid Tryz.lays161 (by kernel_rfl) s cutset w hcs hascii
theorem lex_ascii {l : List UInt8} (h : l.all (fun b => decide (b.toNat < 128)) = true) : ∀ (j : Nat) b, l[j]? = some b → b.toNat < 128 := ascii_of_all h
end Go.Proofs.YtainigcchlgehaaGreatDoor
