import Derived.Test.YtnjlcdemfdokoaaGreatDoorVy
import Derived.Test.YtnjlcdemfdokoaaGreatDoorVi
namespace Go.Proofs.YtnjlcdemfdokoaaGreatDoor
open Go Go.RowKit
set_option linter.unusedVariables false
/-- a byte as it is written between quotes -/
def escW (c : UInt8) : List UInt8 := if c = 92 ∨ c = 39 then [92, c] else if c = 10 then [92, 110] else [c]
def escL : List UInt8 → List UInt8
  | [] => []
  | c :: l => escW c ++ escL l
theorem escL_app (a b : List UInt8) : escL (a ++ b) = escL a ++ escL b := by
  induction a with
  | nil => rfl
  | cons c a ih => simp [escL, ih]
theorem escW_len (c : UInt8) : (escW c).length ≤ 2 := by unfold escW; (repeat' split) <;> simp
theorem escL_len (l : List UInt8) : (escL l).length ≤ 2 * l.length := by
  induction l with
  | nil => simp [escL]
  | cons c l ih => have := escW_len c; simp [escL]; omega
theorem take_snoc (s : ByteArray) (k : Nat) (h : k < s.size) : s.data.toList.take (k + 1) = s.data.toList.take k ++ [s[k]] := by
  rw [List.take_succ_eq_append_getElem (by simpa using h)]; rfl
theorem bc_two : Lib.strCells ⟨#[92, 110]⟩ = Lib.byteCells [92, 110] := rfl
theorem bc_app (a b : List UInt8) : Lib.byteCells a ++ Lib.byteCells b = Lib.byteCells (a ++ b) := (Lib.byteCells_append a b).symm
set_option maxHeartbeats 1000000 in
theorem quoted_any (s : ByteArray) (hs : s.size ≤ 1000000) (w : World) :
    Calls Tryz.prog 63 #[.string s] w fun e w' => e = .returned (.string ⟨(39 :: escL s.data.toList ++ [39]).toArray⟩) ∧ Below w.heap.size w w' := by
  have W39 : ∀ (acc : List UInt8) (wr : World), Lib.IsBuilder 107 5 w.heap.size w.heap.size (Lib.byteCells acc) wr → acc.length ≤ 10000000 → w.heap.size ≤ wr.heap.size → ∀ c : UInt8, Calls Tryz.prog 103 #[.pointer (some ⟨w.heap.size, 0, none⟩), .int .u8 (c.toNat : Int)] wr fun e w' => e = .returned .nilIface ∧ (Lib.IsBuilder 107 5 w.heap.size w.heap.size (Lib.byteCells (acc ++ [c])) w' ∧ Below w.heap.size wr w' ∧ w.heap.size ≤ w'.heap.size) := fun acc wr hI hl hz c => by
    have WB := Tryz.Builder_WriteByte w.heap.size w.heap.size (Lib.byteCells acc) (c.toNat : Int) wr hI (by rw [Lib.byteCells_length]; omega) hz
    rw [bc_snoc] at WB
    exact WB.mono fun e w' ⟨he, hB, hb⟩ => ⟨he, Or.inr hB, hb, by have := hb.size; omega⟩
  have HW := Lib.hid W39
  clear W39
  go_enter Tryz.func63, Tryz.ntmps63
  go_wp2_with fail
  refine (HW.out [] _ (Lib.fresh_isBuilder 107 5 w) (by simp) (by simp) 39).mono ?_; rintro e w1 ⟨rfl, hI1, hb1, hz1⟩
  have c1 : Below w.heap.size w w1 := (below_a1 w _).trans hb1
  clear hb1
  go_wp2_with fail
  go_loopg [4, 5, 9] s.size (fun g s4 s5 s9 wr => ∃ i : Nat, g + i = s.size ∧ s9 = .int .i64 i ∧ Lib.IsBuilder 107 5 w.heap.size w.heap.size (Lib.byteCells (39 :: escL (s.data.toList.take i))) wr ∧ Below w.heap.size w wr ∧ w.heap.size ≤ wr.heap.size)
  case atStart => exact ⟨0, by omega, rfl, hI1, c1, hz1⟩
  case round =>
    obtain ⟨i, hg, rfl, hI, hb, hz⟩ := hrel
    have hlen : (39 :: escL (s.data.toList.take i)).length ≤ 2000001 := by
      have := escL_len (s.data.toList.take i)
      have h2 : (s.data.toList.take i).length ≤ s.size := by simp; omega
      simp; omega
    by_cases hlt : i < s.size
    · have il : (i : Int) < (s.size : Int) := by omega
      have hts := take_snoc s i hlt
      have q1 : ((s[i].toNat : Int) == 92) = true ↔ s[i] = 92 := by rw [beq_iff_eq, ← UInt8.toNat_inj]; simp; omega
      have q2 : ((s[i].toNat : Int) == 39) = true ↔ s[i] = 39 := by rw [beq_iff_eq, ← UInt8.toNat_inj]; simp; omega
      have q3 : ((s[i].toNat : Int) == 10) = true ↔ s[i] = 10 := by rw [beq_iff_eq, ← UInt8.toNat_inj]; simp; omega
      have fin : ∀ X, escW s[i] = X → 39 :: escL (s.data.toList.take (i + 1)) = 39 :: escL (s.data.toList.take i) ++ X := fun X hX => by rw [hts, escL_app]; simp [escL, hX]
      have HF := Lib.hid fin
      clear fin hts
      by_cases e1 : s[i] = 92 ∨ s[i] = 39
      · have hX : escW s[i] = [92] ++ [s[i]] := by unfold escW; rw [if_pos e1]; rfl
        have HX := Lib.hid (HF.out _ hX)
        clear hX HF
        have A1 := HW.out _ wr hI (by omega) hz 92
        rcases bool_cases ((s[i].toNat : Int) == 92) with b1 | b1
        · have b2 : ((s[i].toNat : Int) == 39) = true := by
            rcases e1 with e | e
            · rw [q1.2 e] at b1; cases b1
            · exact q2.2 e
          clear q1 q2 q3 e1
          go_wp2_with fail
          refine A1.mono ?_; rintro e w2 ⟨rfl, hI2, hb2, hz2⟩
          go_wp2_with fail
          refine (HW.out _ w2 hI2 (by simp at hlen ⊢; omega) hz2 s[i]).mono ?_; rintro e w3 ⟨rfl, hI3, hb3, hz3⟩
          go_wp2_with fail
          go_roundg (gk - 1)
          case measure => omega
          case rel => exact ⟨i + 1, by omega, by go_num, by rw [HX.out]; simpa using hI3, (hb.trans hb2).trans hb3, hz3⟩
        · clear q1 q2 q3 e1
          go_wp2_with fail
          refine A1.mono ?_; rintro e w2 ⟨rfl, hI2, hb2, hz2⟩
          go_wp2_with fail
          refine (HW.out _ w2 hI2 (by simp at hlen ⊢; omega) hz2 s[i]).mono ?_; rintro e w3 ⟨rfl, hI3, hb3, hz3⟩
          go_wp2_with fail
          go_roundg (gk - 1)
          case measure => omega
          case rel => exact ⟨i + 1, by omega, by go_num, by rw [HX.out]; simpa using hI3, (hb.trans hb2).trans hb3, hz3⟩
      have b1 : ((s[i].toNat : Int) == 92) = false := Bool.eq_false_iff.2 fun q => e1 (Or.inl (q1.1 q))
      have b2 : ((s[i].toNat : Int) == 39) = false := Bool.eq_false_iff.2 fun q => e1 (Or.inr (q2.1 q))
      by_cases e3 : s[i] = 10
      · have b3 := q3.2 e3
        have hX : escW s[i] = [92, 110] := by unfold escW; rw [if_neg e1, if_pos e3]
        have HX := Lib.hid (HF.out _ hX)
        clear hX HF q1 q2 q3 e1 e3
        have A1 := Tryz.Builder_WriteString w.heap.size w.heap.size _ ⟨#[92, 110]⟩ wr hI (by rw [Lib.byteCells_length]; have : (ByteArray.mk #[92, 110]).size = 2 := rfl; omega) hz
        rw [bc_two, bc_app] at A1
        go_wp2_with fail
        refine A1.mono ?_; rintro e w2 ⟨rfl, hB, hb2⟩
        go_wp2_with fail
        go_roundg (gk - 1)
        case measure => omega
        case rel => exact ⟨i + 1, by omega, by go_num, by rw [HX.out]; exact Or.inr hB, hb.trans hb2, by have := hb2.size; omega⟩
      · have b3 : ((s[i].toNat : Int) == 10) = false := Bool.eq_false_iff.2 fun q => e3 (q3.1 q)
        have hX : escW s[i] = [s[i]] := by unfold escW; rw [if_neg e1, if_neg e3]
        have HX := Lib.hid (HF.out _ hX)
        clear hX HF q1 q2 q3 e1 e3
        have A1 := HW.out _ wr hI (by omega) hz s[i]
        go_wp2_with fail
        refine A1.mono ?_; rintro e w2 ⟨rfl, hI2, hb2, hz2⟩
        go_wp2_with fail
        go_roundg (gk - 1)
        case measure => omega
        case rel => exact ⟨i + 1, by omega, by go_num, by rw [HX.out]; exact hI2, hb.trans hb2, hz2⟩
    · have ij : decide ((i : Int) < (s.size : Int)) = false := by simp; omega
      have ij' : decide (i < s.size) = false := by simpa using hlt
      have he : s.data.toList.take i = s.data.toList := List.take_of_length_le (by simp; omega)
      rw [he] at hI hlen
      clear he
      have A1 := HW.out _ wr hI (by omega) hz 39
      go_wp2_with fail
      refine A1.mono ?_; rintro e w2 ⟨rfl, hI2, hb2, hz2⟩
      go_wp2_with fail
      refine (Tryz.Builder_String_any w.heap.size w.heap.size _ w2 hI2 hz2).mono ?_; rintro e w3 ⟨rfl, hb3⟩
      go_wp2_with fail
      go_ret
      exact ⟨rfl, (hb.trans hb2).trans hb3⟩
end Go.Proofs.YtnjlcdemfdokoaaGreatDoor
