import Derived.Test.YtnjlcdemfdokoaaGreatDoorVn
import Derived.Deep.LoopGhost
namespace Go.Proofs.YtnjlcdemfdokoaaGreatDoor
open Go Go.RowKit
set_option linter.unusedVariables false
/-- of all beginnings of at most so many bytes the longest one that is a value's text -/
def findR (l : List UInt8) : Nat → Option (Nat × Int × Int × Nat)
  | 0 => none
  | n + 1 => match rpSem (l.take (n + 1)) with
    | some v => some (n + 1, v)
    | none => findR l n
/-- a value without a text, how long, and whether it is there -/
def vrTuple : Option (Nat × Int × Int × Nat) → Value
  | some (m, k, n, f) => .tuple #[.agg #[.int .i64 k, .int .i64 n, .float .f64 f, .string ⟨#[]⟩], .int .i64 (m : Int), .bool true]
  | none => .tuple #[.agg #[.int .i64 0, .int .i64 0, .float .f64 0, .string ⟨#[]⟩], .int .i64 0, .bool false]
theorem ext_take0 (s : ByteArray) (p : Nat) : (s.extract 0 p).data.toList = s.data.toList.take p := by
  rw [Lib.extract_data]; simp
abbrev N0 : Obj := .cells #[.int .i64 0, .int .i64 0, .float .f64 0, .string ⟨#[]⟩] 28
theorem rd_plain (s : ByteArray) (hs : s.size ≤ 281474976710656) (hq : Lib.hasPrefix s.data.toList [39] = false) (w : World) (hT : Tabs w) :
    Calls Tryz.prog 29 #[.string s] w fun e w' => e = .returned (vrTuple (findR s.data.toList (runN 23 s.data.toList))) ∧ Below w.heap.size w w' := by
  have hsf := run_store_float
  have HP := Tryz.strings_HasPrefix s ⟨#[39]⟩
  rw [hq] at HP
  clear hq
  have HR := run_any s hs
  obtain ⟨R, hR⟩ : ∃ R, R = runN 23 s.data.toList := ⟨_, rfl⟩
  rw [← hR] at HR ⊢
  have hRl := runN_le 23 s.data.toList
  rw [← hR] at hRl
  have hRs : R ≤ s.size := by have := hRl.2; simpa using this
  have hR23 : R ≤ 23 := hRl.1
  clear hR hRl
  go_enter Tryz.func29, Tryz.ntmps29
  go_wp2_with fail
  refine (HP _).mono ?_; rintro e w' ⟨rfl, rfl⟩
  go_wp2_with fail
  refine (HR _).mono ?_; rintro e w' ⟨rfl, rfl⟩
  go_wp2_with fail
  go_loopg [5, 6, 7] R (fun g s5 s6 s7 wr => g ≤ R ∧ s5 = .int .i64 g ∧ findR s.data.toList R = findR s.data.toList g ∧ Below (w.alloc N0).heap.size (w.alloc N0) wr)
  case atStart => exact ⟨Nat.le_refl _, rfl, rfl, Below.refl _ _⟩
  case round =>
    obtain ⟨hk, rfl, hf, hb⟩ := hrel
    have HF := Lib.hid hf
    clear hf
    have hTr : Tabs wr := hT.below (Below.chain (below_a1 _ _) hb)
    obtain ⟨hc, hfz⟩ := bcell hb
    have hz : w.heap.size < wr.heap.size := by have := hb.size; simp at this; omega
    cases gk with
    | zero =>
      go_wp2_with fail
      exact ret_vnb rfl rfl rfl rfl rfl (((lies1 _ _ _ _ _).below hb).set _ _ _ _) ⟨by rw [HF.out]; rfl, below_set4 (Below.chain (below_a1 _ _) hb) (by omega) _ _ _ _⟩
    | succ k =>
      have i1 : (0 : Int) < ((k + 1 : Nat) : Int) := by omega
      have i2 : ((k + 1 : Nat) : Int) ≤ (s.size : Int) := by omega
      have RP := rp_any (s.extract 0 (k + 1)) (by simp; omega) wr hTr
      rw [ext_take0] at RP
      cases hv : rpSem (s.data.toList.take (k + 1)) with
      | none =>
        rw [hv] at RP
        simp only [rpTuple] at RP
        have HV := Lib.hid hv
        clear hv
        go_wp2_with fail
        refine RP.mono ?_; rintro e w1 ⟨rfl, hb1⟩
        have ch := Below.chain hb hb1
        obtain ⟨hc1, hf1⟩ := bcell ch
        clear RP hc hfz
        go_wp2_with fail
        go_roundg k
        case measure => omega
        case rel => exact ⟨by omega, by go_num, by rw [HF.out]; show (match rpSem (s.data.toList.take (k + 1)) with | some v => some (k + 1, v) | none => findR s.data.toList k) = _; rw [HV.out], Below.chain ch (below_a1 _ _)⟩
      | some v =>
        obtain ⟨vk, vn, vf⟩ := v
        rw [hv] at RP
        simp only [rpTuple] at RP
        have HV := Lib.hid hv
        clear hv
        go_wp2_with fail
        refine RP.mono ?_; rintro e w1 ⟨rfl, hb1⟩
        have ch := Below.chain hb hb1
        obtain ⟨hc1, hf1⟩ := bcell ch
        have hz1 : w.heap.size < w1.heap.size := by have := ch.size; simp at this; omega
        clear RP hc hfz
        go_wp2_with fail
        refine ret_vnb rfl rfl rfl rfl rfl ((((lies1 _ _ _ _ _).below ch).set _ _ _ _).alloc _) ⟨?_, (below_set4 (Below.chain (below_a1 _ _) ch) (by omega) _ _ _ _).alloc (by simp; omega) _⟩
        rw [HF.out]
        show _ = Ending.returned (vrTuple (match rpSem (s.data.toList.take (k + 1)) with | some v => some (k + 1, v) | none => findR s.data.toList k))
        rw [HV.out]
        rfl
end Go.Proofs.YtnjlcdemfdokoaaGreatDoor
