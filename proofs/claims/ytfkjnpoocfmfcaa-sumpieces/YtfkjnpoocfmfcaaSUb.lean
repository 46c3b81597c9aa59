import Derived.Test.YtfkjnpoocfmfcaaSUa
namespace Go.Proofs.Ytfkjnpoocfmfcaa
open Go Go.RowKit
open Go.Shelf
set_option linter.unusedVariables false
attribute [local go_sem] Oper.semAt_some
def encC (c : UInt8) : Array Value := #[.int .u8 (c.toNat : Int)]
/-- the iterator over bytes -/
theorem each_stops (n : Nat) (hn : 1 ≤ n) (B : Nat) (v : Value) (l : List UInt8) (w : World) (hl : l.length ≤ 1000000) (vB : Vr w B 22 #[v]) (hv : RwU w v l) :
    SeqStopsK Fence.wide n Try.prog 13 #[.pointer (some ⟨B, 0, none⟩)] encC (Below w.heap.size) (fun xs => xs = l) (fun pre => pre <+: l) l.length w := by
  intro lp J Jx W hW hJ hJx hY h0
  have vB' := vB.keep hW
  have hv' := hv.keep hW
  obtain ⟨ao, cap, rfl⟩ := hv.shape
  have y1 := vB'.cell 0
  simp only [List.getElem?_toArray, List.getElem?_cons_zero] at y1
  have HY := Lib.hid hY
  have H0 := Lib.hid h0
  have HV := Lib.hid hv
  have VB := Lib.hid vB
  have HW := Lib.hid hW
  clear hY h0 hv hv' vB vB' hW hJ hJx
  generalize hL : l.length = L at *
  have HL := Lib.hid hL
  clear hL
  refine callsIn_of_wp Try.func13 rfl trivial ?_ rfl
  simp only [Try.ntmps13, List.size_toArray, List.length_cons, List.length_nil, Nat.reduceAdd, Nat.reduceSub, Array.replicate_succ, Array.replicate_zero, List.push_toArray, List.append_toArray, List.nil_append, List.cons_append]
  gi_wp2
  gi_loopw [6] (fun p wr => ∃ i : Nat, p = .int .i64 (i : Int) ∧ i ≤ L ∧ J (l.take i) wr ∧ Below w.heap.size w wr) (fun p wr => L - (intOf p).toNat)
  case atStart => exact ⟨0, rfl, Nat.zero_le _, H0.out, HW.out⟩
  case round =>
    obtain ⟨i, rfl, hi, hJs, hb⟩ := hrel
    have hb1 := VB.out.keep hb
    have y2 := hb1.cell 0
    simp only [List.getElem?_toArray, List.getElem?_cons_zero] at y2
    have HB := Lib.hid hb
    clear hb1
    by_cases hlt : i < L
    · have hlt' : (i : Int) < (L : Int) := by omega
      have hge : (0 : Int) ≤ (i : Int) := by omega
      obtain ⟨b, o, rfl, hc⟩ := rwu_at (HV.out.keep hb) i (by rw [HL.out]; exact hlt)
      have hil : i < l.length := by rw [HL.out]; exact hlt
      obtain ⟨fn, tmps, assign, body, hy, hR⟩ := HY.out (l.take i) l[i] wr hJs (by rw [List.length_take]; omega)
      have hpre : l.take i ++ [l[i]] = l.take (i + 1) := by rw [List.take_succ_eq_append_getElem hil]
      rw [hpre] at hR
      have HR := Lib.hid hR
      have HP := Lib.hid (List.take_prefix (i + 1) l)
      have HI := Lib.hid hil
      generalize l[i] = c at *
      dsimp only [encC] at hy
      clear hR hpre hJs hb hil
      gi_wp2
      refine HR.out.mono ?_
      rintro e W3 (⟨rfl, hJ3, hk3⟩ | ⟨rfl, hJx3⟩)
      · have HJ3 := Lib.hid hJ3
        have HB3 := Lib.hid (HB.out.trans hk3)
        clear hJ3 hk3
        gi_wp2
        exact ⟨⟨i + 1, by rw [Int.natCast_add]; rfl, by omega, HJ3.out, HB3.out⟩, by simp only [intOf]; omega⟩
      · have HJ3 := Lib.hid hJx3
        clear hJx3
        gi_wp2
        refine bodyPost_ret (results_none rfl _ _ _) rfl ?_
        exact ⟨⟨_, rfl⟩, .inr ⟨_, HP.out, HJ3.out⟩⟩
    · obtain rfl : i = L := by omega
      have hnl : ¬ ((i : Int) < (i : Int)) := by omega
      have HJ := Lib.hid hJs
      clear hJs hb
      gi_wp2
      go_end0
      exact ⟨⟨_, rfl⟩, .inl (by have := HJ.out; rwa [List.take_of_length_le (by rw [HL.out]; omega)] at this)⟩
end Go.Proofs.Ytfkjnpoocfmfcaa
