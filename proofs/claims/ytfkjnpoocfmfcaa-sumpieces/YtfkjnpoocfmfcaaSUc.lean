import Derived.Test.YtfkjnpoocfmfcaaSUb
namespace Go.Proofs.Ytfkjnpoocfmfcaa
open Go Go.RowKit
open Go.Shelf
set_option linter.unusedVariables false
attribute [local go_sem] Oper.semAt_some
theorem fold_any (s : Nat) (hs : s < 18446744073709551616) (B : Nat) (v : Value) (l : List UInt8) (w : World) (hl : l.length ≤ 1000000) (vB : Vr w B 22 #[v]) (hv : RwU w v l) :
    Calls Try.prog 11 #[.int .u64 (s : Int), .func (.func 13) #[] #[.pointer (some ⟨B, 0, none⟩)]] w fun e w' => e = .returned (.int .u64 ((sumS s l : Nat) : Int)) ∧ Below w.heap.size w w' := by
  have HS := each_stops 3 (by omega) B v l w hl vB hv
  have HL := Lib.hid (sumS_lt s hs)
  refine callsIn_wide (n := 4) |>.1 ?_
  refine callsIn_of_wp_marks Try.func11 rfl trivial ?_ rfl
  simp only [Try.ntmps11, List.size_toArray, List.length_cons, List.length_nil, Nat.reduceAdd, Nat.reduceSub, Array.replicate_succ, Array.replicate_zero, List.push_toArray, List.append_toArray, List.nil_append, List.cons_append]
  gi_wp2
  have HB := Lib.hid ((Below.refl w.heap.size w).alloc (Nat.le_refl _) (.cells #[.int .u64 (s : Int)] 23))
  refine wpIn_rangeFunc_ownF (F := Fence.wide) rfl (by decide) (gf := 13) (lb := #[.pointer (some ⟨B, 0, none⟩)]) rfl trivial (enters_of Try.func13 (by kernel_rfl) rfl)
    HS belowK_t (belowK_b (by simp)) HB.out (fun _ => rfl)
    (fun pre W => Boxed W w.heap.size 23 (.int .u64 ((sumS s pre : Nat) : Int)) ∧ Below w.heap.size w W) (fun _ _ _ => False)
    (OwnFrom.and (Own.from (boxed_own w.heap.size 23 (fun pre => .int .u64 ((sumS s pre : Nat) : Int))) _) (ownFrom_below (Nat.le_refl _) (by simp))) (fun c _ _ _ _ h _ _ => h)
    ⟨Boxed.new _ _ _, HB.out⟩
    (fun c => (⟨#[Value.int IntKind.u64 ↑s, Value.func (Fn.func 13) #[] #[Value.pointer (some { block := B, off := 0 })],
          Value.pointer (some { block := w.heap.size, off := 0 }), undef, Value.int IntKind.u64 0, .int .u8 (c.toNat : Int),
          Value.func (Fn.func 13) #[] #[Value.pointer (some { block := B, off := 0 })], .int .u8 (c.toNat : Int), undef, undef, undef,
          undef, undef, undef], []⟩ : Act)) ?assign ?body ?done ?stop
  case assign =>
    intro l x W K hK
    dsimp only [encC]
    gi_wp2
    exact hK
  case body =>
    rintro l pre x W ⟨hB, hW⟩ _
    have hc := hB.cell
    have hf := hB.frozen
    have hlt := HL.out pre
    have e1 := step_mach _ x hlt
    have HB2 := Lib.hid (hB.set (.int .u64 ((stepS (sumS s pre) x : Nat) : Int)))
    have HW2 := Lib.hid (hW.setCell (p := ⟨w.heap.size, 0, none⟩) (Nat.le_refl _) (.int .u64 ((stepS (sumS s pre) x : Nat) : Int)))
    have es : sumS s (pre ++ [x]) = stepS (sumS s pre) x := sumS_snoc s pre x
    clear hB hW hlt
    gi_wp2
    exact ⟨KeepsOthers.setCell _ _ _, (Below.refl w.heap.size W).setCell (p := ⟨w.heap.size, 0, none⟩) (Nat.le_refl _) _, by rw [es]; exact HB2.out, HW2.out⟩
  case done =>
    rintro D ys W hD rfl ⟨hB, hW⟩ hK
    have hc := hB.cell
    have HW2 := Lib.hid (hW.trans (belowK_b (w := w) (Nat.le_refl _) W D (.deferred (some [])) (.deferred none) (by simp at hD; omega) hK rfl rfl))
    clear hB hW
    gi_wp2
    refine ⟨by simp, .inl ⟨_, _, rfl, run_takeDeferred hK, ?_⟩⟩
    exact ⟨_, results_tmp rfl _ _ _, rfl, HW2.out⟩
  case stop =>
    rintro D c pre W _ _ h _
    exact h.elim
theorem below_a1 (w : World) (o : Obj) : Below w.heap.size w (w.alloc o) := (Below.refl _ w).alloc (Nat.le_refl _) o
theorem Below.chain {w0 w1 w2 : World} (h : Below w0.heap.size w0 w1) (k : Below w1.heap.size w1 w2) : Below w0.heap.size w0 w2 := h.trans (k.mono h.size)
theorem each_any (ao : Option Addr) (n cap : Nat) (w : World) : Calls Try.prog 12 #[.slice ao n cap] w fun e w' => e = .returned (.func (.func 13) #[] #[.pointer (some ⟨w.heap.size, 0, none⟩)]) ∧ w' = w.alloc (.cells #[.slice ao n cap] 22) := by
  go_enter Try.func12, Try.ntmps12
  go_wp2_with fail
  go_ret
  exact ⟨rfl, rfl⟩
theorem more_any (s : Nat) (hs : s < 18446744073709551616) (v : Value) (l : List UInt8) (w : World) (hl : l.length ≤ 1000000) (hv : RwU w v l) :
    Calls Try.prog 9 #[.int .u64 (s : Int), v] w fun e w' => e = .returned (.int .u64 ((sumS s l : Nat) : Int)) ∧ Below w.heap.size w w' := by
  obtain ⟨ao, cap, rfl⟩ := hv.shape
  have CF := fold_any s hs w.heap.size (.slice ao l.length cap) l (w.alloc (.cells #[.slice ao l.length cap] 22)) hl (Vr.new _ _ _) (hv.keep (below_a1 _ _))
  have HB := Lib.hid (below_a1 w (.cells #[.slice ao l.length cap] 22))
  go_enter Try.func9, Try.ntmps9
  go_wp2_with fail
  (with_reducible refine (each_any ao l.length cap w).mono ?_); rintro e w' ⟨rfl, rfl⟩
  go_wp2_with fail
  (with_reducible refine CF.mono ?_); rintro e w' ⟨rfl, h⟩
  have H := Lib.hid (HB.out.trans (h.mono HB.out.size))
  clear h CF
  go_wp2_with fail
  go_ret
  exact ⟨rfl, H.out⟩
theorem sum_any (v : Value) (l : List UInt8) (w : World) (hl : l.length ≤ 1000000) (hv : RwU w v l) :
    Calls Try.prog 7 #[v] w fun e w' => e = .returned (.int .u64 ((sumS 14695981039346656037 l : Nat) : Int)) ∧ Below w.heap.size w w' := by
  have C := more_any 14695981039346656037 (by decide) v l w hl hv
  rw [show ((14695981039346656037 : Nat) : Int) = 14695981039346656037 from rfl] at C
  obtain ⟨ao, cap, rfl⟩ := hv.shape
  go_enter Try.func7, Try.ntmps7
  go_wp2_with fail
  (with_reducible refine C.mono ?_); rintro e w' ⟨rfl, h⟩
  go_wp2_with fail
  go_ret
  exact ⟨rfl, h⟩
end Go.Proofs.Ytfkjnpoocfmfcaa
