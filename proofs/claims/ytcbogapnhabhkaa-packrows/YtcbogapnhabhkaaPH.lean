import Derived.Test.YtcbogapnhabhkaaPG
import Derived.Recover
import Derived.Laws.Pointers
namespace Go.Proofs.Ytcbogapnhabhkaa
open Go Go.RowKit
set_option linter.unusedVariables false
theorem run_mf (fn : Fn) (first cap : Array Value) (w : World) : (Instr.makeFunc fn first cap).run Try.prog w = .ok (.func fn first cap) w := rfl
theorem catch_num_bad (p : Nat) (x : Bool) (u : TypeId) (pv : Value) (older : List PanicEntry) (w : World) (hc : w.cell? ⟨p, 0, none⟩ = some (.bool x)) (hz : w.frozen? ⟨p, 0, none⟩ = false) :
    CallsD Try.prog 54 #[.pointer (some ⟨p, 0, none⟩)] (.panicking ({ v := .iface u pv, recovered := false } :: older)) w fun e u' w' =>
      e = .returned (.tuple #[]) ∧ u' = .panicking ({ v := .iface u pv, recovered := true } :: older) ∧ w' = w.setCell ⟨p, 0, none⟩ (.bool false) := by
  refine callsD_of_wpS Try.func54 rfl fun c₀ cs hu => ?_
  apply wpS_region
  simp [wpOpsS, go_sem, recoverD, hu, Try.ntmps54, hc, hz, bodyPostS, results, Try.results54]
theorem catch_num_ok (p : Nat) (x : Bool) (w : World) (hc : w.cell? ⟨p, 0, none⟩ = some (.bool x)) (hz : w.frozen? ⟨p, 0, none⟩ = false) :
    CallsD Try.prog 54 #[.pointer (some ⟨p, 0, none⟩)] .returning w fun e u' w' => e = .returned (.tuple #[]) ∧ u' = .returning ∧ w' = w.setCell ⟨p, 0, none⟩ (.bool true) := by
  refine callsD_of_wpS Try.func54 rfl fun c₀ cs hu => ?_
  apply wpS_region
  simp [wpOpsS, go_sem, recoverD, hu, Try.ntmps54, hc, hz, bodyPostS, results, Try.results54]
  cases c₀
  simp_all
theorem catch_text_bad (p : Nat) (x : Bool) (u : TypeId) (pv : Value) (older : List PanicEntry) (w : World) (hc : w.cell? ⟨p, 0, none⟩ = some (.bool x)) (hz : w.frozen? ⟨p, 0, none⟩ = false) :
    CallsD Try.prog 58 #[.pointer (some ⟨p, 0, none⟩)] (.panicking ({ v := .iface u pv, recovered := false } :: older)) w fun e u' w' =>
      e = .returned (.tuple #[]) ∧ u' = .panicking ({ v := .iface u pv, recovered := true } :: older) ∧ w' = w.setCell ⟨p, 0, none⟩ (.bool false) := by
  refine callsD_of_wpS Try.func58 rfl fun c₀ cs hu => ?_
  apply wpS_region
  simp [wpOpsS, go_sem, recoverD, hu, Try.ntmps58, hc, hz, bodyPostS, results, Try.results58]
theorem catch_text_ok (p : Nat) (x : Bool) (w : World) (hc : w.cell? ⟨p, 0, none⟩ = some (.bool x)) (hz : w.frozen? ⟨p, 0, none⟩ = false) :
    CallsD Try.prog 58 #[.pointer (some ⟨p, 0, none⟩)] .returning w fun e u' w' => e = .returned (.tuple #[]) ∧ u' = .returning ∧ w' = w.setCell ⟨p, 0, none⟩ (.bool true) := by
  refine callsD_of_wpS Try.func58 rfl fun c₀ cs hu => ?_
  apply wpS_region
  simp [wpOpsS, go_sem, recoverD, hu, Try.ntmps58, hc, hz, bodyPostS, results, Try.results58]
  cases c₀
  simp_all
theorem catch_val_bad (p : Nat) (x : Bool) (u : TypeId) (pv : Value) (older : List PanicEntry) (w : World) (hc : w.cell? ⟨p, 0, none⟩ = some (.bool x)) (hz : w.frozen? ⟨p, 0, none⟩ = false) :
    CallsD Try.prog 60 #[.pointer (some ⟨p, 0, none⟩)] (.panicking ({ v := .iface u pv, recovered := false } :: older)) w fun e u' w' =>
      e = .returned (.tuple #[]) ∧ u' = .panicking ({ v := .iface u pv, recovered := true } :: older) ∧ w' = w.setCell ⟨p, 0, none⟩ (.bool false) := by
  refine callsD_of_wpS Try.func60 rfl fun c₀ cs hu => ?_
  apply wpS_region
  simp [wpOpsS, go_sem, recoverD, hu, Try.ntmps60, hc, hz, bodyPostS, results, Try.results60]
theorem catch_val_ok (p : Nat) (x : Bool) (w : World) (hc : w.cell? ⟨p, 0, none⟩ = some (.bool x)) (hz : w.frozen? ⟨p, 0, none⟩ = false) :
    CallsD Try.prog 60 #[.pointer (some ⟨p, 0, none⟩)] .returning w fun e u' w' => e = .returned (.tuple #[]) ∧ u' = .returning ∧ w' = w.setCell ⟨p, 0, none⟩ (.bool true) := by
  refine callsD_of_wpS Try.func60 rfl fun c₀ cs hu => ?_
  apply wpS_region
  simp [wpOpsS, go_sem, recoverD, hu, Try.ntmps60, hc, hz, bodyPostS, results, Try.results60]
  cases c₀
  simp_all
theorem rd_start (w : World) (ao : Option Addr) (len cap : Nat) (l : List UInt8) (X : Obj) (hB : Bs w.heap.size w (.slice ao len cap) l) : Rd (w.heap.size + 1) ((w.alloc X).alloc (.cells #[.slice ao len cap] 85)) l := by
  refine ⟨.slice ao len cap, by simp [go_sem], ?_, (hB.below (below_a2 w X _)).mono (by omega)⟩
  go_simp
theorem first_num_ok (v : Value) (l : List UInt8) (r : List UInt8) (n : Nat) (w : World) (hB : Bs w.heap.size w v l) (h : numR l = some (n, r)) (hl : l.length ≤ 1000000) (hr : r.length ≤ l.length) :
    Calls Try.prog 36 #[v, .func (.func 37) #[] #[]] w fun e w' => e = .returned (.tuple #[.int .u64 n, .int .i64 ((l.length : Int) - (r.length : Int)), .bool true]) ∧ Below w.heap.size w w' := by
  have hmf := run_mf
  obtain ⟨ao, cap, rfl⟩ := hB.shape
  have h1 := Lib.hid (rnumber_ok (w.heap.size + 1) l n r _ (rd_start w _ _ _ _ (.cells #[.bool false] 4) hB) h hl)
  have g0 : Below w.heap.size w ((w.alloc (.cells #[.bool false] 4)).alloc (.cells #[.slice ao l.length cap] 85)) := below_a2 _ _ _
  have c0 : ((w.alloc (.cells #[.bool false] 4)).alloc (.cells #[.slice ao l.length cap] 85)).cell? ⟨w.heap.size, 0, none⟩ = some (.bool false) := by go_simp
  have f0 : ((w.alloc (.cells #[.bool false] 4)).alloc (.cells #[.slice ao l.length cap] 85)).frozen? ⟨w.heap.size, 0, none⟩ = false := by go_simp
  have b0 : w.heap.size < ((w.alloc (.cells #[.bool false] 4)).alloc (.cells #[.slice ao l.length cap] 85)).heap.size := by simp; omega
  clear h hB
  generalize hW : (w.alloc (.cells #[.bool false] 4)).alloc (.cells #[.slice ao l.length cap] 85) = W0 at h1 g0 c0 f0 b0
  go_enter_defers Try.func36, Try.ntmps36
  go_wp2_with fail
  clear hW
  refine h1.out.mono ?_; rintro e w1 ⟨rfl, hR1, hg1⟩
  have hne : some w.heap.size ≠ some (w.heap.size + 1) := by simp
  have c1 := hg1.cell c0 hne
  have f1 := (World.frozen?_of_block (a := ⟨w.heap.size, 0, none⟩) (hg1.block w.heap.size b0 hne)).trans f0
  have g1 : Below w.heap.size w w1 := g0.grown hg1 (by omega) (fun k hk => by cases hk; omega)
  obtain ⟨v1, d1, e1, hB1⟩ := hR1
  obtain ⟨a1, cp1, rfl⟩ := hB1.shape
  clear hB1 h1 hg1 g0 c0 f0 b0 hne
  go_wp2_with fail
  go_region
  all_goals
    go_wp2_with fail
    refine leaves_cons (f := 54) (args := #[.pointer (some ⟨w.heap.size, 0, none⟩)]) (by simp) (by simp [go_sem]) ?_
    refine (catch_num_ok w.heap.size true _ ?_ ?_).mono ?_
    · simp [go_sem, c1]
    · simp [go_sem, f1]
    rintro e u' w'' ⟨rfl, rfl, rfl⟩
    simp [Leaves, settle, results, Try.results36, go_sem, c1]
    exact ((g1.setCell (Nat.le_refl _) _).setCell (Nat.le_refl _) _).drew
theorem first_num_bad (v : Value) (l : List UInt8)  (w : World) (hB : Bs w.heap.size w v l) (h : numR l = none) (hl : l.length ≤ 1000000) :
    Calls Try.prog 36 #[v, .func (.func 37) #[] #[]] w fun e w' => e = .returned (.tuple #[.int .u64 0, .int .i64 0, .bool false]) ∧ Below w.heap.size w w' := by
  have hmf := run_mf
  obtain ⟨ao, cap, rfl⟩ := hB.shape
  have h1 := Lib.hid (rnumber_bad (w.heap.size + 1) l _ (rd_start w _ _ _ _ (.cells #[.bool false] 4) hB) h hl)
  have g0 : Below w.heap.size w ((w.alloc (.cells #[.bool false] 4)).alloc (.cells #[.slice ao l.length cap] 85)) := below_a2 _ _ _
  have c0 : ((w.alloc (.cells #[.bool false] 4)).alloc (.cells #[.slice ao l.length cap] 85)).cell? ⟨w.heap.size, 0, none⟩ = some (.bool false) := by go_simp
  have f0 : ((w.alloc (.cells #[.bool false] 4)).alloc (.cells #[.slice ao l.length cap] 85)).frozen? ⟨w.heap.size, 0, none⟩ = false := by go_simp
  have b0 : w.heap.size < ((w.alloc (.cells #[.bool false] 4)).alloc (.cells #[.slice ao l.length cap] 85)).heap.size := by simp; omega
  clear h hB
  generalize hW : (w.alloc (.cells #[.bool false] 4)).alloc (.cells #[.slice ao l.length cap] 85) = W0 at h1 g0 c0 f0 b0
  go_enter_defers Try.func36, Try.ntmps36
  go_wp2_with fail
  clear hW
  refine h1.out.mono ?_; rintro e w1 ⟨rfl, hg1⟩
  have hne : some w.heap.size ≠ some (w.heap.size + 1) := by simp
  have c1 := hg1.cell c0 hne
  have f1 := (World.frozen?_of_block (a := ⟨w.heap.size, 0, none⟩) (hg1.block w.heap.size b0 hne)).trans f0
  have g1 : Below w.heap.size w w1 := g0.grown hg1 (by omega) (fun k hk => by cases hk; omega)
  refine leaves_cons (f := 54) (args := #[.pointer (some ⟨w.heap.size, 0, none⟩)]) (by simp) (by simp [go_sem]) ?_
  refine (catch_num_bad w.heap.size false 31 _ [] _ c1 f1).mono ?_
  rintro e u' w'' ⟨rfl, rfl, rfl⟩
  simp [Leaves, settle, results, Try.results36, go_sem, c1]
  exact g1.setCell (Nat.le_refl _) _
theorem first_text_ok (v : Value) (l : List UInt8) (s r : List UInt8) (w : World) (hB : Bs w.heap.size w v l) (h : textR l = some (s, r)) (hl : l.length ≤ 1000000) (hr : r.length ≤ l.length) :
    Calls Try.prog 39 #[v, .func (.func 40) #[] #[]] w fun e w' => e = .returned (.tuple #[.string ⟨s.toArray⟩, .int .i64 ((l.length : Int) - (r.length : Int)), .bool true]) ∧ Below w.heap.size w w' := by
  have hmf := run_mf
  obtain ⟨ao, cap, rfl⟩ := hB.shape
  have h1 := Lib.hid (rtext_ok' (w.heap.size + 1) l s r _ (rd_start w _ _ _ _ (.cells #[.bool false] 4) hB) h hl)
  have g0 : Below w.heap.size w ((w.alloc (.cells #[.bool false] 4)).alloc (.cells #[.slice ao l.length cap] 85)) := below_a2 _ _ _
  have c0 : ((w.alloc (.cells #[.bool false] 4)).alloc (.cells #[.slice ao l.length cap] 85)).cell? ⟨w.heap.size, 0, none⟩ = some (.bool false) := by go_simp
  have f0 : ((w.alloc (.cells #[.bool false] 4)).alloc (.cells #[.slice ao l.length cap] 85)).frozen? ⟨w.heap.size, 0, none⟩ = false := by go_simp
  have b0 : w.heap.size < ((w.alloc (.cells #[.bool false] 4)).alloc (.cells #[.slice ao l.length cap] 85)).heap.size := by simp; omega
  clear h hB
  generalize hW : (w.alloc (.cells #[.bool false] 4)).alloc (.cells #[.slice ao l.length cap] 85) = W0 at h1 g0 c0 f0 b0
  go_enter_defers Try.func39, Try.ntmps39
  go_wp2_with fail
  clear hW
  refine h1.out.mono ?_; rintro e w1 ⟨rfl, hR1, hg1⟩
  have hne : some w.heap.size ≠ some (w.heap.size + 1) := by simp
  have c1 := hg1.cell c0 hne
  have f1 := (World.frozen?_of_block (a := ⟨w.heap.size, 0, none⟩) (hg1.block w.heap.size b0 hne)).trans f0
  have g1 : Below w.heap.size w w1 := g0.grown hg1 (by omega) (fun k hk => by cases hk; omega)
  obtain ⟨v1, d1, e1, hB1⟩ := hR1
  obtain ⟨a1, cp1, rfl⟩ := hB1.shape
  clear hB1 h1 hg1 g0 c0 f0 b0 hne
  go_wp2_with fail
  go_region
  all_goals
    go_wp2_with fail
    refine leaves_cons (f := 58) (args := #[.pointer (some ⟨w.heap.size, 0, none⟩)]) (by simp) (by simp [go_sem]) ?_
    refine (catch_text_ok w.heap.size true _ ?_ ?_).mono ?_
    · simp [go_sem, c1]
    · simp [go_sem, f1]
    rintro e u' w'' ⟨rfl, rfl, rfl⟩
    simp [Leaves, settle, results, Try.results39, go_sem, c1]
    exact ((g1.setCell (Nat.le_refl _) _).setCell (Nat.le_refl _) _).drew
theorem first_text_bad (v : Value) (l : List UInt8)  (w : World) (hB : Bs w.heap.size w v l) (h : textR l = none) (hl : l.length ≤ 1000000) :
    Calls Try.prog 39 #[v, .func (.func 40) #[] #[]] w fun e w' => e = .returned (.tuple #[.string ⟨#[]⟩, .int .i64 0, .bool false]) ∧ Below w.heap.size w w' := by
  have hmf := run_mf
  obtain ⟨ao, cap, rfl⟩ := hB.shape
  have h1 := Lib.hid (rtext_bad' (w.heap.size + 1) l _ (rd_start w _ _ _ _ (.cells #[.bool false] 4) hB) h hl)
  have g0 : Below w.heap.size w ((w.alloc (.cells #[.bool false] 4)).alloc (.cells #[.slice ao l.length cap] 85)) := below_a2 _ _ _
  have c0 : ((w.alloc (.cells #[.bool false] 4)).alloc (.cells #[.slice ao l.length cap] 85)).cell? ⟨w.heap.size, 0, none⟩ = some (.bool false) := by go_simp
  have f0 : ((w.alloc (.cells #[.bool false] 4)).alloc (.cells #[.slice ao l.length cap] 85)).frozen? ⟨w.heap.size, 0, none⟩ = false := by go_simp
  have b0 : w.heap.size < ((w.alloc (.cells #[.bool false] 4)).alloc (.cells #[.slice ao l.length cap] 85)).heap.size := by simp; omega
  clear h hB
  generalize hW : (w.alloc (.cells #[.bool false] 4)).alloc (.cells #[.slice ao l.length cap] 85) = W0 at h1 g0 c0 f0 b0
  go_enter_defers Try.func39, Try.ntmps39
  go_wp2_with fail
  clear hW
  refine h1.out.mono ?_; rintro e w1 ⟨rfl, hg1⟩
  have hne : some w.heap.size ≠ some (w.heap.size + 1) := by simp
  have c1 := hg1.cell c0 hne
  have f1 := (World.frozen?_of_block (a := ⟨w.heap.size, 0, none⟩) (hg1.block w.heap.size b0 hne)).trans f0
  have g1 : Below w.heap.size w w1 := g0.grown hg1 (by omega) (fun k hk => by cases hk; omega)
  refine leaves_cons (f := 58) (args := #[.pointer (some ⟨w.heap.size, 0, none⟩)]) (by simp) (by simp [go_sem]) ?_
  refine (catch_text_bad w.heap.size false 31 _ [] _ c1 f1).mono ?_
  rintro e u' w'' ⟨rfl, rfl, rfl⟩
  simp [Leaves, settle, results, Try.results39, go_sem, c1]
  exact g1.setCell (Nat.le_refl _) _
end Go.Proofs.Ytcbogapnhabhkaa
