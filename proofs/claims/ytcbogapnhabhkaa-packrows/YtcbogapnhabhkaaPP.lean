import Derived.Test.YtcbogapnhabhkaaPO
namespace Go.Proofs.Ytcbogapnhabhkaa
open Go Go.RowKit
set_option linter.unusedVariables false
theorem value_any (k n : Int) (f : Nat) (s : ByteArray) (w : World) :
    Calls Try.prog 13 #[.int .i64 k, .int .i64 n, .int .u64 (f : Int), .string s] w fun e w' => e = .returned (.agg #[.int .i64 k, .int .i64 n, .float .f64 f, .string s]) ∧ Below w.heap.size w w' := by
  have hsf := run_store_float
  have h1 := run_frombits
  go_enter Try.func13, Try.ntmps13
  go_wp2_with fail
  refine ret_v rfl rfl rfl (lies_new _ _ _ _ _ _) ?_
  exact ⟨rfl, below_a1 _ _⟩
theorem putval_any (b : Value) (l : List UInt8) (k n : Int) (f : Nat) (s : ByteArray) (hn1 : -9223372036854775808 ≤ n) (hn2 : n ≤ 9223372036854775807) (hf : f < 18446744073709551616) (hs : s.size ≤ 400000) (hl : l.length ≤ 500000) :
    ∃ E L, (rightB k n f s = true ∧ E = (0 : Int) ∧ L = l ++ rowV k n f s.data.toList ∨ rightB k n f s = false ∧ E = 1 ∧ L = l) ∧ ∀ w, Bs w.heap.size w b l →
    Calls Try.prog 14 #[b, .agg #[.int .i64 k, .int .i64 n, .float .f64 f, .string s]] w fun e w' => ∃ v, e = .returned (.tuple #[v, .int .i64 E]) ∧ Own w' w.heap.size v L ∧ Below w.heap.size w w' := by
  cases h : rightB k n f s
  · exact ⟨1, l, .inr ⟨rfl, rfl, rfl⟩, fun w hb => putval_bad b l k n f s h hf hl w hb⟩
  · exact ⟨0, _, .inl ⟨rfl, rfl, rfl⟩, fun w hb => putval_ok b l k n f s h hn1 hn2 hf hs hl w hb⟩
theorem wp_region_tail {P : Program} {id : Nat} {Q : Exit → Act → World → Prop} {a : Act} {w : World} {l : List Oper} (n : Nat) (hm : P.follows .mixedOrders = true) (hB : Region.lexTailB .any l.toArray n = true)
    (h : wpStill P l.toArray w.drew (fun a' => wpList P l.toArray Q (l.drop n) a' w.drew) (l.take n) a) : (Code.region id l.toArray true).wp P Q a w := wp_region_still_tail n hm hB h
theorem rv_of {k n : Int} {f : Nat} {s : ByteArray} (hr : rightB k n f s = true) (n1 : -9223372036854775808 ≤ n) (n2 : n ≤ 9223372036854775807) (hf : f < 18446744073709551616) (hs : s.size ≤ 400000) : RV ⟨k, n, f, s.data.toList⟩ := by
  have hl : s.data.toList.length = s.size := by simp
  exact ⟨by simpa using hr, n1, n2, hf, by show s.data.toList.length < _; omega⟩
/-- right values are the same just if all their parts are -/
theorem same_parts {k n k' n' : Int} {f f' : Nat} {s s' : ByteArray} (hr : rightB k n f s = true) (hr' : rightB k' n' f' s' = true) :
    idB k n (Flt.canon f) s k' n' (Flt.canon f') s' = true ↔ (⟨k, n, f, s.data.toList⟩ : V4) = ⟨k', n', f', s'.data.toList⟩ := by
  have hc : ∀ {k n : Int} {f : Nat} {s : ByteArray}, rightB k n f s = true → Flt.canon f = f := fun {k n f s} h => by
    have h0 : Flt.canon 0 = 0 := by decide
    unfold rightB at h
    split at h
    · simp at h; rw [h.2.1, h0]
    split at h
    · simp at h; rw [h.2.1, h0]
    split at h
    · simp at h; rw [h.1, h0]
    split at h
    · simp at h; exact h.2.1.symm
    split at h
    · simp at h; rw [h.2, h0]
    · cases h
  rw [hc hr, hc hr']
  unfold idB
  simp [Lib.toList_data]
  grind
theorem Bs.headc {n : Nat} {w : World} {ao : Option Addr} {len cap : Nat} {l : List UInt8} (h : Bs n w (.slice ao len cap) l) (c : Nat) (hc : c ≤ l.length) : Bs n w (.slice ao c cap) (l.take c) := by
  have h' := h
  obtain ⟨ao', cap', he, k2, k3, k4, k5⟩ := h'
  cases he
  have := h.sliced 0 c cap (Nat.zero_le _) hc (by omega) (Nat.le_refl _)
  have e : Go.sliced ao 0 c cap 1 = .slice ao c cap := by
    unfold Go.sliced
    split
    · simp
    · cases ao <;> simp [Addr.add]
  rw [e] at this; simpa using this
theorem Bs.cap {n : Nat} {w : World} {ao : Option Addr} {len cap : Nat} {l : List UInt8} (h : Bs n w (.slice ao len cap) l) : l.length ≤ cap ∧ len = l.length := by
  obtain ⟨ao', cap', he, k2, -⟩ := h
  cases he; exact ⟨k2, rfl⟩
end Go.Proofs.Ytcbogapnhabhkaa
