import Derived.Test.YtfkjnpoocfmfcaaSUd
namespace Go.Proofs.Ytfkjnpoocfmfcaa
open Go Go.RowKit
open Go.Shelf
set_option linter.unusedVariables false
theorem sum_at (v : Value) (l : List UInt8) (w : World) (hl : l.length ≤ 1000000) (hv : RwU w v l) (z : Nat) (hz : sumS 14695981039346656037 l = z) :
    Calls Try.prog 7 #[v] w fun e w' => e = .returned (.int .u64 (z : Int)) ∧ Below w.heap.size w w' := by
  subst hz; exact sum_any v l w hl hv
theorem shown_any (w : World) : Calls Try.prog 6 #[] w fun e w' => e = .returned (.bool true) ∧ Below w.heap.size w w' := by
  have C0 := sum_at (.slice none 0 0) [] w (by simp) (Rw.nil _) _ fnv0
  have C1 := fun u : World => sum_at _ [97] _ (by simp) (rwu_const u [97] (by simp) #[.int .u8 97] rfl 1 rfl (1, 2)) _ fnv1
  have C6 := fun u : World => sum_at _ [102, 111, 111, 98, 97, 114] _ (by simp) (rwu_const u [102, 111, 111, 98, 97, 114] (by simp) #[.int .u8 102, .int .u8 111, .int .u8 111, .int .u8 98, .int .u8 97, .int .u8 114] rfl 6 rfl (6, 7)) _ fnv6
  rw [show ((14695981039346656037 : Nat) : Int) = 14695981039346656037 from rfl] at C0
  simp only [show ((12638187200555641996 : Nat) : Int) = 12638187200555641996 from rfl] at C1
  simp only [show ((9625390261332436968 : Nat) : Int) = 9625390261332436968 from rfl] at C6
  have kc := fun (w : World) (C : Array Value) (n c : Nat) => Lib.run_convert_bytes_const (P := Try.prog) w 22 5 C n c Try.underlying22 Try.underlying5
  go_enter Try.func6, Try.ntmps6
  go_wp2_with fail
  (with_reducible refine C0.mono ?_); rintro e w1 ⟨rfl, h1⟩
  clear C0
  go_wp2_with fail
  (with_reducible refine (C1 _).mono ?_); rintro e w2 ⟨rfl, h2⟩
  have H2 := (h1.trans ((below_a1 w1 (.cells #[.int .u8 97] 5 (1, 2))).mono h1.size)).trans (h2.mono (Nat.le_trans h1.size (below_a1 w1 (.cells #[.int .u8 97] 5 (1, 2))).size))
  clear C1 h1 h2
  go_wp2_with fail
  (with_reducible refine (C6 _).mono ?_); rintro e w3 ⟨rfl, h3⟩
  have H3 := Lib.hid ((H2.trans ((below_a1 w2 (.cells #[.int .u8 102, .int .u8 111, .int .u8 111, .int .u8 98, .int .u8 97, .int .u8 114] 5 (6, 7))).mono H2.size)).trans (h3.mono (Nat.le_trans H2.size (below_a1 w2 _).size)))
  clear C6 H2 h3
  go_wp2_with fail
  go_ret
  exact ⟨rfl, H3.out⟩
end Go.Proofs.Ytfkjnpoocfmfcaa
