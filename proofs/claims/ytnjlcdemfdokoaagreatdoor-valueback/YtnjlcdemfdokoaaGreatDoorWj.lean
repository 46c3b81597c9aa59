import Derived.Test.YtnjlcdemfdokoaaGreatDoorWi
import Derived.Lib.AtoiErrMem
namespace Go.Proofs.YtnjlcdemfdokoaaGreatDoor
open Go Go.RowKit
/-- what ParseUint makes of digits, at fifty-three bits -/
def pu53 (l : List UInt8) : Lib.NumEnd Nat := if l = [] then Lib.NumEnd.syntax else Lib.parseUintM 9007199254740991 0 l
theorem iparse_any (t : ByteArray) (hmax : t.size ≤ 9223372036854775806) (w : World) :
    Calls Tryz.prog 147 #[.string t, .int .i64 10, .int .i64 53] w fun e w' => e = .returned (Lib.uintTupleM 150 9007199254740991 (pu53 t.data.toList)) ∧ Below w.heap.size w w' := by
  by_cases h : t.size = 0
  · have e : t.data.toList = [] := List.length_eq_zero_iff.1 (by rw [← Lib.size_eq]; exact h)
    unfold pu53
    rw [if_pos e]
    exact (iparse_empty t h w).mono fun e w' ⟨he, hw⟩ => ⟨he, hw ▸ Below.refl _ _⟩
  · have e : ¬ t.data.toList = [] := by
      intro e
      apply h
      rw [Lib.size_eq, e]; rfl
    unfold pu53
    rw [if_neg e]
    exact (iparse_53 t h hmax w).mono fun e w' ⟨he, hw⟩ => ⟨he, by rw [hw]; exact Lib.bytesWorld_below _ _ _⟩
set_option maxHeartbeats 4000000 in
set_option maxRecDepth 100000 in
theorem puint_ok (t : ByteArray) (hmax : t.size ≤ 9223372036854775806) (u : Nat) (h : pu53 t.data.toList = .ok u) (w : World) :
    Calls Tryz.prog 155 #[.string t, .int .i64 10, .int .i64 53] w fun e w' => e = .returned (.tuple #[.int .u64 u, .nilIface]) ∧ Below w.heap.size w w' := by
  have hI := iparse_any t hmax w
  rw [h] at hI
  have hI : Calls Tryz.prog 147 #[.string t, .int .i64 10, .int .i64 53] w fun e w' => e = .returned (.tuple #[.int .u64 u, .nilIface]) ∧ Below w.heap.size w w' := hI
  clear h
  go_enter Tryz.func155, Tryz.ntmps155
  go_wp2_with (go_at_call 147; refine hI.mono ?_; rintro e W1 ⟨rfl, hW⟩)
  go_wp2
  go_ret2
  exact ⟨rfl, hW⟩
set_option maxHeartbeats 4000000 in
set_option maxRecDepth 100000 in
theorem puint_syntax (t : ByteArray) (hmax : t.size ≤ 281474976710656) (h : pu53 t.data.toList = Lib.NumEnd.syntax) (w : World) (hT : Tabs w) :
    Calls Tryz.prog 155 #[.string t, .int .i64 10, .int .i64 53] w fun e w' => ∃ N, e = .returned (.tuple #[.int .u64 0, .iface 153 (.pointer (some ⟨N, 0, none⟩))]) ∧ Below w.heap.size w w' := by
  have hI := iparse_any t (by omega) w
  rw [h] at hI
  have hI : Calls Tryz.prog 147 #[.string t, .int .i64 10, .int .i64 53] w fun e w' => e = .returned (.tuple #[.int .u64 0, .iface 150 (.int .i64 2)]) ∧ Below w.heap.size w w' := hI
  clear h
  go_enter Tryz.func155, Tryz.ntmps155
  go_wp2_with (go_at_call 147; refine hI.mono ?_)
  rintro e W1 ⟨rfl, hb1⟩
  obtain ⟨te, pe, hv1⟩ := (hT.below hb1).es
  go_wp2_with (go_at_call 132; refine (Tryz.strconv_toError_syntax ⟨#[80, 97, 114, 115, 101, 85, 105, 110, 116]⟩ t 10 53 (.iface te pe) _ hmax ?_ (Or.inr ⟨te, pe, rfl⟩)).mono ?_)
  · exact hv1
  rintro e W2 ⟨N, rfl, h1, h2, h3⟩
  go_wp2
  go_ret2
  exact ⟨N, rfl, Below.chain hb1 h3⟩
set_option maxHeartbeats 4000000 in
set_option maxRecDepth 100000 in
theorem puint_range (t : ByteArray) (hmax : t.size ≤ 281474976710656) (h : pu53 t.data.toList = .range) (w : World) (hT : Tabs w) :
    Calls Tryz.prog 155 #[.string t, .int .i64 10, .int .i64 53] w fun e w' => ∃ N, e = .returned (.tuple #[.int .u64 9007199254740991, .iface 153 (.pointer (some ⟨N, 0, none⟩))]) ∧ Below w.heap.size w w' := by
  have hI := iparse_any t (by omega) w
  rw [h] at hI
  have hI : Calls Tryz.prog 147 #[.string t, .int .i64 10, .int .i64 53] w fun e w' => e = .returned (.tuple #[.int .u64 9007199254740991, .iface 150 (.int .i64 1)]) ∧ Below w.heap.size w w' := hI
  clear h
  go_enter Tryz.func155, Tryz.ntmps155
  go_wp2_with (go_at_call 147; refine hI.mono ?_)
  rintro e W1 ⟨rfl, hb1⟩
  obtain ⟨te, pe, hv1⟩ := (hT.below hb1).er
  go_wp2_with (go_at_call 132; refine (Tryz.strconv_toError_range ⟨#[80, 97, 114, 115, 101, 85, 105, 110, 116]⟩ t 10 53 (.iface te pe) _ hmax ?_ (Or.inr ⟨te, pe, rfl⟩)).mono ?_)
  · exact hv1
  rintro e W2 ⟨N, rfl, h1, h2, h3⟩
  go_wp2
  go_ret2
  exact ⟨N, rfl, Below.chain hb1 h3⟩
theorem pint_ok (t : ByteArray) (hmax : t.size ≤ 9223372036854775806) (v : Int) (h : Lib.parseIntB 16 t.data.toList = .ok v) (w : World) :
    Calls Tryz.prog 112 #[.string t, .int .i64 10, .int .i64 16] w fun e w' => e = .returned (.tuple #[.int .i64 v, .nilIface]) ∧ Below w.heap.size w w' :=
  (Tryz.strconv_ParseInt_10_at16_ok t hmax v h w).mono fun e w' ⟨he, hw⟩ => ⟨he, by
    rcases hw with rfl | ⟨t', rfl⟩
    · exact Below.refl _ _
    · exact Lib.bytesWorld_below _ _ _⟩
theorem pint_err (t : ByteArray) (hmax : t.size ≤ 281474976710656) (h : ∀ v, Lib.parseIntB 16 t.data.toList ≠ .ok v) (w : World) (hT : Tabs w) :
    Calls Tryz.prog 112 #[.string t, .int .i64 10, .int .i64 16] w fun e w' => ∃ v N, e = .returned (.tuple #[.int .i64 v, .iface 153 (.pointer (some ⟨N, 0, none⟩))]) ∧ Below w.heap.size w w' := by
  rcases hp : Lib.parseIntB 16 t.data.toList with v | _ | _
  · exact absurd hp (h v)
  · obtain ⟨te, pe, hv⟩ := hT.es
    exact (Tryz.strconv_ParseInt_10_at16_syntax t hmax hp (.iface te pe) w hv (Or.inr ⟨te, pe, rfl⟩)).mono fun e w' ⟨N, he, _, _, hb⟩ => ⟨0, N, he, hb⟩
  · obtain ⟨te, pe, hv⟩ := hT.er
    exact (Tryz.strconv_ParseInt_10_at16_range t hmax hp (.iface te pe) w hv (Or.inr ⟨te, pe, rfl⟩)).mono fun e w' ⟨N, he, _, _, hb⟩ => ⟨_, N, he, hb⟩
theorem puint_err (t : ByteArray) (hmax : t.size ≤ 281474976710656) (h : ∀ u, pu53 t.data.toList ≠ .ok u) (w : World) (hT : Tabs w) :
    Calls Tryz.prog 155 #[.string t, .int .i64 10, .int .i64 53] w fun e w' => ∃ (v : Int) (N : Nat), e = .returned (.tuple #[.int .u64 v, .iface 153 (.pointer (some ⟨N, 0, none⟩))]) ∧ Below w.heap.size w w' := by
  rcases hp : pu53 t.data.toList with v | _ | _
  · exact absurd hp (h v)
  · exact (puint_syntax t hmax hp w hT).mono fun e w' ⟨N, he, hb⟩ => ⟨_, N, he, hb⟩
  · exact (puint_range t hmax hp w hT).mono fun e w' ⟨N, he, hb⟩ => ⟨_, N, he, hb⟩
end Go.Proofs.YtnjlcdemfdokoaaGreatDoor
