import Derived.Test.YtnjlcdemfdokoaaGreatDoorWk
namespace Go.Proofs.YtnjlcdemfdokoaaGreatDoor
open Go Go.RowKit
theorem read_nan (w : World) : Calls Tryz.prog 133 #[.string ⟨#[110, 97, 110]⟩] w fun e w' => e = .returned (.tuple #[.float .f64 9221120237041090561, .bool true]) ∧ w = w' := by
  have HC := canon_any 9221120237041090561 (by decide)
  rw [show Flt.canon 9221120237041090561 = 9221120237041090561 from by decide] at HC
  go_enter Tryz.func133, Tryz.ntmps133
  go_wp2_with (first | (go_at_call 33; refine (nan_any _).mono ?_; rintro e w' ⟨rfl, rfl⟩) | (go_at_call 42; refine (HC _).mono ?_; rintro e w' ⟨rfl, rfl⟩))
  go_ret2
  exact ⟨rfl, rfl⟩
theorem read_inf (w : World) : Calls Tryz.prog 133 #[.string ⟨#[105, 110, 102]⟩] w fun e w' => e = .returned (.tuple #[.float .f64 9218868437227405312, .bool true]) ∧ w = w' := by
  go_enter Tryz.func133, Tryz.ntmps133
  go_wp2_with ((go_at_call 152; refine (inf_pos _).mono ?_; rintro e w' ⟨rfl, rfl⟩))
  go_ret2
  exact ⟨rfl, rfl⟩
theorem read_ninf (w : World) : Calls Tryz.prog 133 #[.string ⟨#[45, 105, 110, 102]⟩] w fun e w' => e = .returned (.tuple #[.float .f64 18442240474082181120, .bool true]) ∧ w = w' := by
  go_enter Tryz.func133, Tryz.ntmps133
  go_wp2_with ((go_at_call 152; refine (inf_neg _).mono ?_; rintro e w' ⟨rfl, rfl⟩))
  go_ret2
  exact ⟨rfl, rfl⟩
set_option maxRecDepth 100000 in
theorem read_core (s R A B : ByteArray) (n : Bool) (m : Nat) (x : Int) (z y : Nat) (h1 : (s.toList == [110, 97, 110]) = false) (h2 : (s.toList == [105, 110, 102]) = false) (h3 : (s.toList == [45, 105, 110, 102]) = false)
    (C1 : ∀ w, Calls Tryz.prog 153 #[.string s, .string ⟨#[45]⟩] w fun e w' => e = .returned (.tuple #[.string R, .bool n]) ∧ w' = w)
    (C2 : ∀ w, Calls Tryz.prog 154 #[.string R, .string ⟨#[112]⟩] w fun e w' => ∃ b, e = .returned (.tuple #[.string A, .string B, .bool b]) ∧ Below w.heap.size w w')
    (C3 : ∀ w, Calls Tryz.prog 155 #[.string A, .int .i64 10, .int .i64 53] w fun e w' => e = .returned (.tuple #[.int .u64 m, .nilIface]) ∧ Below w.heap.size w w')
    (C4 : ∀ w, Calls Tryz.prog 112 #[.string B, .int .i64 10, .int .i64 16] w fun e w' => e = .returned (.tuple #[.int .i64 x, .nilIface]) ∧ Below w.heap.size w w')
    (C5 : ∀ w, Calls Tryz.prog 126 #[.float .f64 (floatOfInt .f64 (m : Int)), .int .i64 x] w fun e w' => e = .returned (.float .f64 z) ∧ w = w')
    (C6 : ∀ w, Calls Tryz.prog 156 #[.float .f64 z, .float .f64 13830554455654793216] w fun e w' => e = .returned (.float .f64 y) ∧ w = w') (w : World) :
    Calls Tryz.prog 133 #[.string s] w fun e w' => e = .returned (.tuple #[.float .f64 (if n = true then y else z), .bool true]) ∧ Below w.heap.size w w' := by
  cases n
  · go_enter Tryz.func133, Tryz.ntmps133
    go_wp2_with fail
    refine (C1 _).mono ?_; rintro e w' ⟨rfl, rfl⟩
    go_wp2_with fail
    refine (C2 _).mono ?_; rintro e w1 ⟨b, rfl, hb1⟩
    go_wp2_with fail
    refine (C3 _).mono ?_; rintro e w2 ⟨rfl, hb2⟩
    go_wp2_with fail
    refine (C4 _).mono ?_; rintro e w3 ⟨rfl, hb3⟩
    go_wp2_with fail
    refine (C5 _).mono ?_; rintro e w4 ⟨rfl, rfl⟩
    go_wp2_with fail
    go_ret2
    exact ⟨rfl, Below.chain hb1 (Below.chain hb2 hb3)⟩
  · go_enter Tryz.func133, Tryz.ntmps133
    go_wp2_with fail
    refine (C1 _).mono ?_; rintro e w' ⟨rfl, rfl⟩
    go_wp2_with fail
    refine (C2 _).mono ?_; rintro e w1 ⟨b, rfl, hb1⟩
    go_wp2_with fail
    refine (C3 _).mono ?_; rintro e w2 ⟨rfl, hb2⟩
    go_wp2_with fail
    refine (C4 _).mono ?_; rintro e w3 ⟨rfl, hb3⟩
    go_wp2_with fail
    refine (C5 _).mono ?_; rintro e w4 ⟨rfl, rfl⟩
    go_wp2_with fail
    refine (C6 _).mono ?_; rintro e w4 ⟨rfl, rfl⟩
    go_wp2_with fail
    go_ret2
    exact ⟨rfl, Below.chain hb1 (Below.chain hb2 hb3)⟩
set_option maxRecDepth 100000 in
theorem read_bad1 (s R A B : ByteArray) (n : Bool) (h1 : (s.toList == [110, 97, 110]) = false) (h2 : (s.toList == [105, 110, 102]) = false) (h3 : (s.toList == [45, 105, 110, 102]) = false)
    (C1 : ∀ w, Calls Tryz.prog 153 #[.string s, .string ⟨#[45]⟩] w fun e w' => e = .returned (.tuple #[.string R, .bool n]) ∧ w' = w)
    (C2 : ∀ w, Calls Tryz.prog 154 #[.string R, .string ⟨#[112]⟩] w fun e w' => ∃ b, e = .returned (.tuple #[.string A, .string B, .bool b]) ∧ Below w.heap.size w w')
    (C3 : ∀ w, Tabs w → Calls Tryz.prog 155 #[.string A, .int .i64 10, .int .i64 53] w fun e w' => ∃ (v : Int) (N : Nat), e = .returned (.tuple #[.int .u64 v, .iface 153 (.pointer (some ⟨N, 0, none⟩))]) ∧ Below w.heap.size w w') (w : World) (hT : Tabs w) :
    Calls Tryz.prog 133 #[.string s] w fun e w' => e = .returned (.tuple #[.float .f64 0, .bool false]) ∧ Below w.heap.size w w' := by
  go_enter Tryz.func133, Tryz.ntmps133
  go_wp2_with fail
  refine (C1 _).mono ?_; rintro e w' ⟨rfl, rfl⟩
  go_wp2_with fail
  refine (C2 _).mono ?_; rintro e w1 ⟨b, rfl, hb1⟩
  go_wp2_with fail
  refine (C3 _ (hT.below hb1)).mono ?_; rintro e w2 ⟨v, N, rfl, hb2⟩
  go_wp2_with fail
  go_ret2
  exact ⟨rfl, Below.chain hb1 hb2⟩
set_option maxRecDepth 100000 in
theorem read_bad2 (s R A B : ByteArray) (n : Bool) (m : Nat) (h1 : (s.toList == [110, 97, 110]) = false) (h2 : (s.toList == [105, 110, 102]) = false) (h3 : (s.toList == [45, 105, 110, 102]) = false)
    (C1 : ∀ w, Calls Tryz.prog 153 #[.string s, .string ⟨#[45]⟩] w fun e w' => e = .returned (.tuple #[.string R, .bool n]) ∧ w' = w)
    (C2 : ∀ w, Calls Tryz.prog 154 #[.string R, .string ⟨#[112]⟩] w fun e w' => ∃ b, e = .returned (.tuple #[.string A, .string B, .bool b]) ∧ Below w.heap.size w w')
    (C3 : ∀ w, Calls Tryz.prog 155 #[.string A, .int .i64 10, .int .i64 53] w fun e w' => e = .returned (.tuple #[.int .u64 m, .nilIface]) ∧ Below w.heap.size w w')
    (C4 : ∀ w, Tabs w → Calls Tryz.prog 112 #[.string B, .int .i64 10, .int .i64 16] w fun e w' => ∃ v N, e = .returned (.tuple #[.int .i64 v, .iface 153 (.pointer (some ⟨N, 0, none⟩))]) ∧ Below w.heap.size w w') (w : World) (hT : Tabs w) :
    Calls Tryz.prog 133 #[.string s] w fun e w' => e = .returned (.tuple #[.float .f64 0, .bool false]) ∧ Below w.heap.size w w' := by
  go_enter Tryz.func133, Tryz.ntmps133
  go_wp2_with fail
  refine (C1 _).mono ?_; rintro e w' ⟨rfl, rfl⟩
  go_wp2_with fail
  refine (C2 _).mono ?_; rintro e w1 ⟨b, rfl, hb1⟩
  go_wp2_with fail
  refine (C3 _).mono ?_; rintro e w2 ⟨rfl, hb2⟩
  go_wp2_with fail
  refine (C4 _ (hT.below (Below.chain hb1 hb2))).mono ?_; rintro e w3 ⟨v, N, rfl, hb3⟩
  go_wp2_with fail
  go_ret2
  exact ⟨rfl, Below.chain hb1 (Below.chain hb2 hb3)⟩
end Go.Proofs.YtnjlcdemfdokoaaGreatDoor
