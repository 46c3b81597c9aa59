import Derived.Test.YtnjlcdemfdokoaaGreatDoorWq
import Derived.Deep.RegionWith
import Derived.RegionTactic
import Derived.ChangeAlike
import Derived.Laws.BytesArg
namespace Go.Proofs.YtnjlcdemfdokoaaGreatDoor
open Go Go.RowKit
theorem bcell {W w1 : World} (hb : Below W.heap.size W w1) : (∀ b o, b < W.heap.size → w1.cell? ⟨b, o, none⟩ = W.cell? ⟨b, o, none⟩) ∧ (∀ b o, b < W.heap.size → w1.frozen? ⟨b, o, none⟩ = W.frozen? ⟨b, o, none⟩) :=
  ⟨fun b o h => hb.cell (p := ⟨b, o, none⟩) h, fun b o h => hb.frozen (p := ⟨b, o, none⟩) h⟩
theorem bl_drew {w w1 : World} (h : Below w.drew.heap.size w.drew w1) : Below w.heap.size w w1 := (Below.refl _ _).drew.trans h
theorem bl_alloc {w w1 : World} {o : Obj} (h : Below (w.alloc o).drew.heap.size (w.alloc o).drew w1) : Below w.heap.size w w1 :=
  ((Below.refl _ _).alloc (Nat.le_refl _) o).drew.trans (h.mono ((Below.refl w.heap.size w).alloc (Nat.le_refl _) o).drew.size)
theorem u8w (c : Nat) (h : c < 256) : IntKind.u8.wrap (c : Int) = (c : Int) := by simp [IntKind.wrap, IntKind.bits, IntKind.signed]; omega
theorem conv1 (W : World) (b : Nat) (c : Int) (h : W.cell? ⟨b, 0, none⟩ = some (.int .u8 c)) : (convert 105 9 (.slice (some ⟨b, 0, none⟩) 1 1)).run Tryz.prog W = .ok (.string ⟨#[UInt8.ofNat c.toNat]⟩) W :=
  run_convert_bytes_arg (P := Tryz.prog) (w := W) 105 5 Tryz.underlying105 Tryz.underlying5 b 0 1 1 [c] rfl (fun i hi => by
    have : i = 0 := by omega
    subst this
    exact h) 9 Tryz.underlying9
theorem digits_small (n : Nat) (h : n < 10) (w : World) : Calls Tryz.prog 107 #[.int .i64 (n : Int)] w fun e w' => e = .returned (.string ⟨(Lib.decDigits n).toArray⟩) ∧ Below w.heap.size w w' := by
  rw [Lib.decDigits_one h]
  have hc := conv1
  go_enter Tryz.func107, Tryz.ntmps107
  go_wp2
  go_ret
  exact ⟨ret_str (by congr 3), (Below.refl _ _).alloc (Nat.le_refl _) _⟩
set_option maxHeartbeats 1000000 in
theorem digits_big (n q r c : Nat) (h : 10 ≤ n) (D : List UInt8) (hD : D.length ≤ 30) (e1 : IntKind.i64.wrap ((n : Int) / 10) = (q : Int)) (e2 : (n : Int).tmod 10 = (r : Int)) (e3 : IntKind.i64.wrap (48 + (r : Int)) = (c : Int)) (e4 : IntKind.u8.wrap (c : Int) = (c : Int))
    (IH : ∀ w, Calls Tryz.prog 107 #[.int .i64 (q : Int)] w fun e w' => e = .returned (.string ⟨D.toArray⟩) ∧ Below w.heap.size w w') (w : World) : Calls Tryz.prog 107 #[.int .i64 (n : Int)] w fun e w' => e = .returned (.string ⟨(D ++ [UInt8.ofNat c]).toArray⟩) ∧ Below w.heap.size w w' := by
  have hc := conv1
  have hs := ByteArray.mk_append_mk D [UInt8.ofNat c]
  have HS := Lib.hid hs
  clear hs
  go_enter Tryz.func107, Tryz.ntmps107
  go_wp2_with fail
  go_region_with ((go_at_call 107; refine (IH _).mono ?_; rintro e w1 ⟨rfl, hb⟩; obtain ⟨hcl, hfz⟩ := bcell hb))
  all_goals go_wp2
  · go_ret
    exact ⟨ret_str HS.out, (bl_drew hb).alloc (bl_drew hb).size _⟩
  · go_ret
    exact ⟨ret_str HS.out, bl_alloc hb⟩
  · go_ret
    exact ⟨ret_str HS.out, bl_alloc hb⟩
theorem digits_any (n : Nat) (h : n < 2 ^ 63) (w : World) : Calls Tryz.prog 107 #[.int .i64 (n : Int)] w fun e w' => e = .returned (.string ⟨(Lib.decDigits n).toArray⟩) ∧ Below w.heap.size w w' := by
  induction n using Nat.strongRecOn generalizing w with
  | ind n ih =>
    by_cases h10 : n < 10
    · exact digits_small n h10 w
    · rw [show Lib.decDigits n = Lib.decDigits (n / 10) ++ [UInt8.ofNat (48 + n % 10)] from by rw [Lib.decDigits, dif_neg h10]]
      exact digits_big n (n / 10) (n % 10) (48 + n % 10) (by omega) _ (Nat.le_trans (Flt.dec_len (m := n / 10) (by omega)) (by omega)) (by rw [IntKind.wrap_i64]; omega) (by rw [Int.tmod_eq_emod_of_nonneg (by omega)]; omega) (by rw [IntKind.wrap_i64]; omega) (u8w _ (by omega)) (fun w => ih (n / 10) (by omega) (by omega) w) w
theorem signed_pos (n : Nat) (h : n < 2 ^ 63) (w : World) : Calls Tryz.prog 108 #[.int .i64 (n : Int)] w fun e w' => e = .returned (.string ⟨(Lib.decDigits n).toArray⟩) ∧ Below w.heap.size w w' := by
  have hd := digits_any n h
  go_enter Tryz.func108, Tryz.ntmps108
  go_wp2_with fail
  refine (hd _).mono ?_
  rintro e w1 ⟨rfl, hb⟩
  go_wp2
  go_ret
  exact ⟨rfl, hb⟩
theorem signed_small (n : Nat) (h : n < 10) (h0 : 0 < n) (w : World) : Calls Tryz.prog 108 #[.int .i64 (-(n : Int))] w fun e w' => e = .returned (.string ⟨(45 :: Lib.decDigits n).toArray⟩) ∧ Below w.heap.size w w' := by
  rw [Lib.decDigits_one h]
  have hc := conv1
  have e3 : IntKind.i64.wrap (48 + (n : Int)) = (48 + (n : Int)) := by rw [IntKind.wrap_i64]; omega
  have e4 : IntKind.u8.wrap (48 + (n : Int)) = (48 + (n : Int)) := u8w (48 + n) (by omega)
  go_enter Tryz.func108, Tryz.ntmps108
  go_wp2
  go_ret
  exact ⟨ret_str (by rw [UInt8.ofNat_add]; rfl), (Below.refl _ _).alloc (Nat.le_refl _) _⟩
set_option maxHeartbeats 1000000 in
theorem signed_big (N Q R : Int) (c : Nat) (h : N ≤ -10) (D : List UInt8) (hD : D.length ≤ 30) (e1 : IntKind.i64.wrap (N.tdiv 10) = Q) (e2 : N.tmod 10 = R) (e3 : IntKind.i64.wrap (48 - R) = (c : Int)) (e4 : IntKind.u8.wrap (c : Int) = (c : Int))
    (IH : ∀ w, Calls Tryz.prog 108 #[.int .i64 Q] w fun e w' => e = .returned (.string ⟨D.toArray⟩) ∧ Below w.heap.size w w') (w : World) : Calls Tryz.prog 108 #[.int .i64 N] w fun e w' => e = .returned (.string ⟨(D ++ [UInt8.ofNat c]).toArray⟩) ∧ Below w.heap.size w w' := by
  have hc := conv1
  have hs := ByteArray.mk_append_mk D [UInt8.ofNat c]
  have HS := Lib.hid hs
  clear hs
  go_enter Tryz.func108, Tryz.ntmps108
  go_wp2_with fail
  go_region_with ((go_at_call 108; refine (IH _).mono ?_; rintro e w1 ⟨rfl, hb⟩; obtain ⟨hcl, hfz⟩ := bcell hb))
  all_goals go_wp2
  · go_ret
    exact ⟨ret_str HS.out, (bl_drew hb).alloc (bl_drew hb).size _⟩
  · go_ret
    exact ⟨ret_str HS.out, bl_alloc hb⟩
  · go_ret
    exact ⟨ret_str HS.out, bl_alloc hb⟩
theorem signed_neg (n : Nat) (h0 : 0 < n) (h : n ≤ 2 ^ 63) (w : World) : Calls Tryz.prog 108 #[.int .i64 (-(n : Int))] w fun e w' => e = .returned (.string ⟨(45 :: Lib.decDigits n).toArray⟩) ∧ Below w.heap.size w w' := by
  induction n using Nat.strongRecOn generalizing w with
  | ind n ih =>
    by_cases h10 : n < 10
    · exact signed_small n h10 h0 w
    · rw [show 45 :: Lib.decDigits n = (45 :: Lib.decDigits (n / 10)) ++ [UInt8.ofNat (48 + n % 10)] from by rw [Lib.decDigits, dif_neg h10]; rfl]
      have e1 : (-(n : Int)).tdiv 10 = -((n / 10 : Nat) : Int) := by rw [Int.neg_tdiv, Int.tdiv_eq_ediv_of_nonneg (by omega)]; omega
      have e2 : (-(n : Int)).tmod 10 = -((n % 10 : Nat) : Int) := by rw [Int.neg_tmod, Int.tmod_eq_emod_of_nonneg (by omega)]; omega
      refine signed_big (-(n : Int)) (-((n / 10 : Nat) : Int)) (-((n % 10 : Nat) : Int)) (48 + n % 10) (by omega) _ ?_ (by rw [e1, IntKind.wrap_i64]; omega) e2 (by rw [IntKind.wrap_i64]; omega) (u8w _ (by omega)) (fun w => ih (n / 10) (by omega) (by omega) (by omega) w) w
      have := Flt.dec_len (m := n / 10) (by omega)
      simp
      omega
theorem signed_any (n : Int) (h0 : -9223372036854775808 ≤ n) (h1 : n ≤ 9223372036854775807) (w : World) : Calls Tryz.prog 108 #[.int .i64 n] w fun e w' => e = .returned (.string ⟨(Lib.itoa n).toArray⟩) ∧ Below w.heap.size w w' := by
  by_cases h : 0 ≤ n
  · obtain ⟨u, rfl⟩ : ∃ u : Nat, n = u := ⟨n.toNat, by omega⟩
    rw [Lib.itoa_nonneg]
    exact signed_pos u (by omega) w
  · obtain ⟨u, rfl⟩ : ∃ u : Nat, n = -(u : Int) := ⟨(-n).toNat, by omega⟩
    rw [Lib.itoa_neg u (by omega)]
    exact signed_neg u (by omega) (by omega) w
end Go.Proofs.YtnjlcdemfdokoaaGreatDoor
