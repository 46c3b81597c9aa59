import Derived.Test.YtainigcchlgehaaGreatDoorA2
import Derived.Deep.RegionWith
import Derived.RegionTactic
import Derived.ChangeAlike
import Derived.Laws.BytesArg
namespace Go.Proofs.YtainigcchlgehaaGreatDoor
open Go Go.RowKit
theorem bcell {W w1 : World} (hb : Below W.heap.size W w1) : (∀ b o, b < W.heap.size → w1.cell? ⟨b, o, none⟩ = W.cell? ⟨b, o, none⟩) ∧ (∀ b o, b < W.heap.size → w1.frozen? ⟨b, o, none⟩ = W.frozen? ⟨b, o, none⟩) :=
  ⟨fun b o h => hb.cell (p := ⟨b, o, none⟩) h, fun b o h => hb.frozen (p := ⟨b, o, none⟩) h⟩
theorem bl_drew {w w1 : World} (h : Below w.drew.heap.size w.drew w1) : Below w.heap.size w w1 := (Below.refl _ _).drew.trans h
theorem bl_alloc {w w1 : World} {o : Obj} (h : Below (w.alloc o).drew.heap.size (w.alloc o).drew w1) : Below w.heap.size w w1 :=
  ((Below.refl _ _).alloc (Nat.le_refl _) o).drew.trans (h.mono ((Below.refl w.heap.size w).alloc (Nat.le_refl _) o).drew.size)
theorem u8w (c : Nat) (h : c < 256) : IntKind.u8.wrap (c : Int) = (c : Int) := by simp [IntKind.wrap, IntKind.bits, IntKind.signed]; omega
theorem conv1 (W : World) (b : Nat) (c : Int) (h : W.cell? ⟨b, 0, none⟩ = some (.int .u8 c)) : (convert 52 9 (.slice (some ⟨b, 0, none⟩) 1 1)).run Tryz.prog W = .ok (.string ⟨#[UInt8.ofNat c.toNat]⟩) W :=
  run_convert_bytes_arg (P := Tryz.prog) (w := W) 52 5 Tryz.underlying52 Tryz.underlying5 b 0 1 1 [c] rfl (fun i hi => by
    have : i = 0 := by omega
    subst this
    exact h) 9 Tryz.underlying9
theorem digits_small (n : Nat) (h : n < 10) (w : World) : Calls Tryz.prog 43 #[.int .i64 (n : Int)] w fun e w' => e = .returned (.string ⟨(Lib.decDigits n).toArray⟩) ∧ Below w.heap.size w w' := by
  rw [Lib.decDigits_one h]
  have hc := conv1
  go_enter Tryz.func43, Tryz.ntmps43
  go_wp2
  go_ret
  exact ⟨ret_str (by congr 3), (Below.refl _ _).alloc (Nat.le_refl _) _⟩
set_option maxHeartbeats 1000000 in
theorem digits_big (n q r c : Nat) (h : 10 ≤ n) (D : List UInt8) (hD : D.length ≤ 30) (e1 : IntKind.i64.wrap ((n : Int) / 10) = (q : Int)) (e2 : (n : Int).tmod 10 = (r : Int)) (e3 : IntKind.i64.wrap (48 + (r : Int)) = (c : Int)) (e4 : IntKind.u8.wrap (c : Int) = (c : Int))
    (IH : ∀ w, Calls Tryz.prog 43 #[.int .i64 (q : Int)] w fun e w' => e = .returned (.string ⟨D.toArray⟩) ∧ Below w.heap.size w w') (w : World) : Calls Tryz.prog 43 #[.int .i64 (n : Int)] w fun e w' => e = .returned (.string ⟨(D ++ [UInt8.ofNat c]).toArray⟩) ∧ Below w.heap.size w w' := by
  have hc := conv1
  have hs := ByteArray.mk_append_mk D [UInt8.ofNat c]
  have HS := Lib.hid hs
  clear hs
  go_enter Tryz.func43, Tryz.ntmps43
  go_wp2_with fail
  go_region_with ((go_at_call 43; refine (IH _).mono ?_; rintro e w1 ⟨rfl, hb⟩; obtain ⟨hcl, hfz⟩ := bcell hb))
  all_goals go_wp2
  · go_ret
    exact ⟨ret_str HS.out, (bl_drew hb).alloc (bl_drew hb).size _⟩
  · go_ret
    exact ⟨ret_str HS.out, bl_alloc hb⟩
  · go_ret
    exact ⟨ret_str HS.out, bl_alloc hb⟩
theorem digits_any (n : Nat) (h : n < 2 ^ 63) (w : World) : Calls Tryz.prog 43 #[.int .i64 (n : Int)] w fun e w' => e = .returned (.string ⟨(Lib.decDigits n).toArray⟩) ∧ Below w.heap.size w w' := by
  induction n using Nat.strongRecOn generalizing w with
  | ind n ih =>
    by_cases h10 : n < 10
    · exact digits_small n h10 w
    · rw [show Lib.decDigits n = Lib.decDigits (n / 10) ++ [UInt8.ofNat (48 + n % 10)] from by rw [Lib.decDigits, dif_neg h10]]
      exact digits_big n (n / 10) (n % 10) (48 + n % 10) (by omega) _ (Nat.le_trans (Flt.dec_len (m := n / 10) (by omega)) (by omega)) (by rw [IntKind.wrap_i64]; omega) (by rw [Int.tmod_eq_emod_of_nonneg (by omega)]; omega) (by rw [IntKind.wrap_i64]; omega) (u8w _ (by omega)) (fun w => ih (n / 10) (by omega) (by omega) w) w
theorem signed_pos (n : Nat) (h : n < 2 ^ 63) (w : World) : Calls Tryz.prog 44 #[.int .i64 (n : Int)] w fun e w' => e = .returned (.string ⟨(Lib.decDigits n).toArray⟩) ∧ Below w.heap.size w w' := by
  have hd := digits_any n h
  go_enter Tryz.func44, Tryz.ntmps44
  go_wp2_with fail
  refine (hd _).mono ?_
  rintro e w1 ⟨rfl, hb⟩
  go_wp2
  go_ret
  exact ⟨rfl, hb⟩
theorem signed_small (n : Nat) (h : n < 10) (h0 : 0 < n) (w : World) : Calls Tryz.prog 44 #[.int .i64 (-(n : Int))] w fun e w' => e = .returned (.string ⟨(45 :: Lib.decDigits n).toArray⟩) ∧ Below w.heap.size w w' := by
  rw [Lib.decDigits_one h]
  have hc := conv1
  have e3 : IntKind.i64.wrap (48 + (n : Int)) = (48 + (n : Int)) := by rw [IntKind.wrap_i64]; omega
  have e4 : IntKind.u8.wrap (48 + (n : Int)) = (48 + (n : Int)) := u8w (48 + n) (by omega)
  go_enter Tryz.func44, Tryz.ntmps44
  go_wp2
  go_ret
  exact ⟨ret_str (by rw [UInt8.ofNat_add]; rfl), (Below.refl _ _).alloc (Nat.le_refl _) _⟩
set_option maxHeartbeats 1000000 in
theorem signed_big (N Q R : Int) (c : Nat) (h : N ≤ -10) (D : List UInt8) (hD : D.length ≤ 30) (e1 : IntKind.i64.wrap (N.tdiv 10) = Q) (e2 : N.tmod 10 = R) (e3 : IntKind.i64.wrap (48 - R) = (c : Int)) (e4 : IntKind.u8.wrap (c : Int) = (c : Int))
    (IH : ∀ w, Calls Tryz.prog 44 #[.int .i64 Q] w fun e w' => e = .returned (.string ⟨D.toArray⟩) ∧ Below w.heap.size w w') (w : World) : Calls Tryz.prog 44 #[.int .i64 N] w fun e w' => e = .returned (.string ⟨(D ++ [UInt8.ofNat c]).toArray⟩) ∧ Below w.heap.size w w' := by
  have hc := conv1
  have hs := ByteArray.mk_append_mk D [UInt8.ofNat c]
  have HS := Lib.hid hs
  clear hs
  go_enter Tryz.func44, Tryz.ntmps44
  go_wp2_with fail
  go_region_with ((go_at_call 44; refine (IH _).mono ?_; rintro e w1 ⟨rfl, hb⟩; obtain ⟨hcl, hfz⟩ := bcell hb))
  all_goals go_wp2
  · go_ret
    exact ⟨ret_str HS.out, (bl_drew hb).alloc (bl_drew hb).size _⟩
  · go_ret
    exact ⟨ret_str HS.out, bl_alloc hb⟩
  · go_ret
    exact ⟨ret_str HS.out, bl_alloc hb⟩
theorem signed_neg (n : Nat) (h0 : 0 < n) (h : n ≤ 2 ^ 63) (w : World) : Calls Tryz.prog 44 #[.int .i64 (-(n : Int))] w fun e w' => e = .returned (.string ⟨(45 :: Lib.decDigits n).toArray⟩) ∧ Below w.heap.size w w' := by
  induction n using Nat.strongRecOn generalizing w with
  | ind n ih =>
    by_cases h10 : n < 10
    · exact signed_small n h10 h0 w
    · rw [show 45 :: Lib.decDigits n = (45 :: Lib.decDigits (n / 10)) ++ [UInt8.ofNat (48 + n % 10)] from by rw [Lib.decDigits, dif_neg h10]; rfl]
      have e1 : (-(n : Int)).tdiv 10 = -((n / 10 : Nat) : Int) := by rw [Int.neg_tdiv, Int.tdiv_eq_ediv_of_nonneg (by omega)]; omega
      have e2 : (-(n : Int)).tmod 10 = -((n % 10 : Nat) : Int) := by rw [Int.neg_tmod, Int.tmod_eq_emod_of_nonneg (by omega)]; omega
      refine signed_big (-(n : Int)) (-((n / 10 : Nat) : Int)) (-((n % 10 : Nat) : Int)) (48 + n % 10) (by omega) _ ?_ (by rw [e1, IntKind.wrap_i64]; omega) e2 (by rw [IntKind.wrap_i64]; omega) (u8w _ (by omega)) (fun w => ih (n / 10) (by omega) (by omega) (by omega) w) w
      have := Flt.dec_len (m := n / 10) (by omega)
      simp
      omega
theorem signed_any (n : Int) (h0 : -9223372036854775808 ≤ n) (h1 : n ≤ 9223372036854775807) (w : World) : Calls Tryz.prog 44 #[.int .i64 n] w fun e w' => e = .returned (.string ⟨(Lib.itoa n).toArray⟩) ∧ Below w.heap.size w w' := by
  by_cases h : 0 ≤ n
  · obtain ⟨u, rfl⟩ : ∃ u : Nat, n = u := ⟨n.toNat, by omega⟩
    rw [Lib.itoa_nonneg]
    exact signed_pos u (by omega) w
  · obtain ⟨u, rfl⟩ : ∃ u : Nat, n = -(u : Int) := ⟨(-n).toNat, by omega⟩
    rw [Lib.itoa_neg u (by omega)]
    exact signed_neg u (by omega) (by omega) w
end Go.Proofs.YtainigcchlgehaaGreatDoor
namespace Go.Proofs.YtainigcchlgehaaGreatDoor
open Go Go.RowKit
set_option maxHeartbeats 1000000
theorem rtext_nan (a : Nat) (s : Bool) (f : Int) (f1 : 0 < f) (f2 : f < 4503599627370496)
    (PT : ∀ w, Calls Tryz.prog 42 #[.float .f64 a] w fun e w' => e = .returned (.tuple #[.bool s, .int .i64 2047, .int .i64 f]) ∧ w = w') (w : World) :
    Calls Tryz.prog 25 #[.float .f64 a] w fun e w' => e = .returned (.string ⟨#[110, 97, 110]⟩) ∧ Below w.heap.size w w' := by
  have g3 : (f == 0) = false := by rw [beq_eq_false_iff_ne]; omega
  go_enter Tryz.func25, Tryz.ntmps25
  go_wp2_with (go_at_call 42; refine (PT _).mono ?_; rintro e w' ⟨rfl, rfl⟩)
  go_ret
  exact ⟨ret_str rfl, Below.refl _ _⟩
theorem rtext_inf (a : Nat) (s : Bool)
    (PT : ∀ w, Calls Tryz.prog 42 #[.float .f64 a] w fun e w' => e = .returned (.tuple #[.bool s, .int .i64 2047, .int .i64 0]) ∧ w = w') (w : World) :
    Calls Tryz.prog 25 #[.float .f64 a] w fun e w' => e = .returned (.string ⟨((if s = true then [45] else []) ++ ([105, 110, 102] : List UInt8)).toArray⟩) ∧ Below w.heap.size w w' := by
  cases s
  all_goals
    go_enter Tryz.func25, Tryz.ntmps25
    go_wp2_with (go_at_call 42; refine (PT _).mono ?_; rintro e w' ⟨rfl, rfl⟩)
    go_ret
    exact ⟨ret_str rfl, Below.refl _ _⟩
theorem rtext_zero (a : Nat) (s : Bool)
    (PT : ∀ w, Calls Tryz.prog 42 #[.float .f64 a] w fun e w' => e = .returned (.tuple #[.bool s, .int .i64 0, .int .i64 0]) ∧ w = w') (w : World) :
    Calls Tryz.prog 25 #[.float .f64 a] w fun e w' => e = .returned (.string ⟨((if s = true then [45] else []) ++ ([48, 112, 48] : List UInt8)).toArray⟩) ∧ Below w.heap.size w w' := by
  cases s
  all_goals
    go_enter Tryz.func25, Tryz.ntmps25
    go_wp2_with (go_at_call 42; refine (PT _).mono ?_; rintro e w' ⟨rfl, rfl⟩)
    go_ret
    exact ⟨ret_str rfl, Below.refl _ _⟩
theorem rtext_norm (a : Nat) (s : Bool) (F f : Int) (m0 : Nat) (e0 : Int) (F1 : 1 ≤ F) (F2 : F ≤ 2046)
    (f1 : 0 ≤ f) (f2 : f < 4503599627370496) (hm1 : 0 < m0) (hm2 : m0 < 9007199254740992) (he1 : -1074 ≤ e0) (he2 : e0 ≤ 971) (hm0 : f + 4503599627370496 = (m0 : Int)) (he0 : F - 1075 = e0) (M : Nat) (E : Int) (D I : List UInt8) (hD : D.length ≤ 20) (hI : I.length ≤ 21)
    (hodd : ∀ (m : Nat) (e : Int), e0 ≤ e → m % 2 = 1 → m * 2 ^ (e - e0).toNat = m0 → m = M ∧ e = E)
    (HDg : ∀ w, Calls Tryz.prog 43 #[.int .i64 (M : Int)] w fun e w' => e = .returned (.string ⟨D.toArray⟩) ∧ Below w.heap.size w w')
    (HIt : ∀ w, Calls Tryz.prog 44 #[.int .i64 E] w fun e w' => e = .returned (.string ⟨I.toArray⟩) ∧ Below w.heap.size w w')
    (PT : ∀ w, Calls Tryz.prog 42 #[.float .f64 a] w fun e w' => e = .returned (.tuple #[.bool s, .int .i64 F, .int .i64 f]) ∧ w = w') (w : World) :
    Calls Tryz.prog 25 #[.float .f64 a] w fun e w' => e = .returned (.string ⟨((if s = true then [45] else []) ++ (D ++ (112 :: I))).toArray⟩) ∧ Below w.heap.size w w' := by
  have hsum : ∀ A B C E : List UInt8, (ByteArray.mk A.toArray ++ ByteArray.mk B.toArray ++ ByteArray.mk C.toArray ++ ByteArray.mk E.toArray) = ByteArray.mk (A ++ (B ++ (C ++ E))).toArray := by
    intro A B C E
    rw [ByteArray.mk_append_mk, ByteArray.mk_append_mk, ByteArray.mk_append_mk]; simp
  have hsum0 := hsum [] D [112] I
  have hsum1 := hsum [45] D [112] I
  have H0 := Lib.hid hsum0
  have H1 := Lib.hid hsum1
  clear hsum hsum0 hsum1
  have HO := Lib.hid hodd
  clear hodd
  have g1 : (F == 2047) = false := by rw [beq_eq_false_iff_ne]; omega
  have g3 : (F == 0) = false := by rw [beq_eq_false_iff_ne]; omega
  have HM := Lib.hid hm0
  have HF := Lib.hid he0
  clear hm0 he0
  cases s
  all_goals
    go_enter Tryz.func25, Tryz.ntmps25
    go_wp2_with (go_at_call 42; refine (PT _).mono ?_; rintro e w' ⟨rfl, rfl⟩)
    rw [HM.out, HF.out]
    go_loop [4, 5] (fun t7 t8 => ∃ (e : Int) (m : Nat), t7 = .int .i64 e ∧ t8 = .int .i64 (m : Int) ∧ e0 ≤ e ∧ 0 < m ∧ m < 9007199254740992 ∧ e + m ≤ 9007199254743000 ∧ Hid (m * 2 ^ (e - e0).toNat = m0)) (fun _ t8 => (intOf t8).toNat)
    case atStart => exact ⟨e0, m0, rfl, rfl, by omega, hm1, hm2, by omega, Lib.hid (by simp)⟩
    case round =>
      obtain ⟨e, m, rfl, rfl, q1, q2, q3, q4, hinv⟩ := hrel
      by_cases hodd : m % 2 = 1
      · obtain ⟨rfl, rfl⟩ := HO.out m e q1 hodd hinv.out
        have hb : ((m : Int) % 2 == 0) = false := by simp; omega
        clear HO hinv hodd
        go_wp2_with fail
        refine (HDg _).mono ?_
        rintro e w1 ⟨rfl, hb1⟩
        go_wp2_with fail
        refine (HIt _).mono ?_
        rintro e w2 ⟨rfl, hb2⟩
        go_wp2_with fail
        go_ret
        first
          | exact ⟨ret_str H0.out, Below.chain hb1 hb2⟩
          | exact ⟨ret_str H1.out, Below.chain hb1 hb2⟩
      · have hb : ((m : Int) % 2 == 0) = true := by simp; omega
        have hq : m = 2 * (m / 2) := by omega
        have hi : (m / 2) * 2 ^ (e + 1 - e0).toNat = m0 := by
          rw [show (e + 1 - e0).toNat = (e - e0).toNat + 1 from by omega, Nat.pow_succ, Nat.mul_comm (2 ^ _) 2, ← Nat.mul_assoc, Nat.mul_comm (m / 2) 2, ← hq]
          exact hinv.out
        have HI := Lib.hid hi
        have hp : 0 < m / 2 := by omega
        have HP := Lib.hid hp
        clear hp
        clear hi hq hodd HO
        go_wp2
        go_round
        case rel => exact ⟨e + 1, m / 2, rfl, by go_num, by omega, HP.out, by omega, by have := HP.out; omega, HI⟩
        case measure => have := HP.out; simp [intOf]; omega
theorem rtext_sub (a : Nat) (s : Bool) (f : Int) (m0 : Nat) (e0 : Int) 
    (f1 : 0 ≤ f) (f2 : f < 4503599627370496) (hm1 : 0 < m0) (hm2 : m0 < 9007199254740992) (he1 : -1074 ≤ e0) (he2 : e0 ≤ 971) (hm0 : f = (m0 : Int)) (he0 : (-1074 : Int) = e0) (M : Nat) (E : Int) (D I : List UInt8) (hD : D.length ≤ 20) (hI : I.length ≤ 21)
    (hodd : ∀ (m : Nat) (e : Int), e0 ≤ e → m % 2 = 1 → m * 2 ^ (e - e0).toNat = m0 → m = M ∧ e = E)
    (HDg : ∀ w, Calls Tryz.prog 43 #[.int .i64 (M : Int)] w fun e w' => e = .returned (.string ⟨D.toArray⟩) ∧ Below w.heap.size w w')
    (HIt : ∀ w, Calls Tryz.prog 44 #[.int .i64 E] w fun e w' => e = .returned (.string ⟨I.toArray⟩) ∧ Below w.heap.size w w')
    (PT : ∀ w, Calls Tryz.prog 42 #[.float .f64 a] w fun e w' => e = .returned (.tuple #[.bool s, .int .i64 0, .int .i64 f]) ∧ w = w') (w : World) :
    Calls Tryz.prog 25 #[.float .f64 a] w fun e w' => e = .returned (.string ⟨((if s = true then [45] else []) ++ (D ++ (112 :: I))).toArray⟩) ∧ Below w.heap.size w w' := by
  have hsum : ∀ A B C E : List UInt8, (ByteArray.mk A.toArray ++ ByteArray.mk B.toArray ++ ByteArray.mk C.toArray ++ ByteArray.mk E.toArray) = ByteArray.mk (A ++ (B ++ (C ++ E))).toArray := by
    intro A B C E
    rw [ByteArray.mk_append_mk, ByteArray.mk_append_mk, ByteArray.mk_append_mk]; simp
  have hsum0 := hsum [] D [112] I
  have hsum1 := hsum [45] D [112] I
  have H0 := Lib.hid hsum0
  have H1 := Lib.hid hsum1
  clear hsum hsum0 hsum1
  have HO := Lib.hid hodd
  clear hodd
  have g3 : (f == 0) = false := by rw [beq_eq_false_iff_ne]; omega
  have HM := Lib.hid hm0
  have HF := Lib.hid he0
  clear hm0 he0
  cases s
  all_goals
    go_enter Tryz.func25, Tryz.ntmps25
    go_wp2_with (go_at_call 42; refine (PT _).mono ?_; rintro e w' ⟨rfl, rfl⟩)
    rw [HM.out, HF.out]
    go_loop [4, 5] (fun t7 t8 => ∃ (e : Int) (m : Nat), t7 = .int .i64 e ∧ t8 = .int .i64 (m : Int) ∧ e0 ≤ e ∧ 0 < m ∧ m < 9007199254740992 ∧ e + m ≤ 9007199254743000 ∧ Hid (m * 2 ^ (e - e0).toNat = m0)) (fun _ t8 => (intOf t8).toNat)
    case atStart => exact ⟨e0, m0, rfl, rfl, by omega, hm1, hm2, by omega, Lib.hid (by simp)⟩
    case round =>
      obtain ⟨e, m, rfl, rfl, q1, q2, q3, q4, hinv⟩ := hrel
      by_cases hodd : m % 2 = 1
      · obtain ⟨rfl, rfl⟩ := HO.out m e q1 hodd hinv.out
        have hb : ((m : Int) % 2 == 0) = false := by simp; omega
        clear HO hinv hodd
        go_wp2_with fail
        refine (HDg _).mono ?_
        rintro e w1 ⟨rfl, hb1⟩
        go_wp2_with fail
        refine (HIt _).mono ?_
        rintro e w2 ⟨rfl, hb2⟩
        go_wp2_with fail
        go_ret
        first
          | exact ⟨ret_str H0.out, Below.chain hb1 hb2⟩
          | exact ⟨ret_str H1.out, Below.chain hb1 hb2⟩
      · have hb : ((m : Int) % 2 == 0) = true := by simp; omega
        have hq : m = 2 * (m / 2) := by omega
        have hi : (m / 2) * 2 ^ (e + 1 - e0).toNat = m0 := by
          rw [show (e + 1 - e0).toNat = (e - e0).toNat + 1 from by omega, Nat.pow_succ, Nat.mul_comm (2 ^ _) 2, ← Nat.mul_assoc, Nat.mul_comm (m / 2) 2, ← hq]
          exact hinv.out
        have HI := Lib.hid hi
        have hp : 0 < m / 2 := by omega
        have HP := Lib.hid hp
        clear hp
        clear hi hq hodd HO
        go_wp2
        go_round
        case rel => exact ⟨e + 1, m / 2, rfl, by go_num, by omega, HP.out, by omega, by have := HP.out; omega, HI⟩
        case measure => have := HP.out; simp [intOf]; omega
namespace Flt
theorem pow_uniq {a b i j : Nat} (ha : a % 2 = 1) (hb : b % 2 = 1) (h : a * 2 ^ i = b * 2 ^ j) : a = b ∧ i = j := by
  have key : ∀ {a b i j : Nat}, a % 2 = 1 → b % 2 = 1 → a * 2 ^ i = b * 2 ^ j → i ≤ j → a = b ∧ i = j := by
    intro a b i j ha hb h hij
    obtain ⟨k, rfl⟩ : ∃ k, j = i + k := ⟨j - i, by omega⟩
    rw [Nat.pow_add, Nat.mul_comm (2 ^ i), ← Nat.mul_assoc] at h
    have h' := Nat.eq_of_mul_eq_mul_right (Nat.pow_pos (by omega)) h
    cases k with
    | zero => simp at h'; exact ⟨h', by omega⟩
    | succ k => rw [Nat.pow_succ, ← Nat.mul_assoc] at h'; omega
  rcases Nat.le_total i j with hij | hij
  · exact key ha hb h hij
  · have := key hb ha h.symm hij
    exact ⟨this.1.symm, this.2.symm⟩
theorem odd_uniq {r : Nat} (h0 : 0 < r) (hr : r < 9218868437227405312) (m : Nat) (e : Int) (he : (xp r : Int) - 1074 ≤ e) (hm : m % 2 = 1) (h : m * 2 ^ (e - ((xp r : Int) - 1074)).toNat = mant r) : m = oddM r ∧ e = oddE r := by
  obtain ⟨E, hE, hV, ho, _⟩ := odd_facts h0 hr
  unfold V at hV
  rw [← h, Nat.mul_assoc, ← Nat.pow_add] at hV
  obtain ⟨h1, h2⟩ := pow_uniq ho hm hV
  refine ⟨h1.symm, ?_⟩
  rw [hE, h2]
  omega
end Flt
theorem rtext_any (a : Nat) (ha : a < 18446744073709551616) (w : World) :
    Calls Tryz.prog 25 #[.float .f64 a] w fun e w' => e = .returned (.string ⟨(Flt.text a).toArray⟩) ∧ Below w.heap.size w w' := by
  have PT := parts_any a ha
  have hfr : Flt.frac a < 4503599627370496 := by unfold Flt.frac; omega
  have hrf : Flt.rung a = Flt.field a * 4503599627370496 + Flt.frac a := by unfold Flt.rung Flt.field Flt.frac; omega
  have hfl : Flt.field a < 2048 := by unfold Flt.field; omega
  cases hn : Flt.isNan a
  · have hnn : ¬ (Flt.field a = 2047 ∧ Flt.frac a ≠ 0) := fun h => by rw [(Flt.isNan_iff a).2 h] at hn; cases hn
    by_cases hi : Flt.field a = 2047
    · have hf0 : Flt.frac a = 0 := by omega
      rw [hi, hf0] at PT
      have h := rtext_inf a (Flt.neg a) PT w
      refine h.mono ?_
      rintro e w' ⟨he, hb⟩
      refine ⟨he.trans (ret_str ?_), hb⟩
      have hr : Flt.rung a = 9218868437227405312 := by rw [hrf, hi, hf0]
      by_cases hs : 9223372036854775808 ≤ a
      · have h2 : a = 18442240474082181120 := by unfold Flt.rung at hr; omega
        subst h2
        exact congrArg (fun l : List UInt8 => ByteArray.mk l.toArray) (by decide)
      · have h2 : a = 9218868437227405312 := by unfold Flt.rung at hr; omega
        subst h2
        exact congrArg (fun l : List UInt8 => ByteArray.mk l.toArray) (by decide)
    · have hrl : Flt.rung a < 9218868437227405312 := by omega
      have h1 : a ≠ 9218868437227405312 := fun h => by rw [h] at hrl; revert hrl; decide
      have h2 : a ≠ 18442240474082181120 := fun h => by rw [h] at hrl; revert hrl; decide
      have et : Flt.text a = (if Flt.neg a = true then [45] else []) ++ (Lib.decDigits (Flt.oddM (Flt.rung a)) ++ (112 :: Lib.itoa (Flt.oddE (Flt.rung a)))) := by
        unfold Flt.text
        rw [hn, if_neg (by decide), if_neg h1, if_neg h2]
      by_cases h0 : Flt.rung a = 0
      · have hf0 : Flt.frac a = 0 := by omega
        have hF0 : Flt.field a = 0 := by omega
        rw [hF0, hf0] at PT
        have hz : Lib.decDigits (Flt.oddM 0) ++ 112 :: Lib.itoa (Flt.oddE 0) = [48, 112, 48] := by
          rw [show Flt.oddM 0 = 0 from rfl, show Flt.oddE 0 = ((0 : Nat) : Int) from rfl, Lib.itoa_nonneg, Lib.decDigits_one (by omega)]
          rfl
        rw [et, h0]
        exact (rtext_zero a (Flt.neg a) PT w).mono fun e w' ⟨he, hb⟩ => ⟨he.trans (ret_str (by rw [hz])), hb⟩
      · have hx := Flt.oddE_bounds hrl
        have hm := Flt.oddM_lt (Flt.rung a)
        have hmp := Flt.mant_pos (show 0 < Flt.rung a by omega)
        have hml := Flt.mant_lt (Flt.rung a)
        rw [et]
        by_cases hF : Flt.field a = 0
        · have e1 : Flt.xp (Flt.rung a) = 0 := by unfold Flt.xp; omega
          have e2 : Flt.mant (Flt.rung a) = Flt.frac a := by unfold Flt.mant; rw [if_pos (by omega)]; omega
          rw [hF] at PT
          refine rtext_sub a (Flt.neg a) (Flt.frac a) (Flt.frac a) (-1074) (by omega) (by omega) (by omega) (by omega) (by omega) (by omega) rfl rfl (Flt.oddM (Flt.rung a)) (Flt.oddE (Flt.rung a)) _ _ (Flt.dec_len (by omega)) (Flt.itoa_len (by omega) (by omega)) ?_ (fun w => digits_any _ (by omega) w) (fun w => signed_any _ (by omega) (by omega) w) PT w
          intro m e q1 q2 q3
          exact Flt.odd_uniq (by omega) hrl m e (by rw [e1]; omega) q2 (by rw [e1, e2]; simpa using q3)
        · have e1 : (Flt.xp (Flt.rung a) : Int) - 1074 = Flt.field a - 1075 := by unfold Flt.xp; omega
          have e2 : Flt.mant (Flt.rung a) = Flt.frac a + 4503599627370496 := by rw [Flt.mant_norm (by omega)]; omega
          refine rtext_norm a (Flt.neg a) (Flt.field a) (Flt.frac a) (Flt.frac a + 4503599627370496) ((Flt.field a : Int) - 1075) (by omega) (by omega) (by omega) (by omega) (by omega) (by omega) (by omega) (by omega) (by omega) rfl (Flt.oddM (Flt.rung a)) (Flt.oddE (Flt.rung a)) _ _ (Flt.dec_len (by omega)) (Flt.itoa_len (by omega) (by omega)) ?_ (fun w => digits_any _ (by omega) w) (fun w => signed_any _ (by omega) (by omega) w) PT w
          intro m e q1 q2 q3
          exact Flt.odd_uniq (by omega) hrl m e (by rw [e1]; omega) q2 (by rw [e1, e2]; exact q3)
  · obtain ⟨h1, h2⟩ := (Flt.isNan_iff a).1 hn
    rw [h1] at PT
    have e : Flt.text a = [110, 97, 110] := by unfold Flt.text; rw [if_pos hn]
    rw [e]
    exact (rtext_nan a (Flt.neg a) (Flt.frac a) (by omega) (by omega) PT w).mono fun e w' ⟨he, hb⟩ => ⟨he, hb⟩
end Go.Proofs.YtainigcchlgehaaGreatDoor
namespace Go.Proofs.YtainigcchlgehaaGreatDoor
open Go Go.RowKit
/-- the text of m times 2 to the power of x -/
def shape (s : Bool) (m : Nat) (x : Int) : List UInt8 := (if s = true then [45] else []) ++ (Lib.decDigits m ++ (112 :: Lib.itoa x))
def withSign (s : Bool) (r : Nat) : Nat := if s = true then 9223372036854775808 + r else r
theorem no_p (m : Nat) : ∀ c ∈ Lib.decDigits m, c ≠ 112 := fun c hc e => by
  have := dec_digits m c hc
  rw [e] at this
  revert this
  decide
theorem tail_inj {m m' : Nat} {x x' : Int} (hm : m < 9007199254740992) (hm' : m' < 9007199254740992) (h1 : -32768 ≤ x) (h2 : x ≤ 32767) (h1' : -32768 ≤ x') (h2' : x' ≤ 32767)
    (h : Lib.decDigits m ++ (112 :: Lib.itoa x) = Lib.decDigits m' ++ (112 :: Lib.itoa x')) : m = m' ∧ x = x' := by
  have a := cutP_at _ (Lib.itoa x) (no_p m)
  have b := cutP_at _ (Lib.itoa x') (no_p m')
  rw [h, b] at a
  injection a with a1 a2
  have c := pu53_dec hm
  rw [← a1, pu53_dec hm'] at c
  injection c with c
  have d := pi16_itoa h1 h2
  rw [← a2, pi16_itoa h1' h2'] at d
  injection d with d
  exact ⟨c.symm, d.symm⟩
theorem shape_inj {s s' : Bool} {m m' : Nat} {x x' : Int} (hm : m < 9007199254740992) (hm' : m' < 9007199254740992) (h1 : -32768 ≤ x) (h2 : x ≤ 32767) (h1' : -32768 ≤ x') (h2' : x' ≤ 32767)
    (h : shape s m x = shape s' m' x') : s = s' ∧ m = m' ∧ x = x' := by
  obtain ⟨c, r, hcr, hc1, hc2⟩ := digit_first _ (rfl : Lib.decDigits m = _)
  obtain ⟨c', r', hcr', hc1', hc2'⟩ := digit_first _ (rfl : Lib.decDigits m' = _)
  unfold shape at h
  cases s <;> cases s'
  · simp only [Bool.false_eq_true, if_false, List.nil_append] at h
    exact ⟨rfl, tail_inj hm hm' h1 h2 h1' h2' h⟩
  · exfalso
    simp only [Bool.false_eq_true, if_false, if_true, List.nil_append] at h
    rw [hcr] at h
    injection h with h3 h4
    rw [h3] at hc1; revert hc1; decide
  · exfalso
    simp only [Bool.false_eq_true, if_false, if_true, List.nil_append] at h
    rw [hcr'] at h
    injection h with h3 h4
    rw [← h3] at hc1'; revert hc1'; decide
  · simp only [if_true] at h
    injection h with h3 h4
    exact ⟨rfl, tail_inj hm hm' h1 h2 h1' h2' h4⟩
theorem text_shape (s : Bool) {r : Nat} (hr : r < 9218868437227405312) : Flt.text (withSign s r) = shape s (Flt.oddM r) (Flt.oddE r) ∧ Flt.neg (withSign s r) = s ∧ Flt.canon (withSign s r) = withSign s r ∧ withSign s r < 18446744073709551616 ∧ Flt.rung (withSign s r) = r := by
  have hg : Flt.rung (withSign s r) = r := by unfold withSign Flt.rung; cases s <;> simp <;> omega
  have hn : Flt.isNan (withSign s r) = false := by unfold Flt.isNan; rw [hg]; simp; omega
  have hs : Flt.neg (withSign s r) = s := by unfold withSign Flt.neg; cases s <;> simp; omega
  refine ⟨?_, hs, Flt.canon_num hn, by unfold withSign; cases s <;> simp <;> omega, hg⟩
  unfold Flt.text
  rw [hn, if_neg (by decide), if_neg (fun h => by rw [h] at hg; revert hg; intro hg; have : r = 9218868437227405312 := by rw [← hg]; decide
                                                  omega), if_neg (fun h => by rw [h] at hg; have : r = 9218868437227405312 := by rw [← hg]; decide
                                                                              omega), hs, hg]
  rfl
def Room (m : Nat) (x : Int) : Prop := -1074 ≤ x ∧ x + (m.log2 : Int) ≤ 1023
instance (m : Nat) (x : Int) : Decidable (Room m x) := by unfold Room; infer_instance
theorem odd_of {m E : Nat} (ho : m % 2 = 1) (hm : m < 9007199254740992) (hE : E + m.log2 ≤ 2097) : Flt.oddM (Flt.rungOf m E) = m ∧ Flt.oddE (Flt.rungOf m E) = (E : Int) - 1074 := by
  have hR := Flt.rungOf_lt (by omega) hm hE
  have hP := Flt.rungOf_pos E (by omega) hm
  have hV := Flt.V_rungOf E (by omega) hm
  obtain ⟨E', e1, e2, e3, _⟩ := Flt.odd_facts hP hR
  rw [hV] at e2
  obtain ⟨h1, h2⟩ := Flt.pow_uniq e3 ho e2
  exact ⟨h1, by rw [e1, h2]⟩
theorem room_some (s : Bool) {m : Nat} {x : Int} (ho : m % 2 = 1) (hm : m < 9007199254740992) (hx : Room m x) :
    Flt.text (withSign s (Flt.rungOf m (x + 1074).toNat)) = shape s m x ∧ parseSem (shape s m x) = some (withSign s (Flt.rungOf m (x + 1074).toNat)) := by
  obtain ⟨h1, h2⟩ := hx
  have hE : (x + 1074).toNat + m.log2 ≤ 2097 := by omega
  have hR := Flt.rungOf_lt (by omega) hm hE
  obtain ⟨o1, o2⟩ := odd_of ho hm hE
  obtain ⟨t1, t2, t3, t4, _⟩ := text_shape s hR
  rw [o1, o2, show (((x + 1074).toNat : Nat) : Int) - 1074 = x from by omega] at t1
  refine ⟨t1, ?_⟩
  rw [← t1, parseSem_text t4, t3]
theorem parse_inv {l : List UInt8} {g : Nat} (h : parseSem l = some g) : l = [110, 97, 110] ∨ l = [105, 110, 102] ∨ l = [45, 105, 110, 102] ∨ l = [48, 112, 48] ∨ l = [45, 48, 112, 48] ∨
    ∃ (s : Bool) (m : Nat) (x : Int), m % 2 = 1 ∧ m < 9007199254740992 ∧ Room m x ∧ l = shape s m x := by
  obtain ⟨hg, ht, _⟩ := parseSem_some h
  have hz : Lib.decDigits (Flt.oddM 0) ++ 112 :: Lib.itoa (Flt.oddE 0) = [48, 112, 48] := by
    rw [show Flt.oddM 0 = 0 from rfl, show Flt.oddE 0 = ((0 : Nat) : Int) from rfl, Lib.itoa_nonneg, Lib.decDigits_one (by omega)]
    rfl
  subst ht
  unfold Flt.text
  split
  · exact Or.inl rfl
  · rename_i hn
    split
    · exact Or.inr (Or.inl rfl)
    · split
      · exact Or.inr (Or.inr (Or.inl rfl))
      · rename_i h1 h2
        have hr : Flt.rung g < 9218868437227405312 := by
          unfold Flt.isNan at hn
          simp only [decide_eq_true_eq, Nat.not_lt] at hn
          unfold Flt.rung at hn ⊢
          omega
        by_cases h0 : Flt.rung g = 0
        · rw [h0, hz]
          cases Flt.neg g
          · exact Or.inr (Or.inr (Or.inr (Or.inl rfl)))
          · exact Or.inr (Or.inr (Or.inr (Or.inr (Or.inl rfl))))
        · obtain ⟨E, e1, e2, e3, e4⟩ := Flt.odd_facts (r := Flt.rung g) (by omega) hr
          exact Or.inr (Or.inr (Or.inr (Or.inr (Or.inr ⟨Flt.neg g, _, _, e3, Flt.oddM_lt _, ⟨by omega, by omega⟩, rfl⟩))))
theorem shape_ne (s : Bool) (m : Nat) (x : Int) (hm : 0 < m) (hm' : m < 9007199254740992) (h1 : -32768 ≤ x) (h2 : x ≤ 32767) : shape s m x ≠ [110, 97, 110] ∧ shape s m x ≠ [105, 110, 102] ∧ shape s m x ≠ [45, 105, 110, 102] ∧ shape s m x ≠ [48, 112, 48] ∧ shape s m x ≠ [45, 48, 112, 48] := by
  obtain ⟨c, r, hcr, hc1, hc2⟩ := digit_first _ (rfl : Lib.decDigits m = _)
  have z0 : ∀ s, shape s 0 0 = (if s = true then [45] else []) ++ [48, 112, 48] := by
    intro s
    unfold shape
    rw [show (0 : Int) = ((0 : Nat) : Int) from rfl, Lib.itoa_nonneg, Lib.decDigits_one (by omega)]
    rfl
  have nz : ∀ t, shape s m x ≠ shape t 0 0 := fun t h => by
    have := (shape_inj hm' (by decide) h1 h2 (by decide) (by decide) h).2.1
    omega
  have k : ∀ d t, (57 < d.toNat ∨ d.toNat < 45) → shape s m x ≠ d :: t := by
    intro d t hd h
    unfold shape at h
    cases s
    · simp only [Bool.false_eq_true, if_false, List.nil_append] at h
      rw [hcr] at h
      injection h with h3 h4
      rw [h3] at hc1 hc2
      omega
    · simp only [if_true] at h
      injection h with h3 h4
      rw [← h3] at hd; revert hd; decide
  refine ⟨k _ _ (by decide), k _ _ (by decide), ?_, ?_, ?_⟩
  · intro h
    unfold shape at h
    rw [hcr] at h
    cases s
    · simp only [Bool.false_eq_true, if_false, List.nil_append] at h
      injection h with h3 h4
      rw [h3] at hc1; revert hc1; decide
    · simp only [if_true] at h
      injection h with h3 h4
      injection h4 with h5 h6
      rw [h5] at hc2; revert hc2; decide
  · have := nz false; rw [z0] at this; exact this
  · have := nz true; rw [z0] at this; exact this
theorem room_none (s : Bool) {m : Nat} {x : Int} (ho : m % 2 = 1) (hm : m < 9007199254740992) (h1 : -32768 ≤ x) (h2 : x ≤ 32767) (hx : ¬ Room m x) : parseSem (shape s m x) = none := by
  cases h : parseSem (shape s m x) with
  | none => rfl
  | some g =>
    exfalso
    obtain ⟨n1, n2, n3, n4, n5⟩ := shape_ne s m x (by omega) hm h1 h2
    rcases parse_inv h with h | h | h | h | h | ⟨s', m', x', o, hm', hr, h⟩
    · exact n1 h
    · exact n2 h
    · exact n3 h
    · exact n4 h
    · exact n5 h
    · have hb : -32768 ≤ x' ∧ x' ≤ 32767 := by unfold Room at hr; omega
      obtain ⟨_, e1, e2⟩ := shape_inj hm hm' h1 h2 hb.1 hb.2 h
      rw [e1, e2] at hx
      exact hx hr
end Go.Proofs.YtainigcchlgehaaGreatDoor


