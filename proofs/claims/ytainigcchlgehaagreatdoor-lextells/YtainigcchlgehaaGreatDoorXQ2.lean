import Derived.Test.YtainigcchlgehaaGreatDoorXQ
namespace Go.Proofs.YtainigcchlgehaaGreatDoor
open Go Go.ChangeShapes Go.WideShapes Go.ChangeAt Go.RowKit
open Go.Joins
set_option linter.unusedVariables false
/-! ### the reference's signs -/
def inS (l : Bt) (j : Nat) : Bool := decide (j ≤ l.length) && inB rsigB ⟨(l.take j).toArray⟩
def sgnV (n : Nat) (l : Bt) (p : Nat) : Value := if n = 0 then .agg #[.int .i64 0, .string ⟨#[]⟩, .int .i64 0] else .agg #[.int .i64 5, .string ⟨(l.take n).toArray⟩, .int .i64 (p : Nat)]
theorem findS_none {l : Bt} : ∀ {S : List Bt}, (∀ s ∈ S, ¬ s <+: l) → findS l S = 0
  | [], _ => rfl
  | s :: S, h => by
    rw [findS_cons, if_neg (by rw [hp_pref]; exact h s (by simp)), findS_none (fun z hz => h z (by simp [hz]))]
theorem findS_app (l : Bt) (B : List Bt) : ∀ A : List Bt, (∀ s ∈ A, s ≠ []) → findS l (A ++ B) = if findS l A = 0 then findS l B else findS l A
  | [], _ => rfl
  | s :: A, h => by
    rw [List.cons_append, findS_cons, findS_cons]
    by_cases hp : Lib.hasPrefix l s = true
    · rw [if_pos hp, if_pos hp, if_neg]
      intro e; exact h s (by simp) (List.eq_nil_of_length_eq_zero e)
    · rw [if_neg hp, if_neg hp, findS_app l B A (fun z hz => h z (by simp [hz]))]
theorem findS_group (l : Bt) (n : Nat) (hn : n ≠ 0) : ∀ G : List Bt, (∀ s ∈ G, s.length = n) → findS l G = if n ≤ l.length ∧ l.take n ∈ G then n else 0
  | [], _ => by rw [if_neg (by simp)]; rfl
  | s :: G, h => by
    have hs := h s (by simp)
    rw [findS_cons]
    by_cases hp : Lib.hasPrefix l s = true
    · rw [if_pos hp]
      rw [hp_pref] at hp
      have h1 := List.prefix_iff_eq_take.1 hp
      rw [hs] at h1
      have h2 := hp.length_le
      rw [if_pos ⟨by omega, by rw [← h1]; simp⟩, hs]
    · rw [if_neg hp, findS_group l n hn G (fun z hz => h z (by simp [hz]))]
      rw [hp_pref] at hp
      by_cases hm : n ≤ l.length ∧ l.take n ∈ G
      · rw [if_pos hm, if_pos ⟨hm.1, by simp [hm.2]⟩]
      · rw [if_neg hm, if_neg]
        rintro ⟨h1, h2⟩
        rcases List.mem_cons.1 h2 with h2 | h2
        · exact hp (by rw [← h2]; exact List.take_prefix _ _)
        · exact hm ⟨h1, h2⟩
def rsigL : List Bt := rsigB.map fun b => b.data.toList
theorem inS_iff (l : Bt) (j : Nat) : inS l j = true ↔ j ≤ l.length ∧ l.take j ∈ rsigL := by
  unfold inS inB rsigL
  rw [Bool.and_eq_true, decide_eq_true_eq, List.any_eq_true]
  refine and_congr Iff.rfl ?_
  rw [List.mem_map]
  refine exists_congr fun b => and_congr Iff.rfl ?_
  rw [beq_iff_eq, Lib.toList_data, Lib.toList_data]
theorem inS_group (l : Bt) (n : Nat) (G : List Bt) (h1 : ∀ s ∈ G, s.length = n ∧ s ∈ rsigL) (h2 : ∀ s ∈ rsigL, s.length = n → s ∈ G) (hn : n ≠ 0) : findS l G = if inS l n = true then n else 0 := by
  rw [findS_group l n hn G (fun s hs => (h1 s hs).1)]
  by_cases hm : n ≤ l.length ∧ l.take n ∈ G
  · rw [if_pos hm, if_pos ((inS_iff l n).2 ⟨hm.1, (h1 _ hm.2).2⟩)]
  · rw [if_neg hm, if_neg]
    rw [inS_iff]
    rintro ⟨a, b⟩
    exact hm ⟨a, h2 _ b (by rw [List.length_take]; omega)⟩
theorem signN_eq (l : Bt) : signN l = if inS l 3 = true then 3 else if inS l 2 = true then 2 else if inS l 1 = true then 1 else 0 := by
  have g3 := inS_group l 3 signs3 (by decide) (by decide) (by decide)
  have g2 := inS_group l 2 signs2 (by decide) (by decide) (by decide)
  have g1 := inS_group l 1 signs1 (by decide) (by decide) (by decide)
  unfold signN signsL
  rw [findS_app _ _ _ (by decide), findS_app _ _ _ (by decide), g3, g2, g1]
  by_cases a : inS l 3 = true
  · simp [a]
  · by_cases b : inS l 2 = true
    · simp [a, b]
    · simp [a, b]

set_option maxHeartbeats 8000000 in
set_option maxRecDepth 100000 in
theorem one_slo (s : ByteArray) (p : Nat) (hs : s.size ≤ 65536) (hp : p < s.size) (hc : ((s[p].toNat : Int) == 39) = false) (hc1 : ¬ (48 : Int) ≤ (s[p].toNat : Int)) (ho : okc s[p].toNat = false) (w : World) :
    Calls Tryz.prog 18 #[.string s, .int .i64 p] w fun e w' => e = .returned (sgnV (signN (s.data.toList.drop p)) (s.data.toList.drop p) p) ∧ Below w.heap.size w w' := by
  have hsf := run_store_float
  have p0 : (0 : Int) ≤ (p : Int) := by omega
  have p1 : (p : Int) < (s.size : Int) := by omega
  have p2 : (p : Int) ≤ (s.size : Int) := by omega
  have s1 : (s.size : Int) ≤ 65536 := by omega
  have V0 := Lib.hid (Vr.new w 49 #[.int .i64 0, .string ⟨#[]⟩, .int .i64 0])
  have B0 := Lib.hid (below_a1 w Z3)
  have HP := Lib.hid (rpart_any s[p].toNat)
  rw [ho] at HP
  have HSN := Lib.hid (signN_eq (s.data.toList.drop p))
  have HLn := Lib.hid (show (s.data.toList.drop p).length = s.size - p by rw [List.length_drop, lx_len])
  clear ho
  generalize signN (s.data.toList.drop p) = SN at *
  go_enter Tryz.func18, Tryz.ntmps18
  go_wp2_with fail
  go_loopg [12] 1 (fun g s12 wr => g = 1 ∧ s12 = .int .i64 p ∧ wr = w.alloc Z3)
  case atStart => exact ⟨rfl, rfl, rfl⟩
  case round =>
    obtain ⟨rfl, rfl, rfl⟩ := hrel
    go_wp2_with fail
    refine (HP.out _).mono ?_; rintro e w2 ⟨rfl, rfl⟩
    go_wp2_with fail
    go_loopg [16] 3 (fun g s16 wr => g ≤ 3 ∧ s16 = .int .i64 (g : Nat) ∧ (∀ j, g < j → j ≤ 3 → inS (s.data.toList.drop p) j = false) ∧ Below (w.alloc Z3).heap.size (w.alloc Z3) wr)
    case atStart => exact ⟨Nat.le_refl _, rfl, fun j h1 h2 => by omega, Below.refl _ _⟩
    case round =>
      obtain ⟨hg3, rfl, hno, hb⟩ := hrel
      have HNO := Lib.hid hno
      have HB := Lib.hid hb
      have V1 := V0.out.keep hb
      have c1 := B0.out.trans (hb.mono B0.out.size)
      have HC1 := Lib.hid c1
      clear hno hb c1
      have g3 : (gk : Int) ≤ 3 := by omega
      by_cases hg0 : gk = 0
      · subst hg0
        have hS0 : SN = 0 := by rw [HSN.out, HNO.out 3 (by omega) (by omega), HNO.out 2 (by omega) (by omega), HNO.out 1 (by omega) (by omega)]; rfl
        have v0 := V1.cell 0
        have v1 := V1.cell 1
        have v2 := V1.cell 2
        have f0 := V1.thaw 0
        have f1 := V1.thaw 1
        have f2 := V1.thaw 2
        have hlt := V1.lt
        have HS0 := Lib.hid (show sgnV SN (s.data.toList.drop p) p = .agg #[.int .i64 0, .string ⟨#[]⟩, .int .i64 0] from if_pos hS0)
        clear hS0
        go_wp2_with fail
        refine ret_tk rfl rfl rfl (put3_vr V1 _ _ _) ?_
        exact ⟨by rw [HS0.out], put3_below HC1.out (Nat.le_refl _) _ _ _⟩
      have gpos : (0 : Int) < (gk : Int) := by omega
      by_cases hfit : p + gk ≤ s.size
      · obtain ⟨N, hN⟩ : ∃ N, N = p + gk := ⟨_, rfl⟩
        have hNi : (p : Int) + (gk : Int) = (N : Int) := by omega
        have hNs : (N : Int) ≤ (s.size : Int) := by omega
        have hN0 : (0 : Int) ≤ (N : Int) := by omega
        have hpN : (p : Int) ≤ (N : Int) := by omega
        have hw1 : IntKind.i64.wrap (N : Int) = (N : Int) := by rw [IntKind.wrap_i64]; omega
        have d1 : decide ((N : Int) ≤ (s.size : Int)) = true := by simp; omega
        have d1' : decide (N ≤ s.size) = true := by simp; omega
        obtain ⟨V, hV⟩ : ∃ V, s.extract p N = V := ⟨_, rfl⟩
        have HVL := Lib.hid (show V = ⟨((s.data.toList.drop p).take gk).toArray⟩ from ba_of (by rw [← hV, lx_ext, hN, Nat.add_sub_cancel_left]))
        have HIN := Lib.hid (show inS (s.data.toList.drop p) gk = inB rsigB V by
          unfold inS
          rw [decide_eq_true (show gk ≤ (s.data.toList.drop p).length by rw [HLn.out]; omega), Bool.true_and, HVL.out])
        have HSG := Lib.hid (fun u => rsigs_any u)
        cases hk : inB rsigB V with
        | true =>
          have HK := Lib.hid hk
          have hSk : SN = gk := by
            have h1 := HIN.out
            rw [hk] at h1
            have hc3 : gk = 1 ∨ gk = 2 ∨ gk = 3 := by omega
            rcases hc3 with e | e | e
            · rw [HSN.out, HNO.out 3 (by omega) (by omega), HNO.out 2 (by omega) (by omega)]
              rw [e] at h1; rw [h1, e]; rfl
            · rw [HSN.out, HNO.out 3 (by omega) (by omega)]
              rw [e] at h1; rw [h1, e]; rfl
            · rw [HSN.out]
              rw [e] at h1; rw [h1, e]; rfl
          have HSV := Lib.hid (show sgnV SN (s.data.toList.drop p) p = .agg #[.int .i64 5, .string V, .int .i64 (p : Nat)] by unfold sgnV; rw [if_neg (show ¬ SN = 0 by omega), hSk, HVL.out])
          clear hk hSk hN
          go_wp2_with fail
          go_region_held3 (fun W => Below wr.heap.size wr W)
            (first | exact (Below.refl _ _).drew | exact hch)
            (first
              | ((with_reducible refine (HSG.out _).mono ?_); rintro e w3 ⟨⟨vk, rfl, hS⟩, hb3⟩; have hch := Below.chain (Below.refl wr.heap.size wr).drew hb3)
              | ((with_reducible refine (rin_any rsigB V vk _ hS).mono ?_); rw [HK.out]; rintro e w4 ⟨rfl, rfl⟩))
          all_goals
            have c3 := HC1.out.trans (hch.mono HC1.out.size)
            have V3 := V1.keep hch
            have v0 := V3.cell 0
            have v1 := V3.cell 1
            have v2 := V3.cell 2
            have f0 := V3.thaw 0
            have f1 := V3.thaw 1
            have f2 := V3.thaw 2
            have hlt := V3.lt
            go_wp2_with fail
            refine ret_tk rfl rfl rfl (put3_vr V3 _ _ _) ?_
            exact ⟨by rw [HSV.out], put3_below c3 (Nat.le_refl _) _ _ _⟩
        | false =>
          have HK := Lib.hid hk
          have HNO2 := Lib.hid (show ∀ j, gk - 1 < j → j ≤ 3 → inS (s.data.toList.drop p) j = false from fun j h1 h2 => by
            by_cases e : j = gk
            · rw [e, HIN.out]; exact hk
            · exact HNO.out j (by omega) h2)
          clear hk hN
          go_wp2_with fail
          go_region_held3 (fun W => Below wr.heap.size wr W)
            (first | exact (Below.refl _ _).drew | exact hch)
            (first
              | ((with_reducible refine (HSG.out _).mono ?_); rintro e w3 ⟨⟨vk, rfl, hS⟩, hb3⟩; have hch := Below.chain (Below.refl wr.heap.size wr).drew hb3)
              | ((with_reducible refine (rin_any rsigB V vk _ hS).mono ?_); rw [HK.out]; rintro e w4 ⟨rfl, rfl⟩))
          all_goals
            have HB3 := Lib.hid (HB.out.trans (hch.mono HB.out.size))
            go_wp2_with fail
            go_roundg (gk - 1)
            case rel => exact ⟨by omega, by go_num, HNO2.out, HB3.out⟩
            case measure => omega
      · obtain ⟨N, hN⟩ : ∃ N, N = p + gk := ⟨_, rfl⟩
        have hNi : (p : Int) + (gk : Int) = (N : Int) := by omega
        have hw1 : IntKind.i64.wrap (N : Int) = (N : Int) := by rw [IntKind.wrap_i64]; omega
        have d1 : decide ((N : Int) ≤ (s.size : Int)) = false := by simp; omega
        have d1' : decide (N ≤ s.size) = false := by simp; omega
        have HNO2 := Lib.hid (show ∀ j, gk - 1 < j → j ≤ 3 → inS (s.data.toList.drop p) j = false from fun j h1 h2 => by
          by_cases e : j = gk
          · unfold inS
            rw [decide_eq_false (show ¬ j ≤ (s.data.toList.drop p).length by rw [HLn.out]; omega), Bool.false_and]
          · exact HNO.out j (by omega) h2)
        clear hN
        go_wp2_with fail
        go_quiet (fail)
        all_goals
          go_wp2_with fail
          go_roundg (gk - 1)
          case rel => exact ⟨by omega, by go_num, HNO2.out, below_drewN HB.out _⟩
          case measure => omega

set_option maxHeartbeats 8000000 in
set_option maxRecDepth 100000 in
theorem one_shi (s : ByteArray) (p : Nat) (hs : s.size ≤ 65536) (hp : p < s.size) (hc : ((s[p].toNat : Int) == 39) = false) (hc1 : (48 : Int) ≤ (s[p].toNat : Int)) (hc2 : ¬ (s[p].toNat : Int) ≤ 57) (ho : okc s[p].toNat = false) (w : World) :
    Calls Tryz.prog 18 #[.string s, .int .i64 p] w fun e w' => e = .returned (sgnV (signN (s.data.toList.drop p)) (s.data.toList.drop p) p) ∧ Below w.heap.size w w' := by
  have hsf := run_store_float
  have p0 : (0 : Int) ≤ (p : Int) := by omega
  have p1 : (p : Int) < (s.size : Int) := by omega
  have p2 : (p : Int) ≤ (s.size : Int) := by omega
  have s1 : (s.size : Int) ≤ 65536 := by omega
  have V0 := Lib.hid (Vr.new w 49 #[.int .i64 0, .string ⟨#[]⟩, .int .i64 0])
  have B0 := Lib.hid (below_a1 w Z3)
  have HP := Lib.hid (rpart_any s[p].toNat)
  rw [ho] at HP
  have HSN := Lib.hid (signN_eq (s.data.toList.drop p))
  have HLn := Lib.hid (show (s.data.toList.drop p).length = s.size - p by rw [List.length_drop, lx_len])
  clear ho
  generalize signN (s.data.toList.drop p) = SN at *
  go_enter Tryz.func18, Tryz.ntmps18
  go_wp2_with fail
  go_loopg [12] 1 (fun g s12 wr => g = 1 ∧ s12 = .int .i64 p ∧ wr = w.alloc Z3)
  case atStart => exact ⟨rfl, rfl, rfl⟩
  case round =>
    obtain ⟨rfl, rfl, rfl⟩ := hrel
    go_wp2_with fail
    refine (HP.out _).mono ?_; rintro e w2 ⟨rfl, rfl⟩
    go_wp2_with fail
    go_loopg [16] 3 (fun g s16 wr => g ≤ 3 ∧ s16 = .int .i64 (g : Nat) ∧ (∀ j, g < j → j ≤ 3 → inS (s.data.toList.drop p) j = false) ∧ Below (w.alloc Z3).heap.size (w.alloc Z3) wr)
    case atStart => exact ⟨Nat.le_refl _, rfl, fun j h1 h2 => by omega, Below.refl _ _⟩
    case round =>
      obtain ⟨hg3, rfl, hno, hb⟩ := hrel
      have HNO := Lib.hid hno
      have HB := Lib.hid hb
      have V1 := V0.out.keep hb
      have c1 := B0.out.trans (hb.mono B0.out.size)
      have HC1 := Lib.hid c1
      clear hno hb c1
      have g3 : (gk : Int) ≤ 3 := by omega
      by_cases hg0 : gk = 0
      · subst hg0
        have hS0 : SN = 0 := by rw [HSN.out, HNO.out 3 (by omega) (by omega), HNO.out 2 (by omega) (by omega), HNO.out 1 (by omega) (by omega)]; rfl
        have v0 := V1.cell 0
        have v1 := V1.cell 1
        have v2 := V1.cell 2
        have f0 := V1.thaw 0
        have f1 := V1.thaw 1
        have f2 := V1.thaw 2
        have hlt := V1.lt
        have HS0 := Lib.hid (show sgnV SN (s.data.toList.drop p) p = .agg #[.int .i64 0, .string ⟨#[]⟩, .int .i64 0] from if_pos hS0)
        clear hS0
        go_wp2_with fail
        refine ret_tk rfl rfl rfl (put3_vr V1 _ _ _) ?_
        exact ⟨by rw [HS0.out], put3_below HC1.out (Nat.le_refl _) _ _ _⟩
      have gpos : (0 : Int) < (gk : Int) := by omega
      by_cases hfit : p + gk ≤ s.size
      · obtain ⟨N, hN⟩ : ∃ N, N = p + gk := ⟨_, rfl⟩
        have hNi : (p : Int) + (gk : Int) = (N : Int) := by omega
        have hNs : (N : Int) ≤ (s.size : Int) := by omega
        have hN0 : (0 : Int) ≤ (N : Int) := by omega
        have hpN : (p : Int) ≤ (N : Int) := by omega
        have hw1 : IntKind.i64.wrap (N : Int) = (N : Int) := by rw [IntKind.wrap_i64]; omega
        have d1 : decide ((N : Int) ≤ (s.size : Int)) = true := by simp; omega
        have d1' : decide (N ≤ s.size) = true := by simp; omega
        obtain ⟨V, hV⟩ : ∃ V, s.extract p N = V := ⟨_, rfl⟩
        have HVL := Lib.hid (show V = ⟨((s.data.toList.drop p).take gk).toArray⟩ from ba_of (by rw [← hV, lx_ext, hN, Nat.add_sub_cancel_left]))
        have HIN := Lib.hid (show inS (s.data.toList.drop p) gk = inB rsigB V by
          unfold inS
          rw [decide_eq_true (show gk ≤ (s.data.toList.drop p).length by rw [HLn.out]; omega), Bool.true_and, HVL.out])
        have HSG := Lib.hid (fun u => rsigs_any u)
        cases hk : inB rsigB V with
        | true =>
          have HK := Lib.hid hk
          have hSk : SN = gk := by
            have h1 := HIN.out
            rw [hk] at h1
            have hc3 : gk = 1 ∨ gk = 2 ∨ gk = 3 := by omega
            rcases hc3 with e | e | e
            · rw [HSN.out, HNO.out 3 (by omega) (by omega), HNO.out 2 (by omega) (by omega)]
              rw [e] at h1; rw [h1, e]; rfl
            · rw [HSN.out, HNO.out 3 (by omega) (by omega)]
              rw [e] at h1; rw [h1, e]; rfl
            · rw [HSN.out]
              rw [e] at h1; rw [h1, e]; rfl
          have HSV := Lib.hid (show sgnV SN (s.data.toList.drop p) p = .agg #[.int .i64 5, .string V, .int .i64 (p : Nat)] by unfold sgnV; rw [if_neg (show ¬ SN = 0 by omega), hSk, HVL.out])
          clear hk hSk hN
          go_wp2_with fail
          go_region_held3 (fun W => Below wr.heap.size wr W)
            (first | exact (Below.refl _ _).drew | exact hch)
            (first
              | ((with_reducible refine (HSG.out _).mono ?_); rintro e w3 ⟨⟨vk, rfl, hS⟩, hb3⟩; have hch := Below.chain (Below.refl wr.heap.size wr).drew hb3)
              | ((with_reducible refine (rin_any rsigB V vk _ hS).mono ?_); rw [HK.out]; rintro e w4 ⟨rfl, rfl⟩))
          all_goals
            have c3 := HC1.out.trans (hch.mono HC1.out.size)
            have V3 := V1.keep hch
            have v0 := V3.cell 0
            have v1 := V3.cell 1
            have v2 := V3.cell 2
            have f0 := V3.thaw 0
            have f1 := V3.thaw 1
            have f2 := V3.thaw 2
            have hlt := V3.lt
            go_wp2_with fail
            refine ret_tk rfl rfl rfl (put3_vr V3 _ _ _) ?_
            exact ⟨by rw [HSV.out], put3_below c3 (Nat.le_refl _) _ _ _⟩
        | false =>
          have HK := Lib.hid hk
          have HNO2 := Lib.hid (show ∀ j, gk - 1 < j → j ≤ 3 → inS (s.data.toList.drop p) j = false from fun j h1 h2 => by
            by_cases e : j = gk
            · rw [e, HIN.out]; exact hk
            · exact HNO.out j (by omega) h2)
          clear hk hN
          go_wp2_with fail
          go_region_held3 (fun W => Below wr.heap.size wr W)
            (first | exact (Below.refl _ _).drew | exact hch)
            (first
              | ((with_reducible refine (HSG.out _).mono ?_); rintro e w3 ⟨⟨vk, rfl, hS⟩, hb3⟩; have hch := Below.chain (Below.refl wr.heap.size wr).drew hb3)
              | ((with_reducible refine (rin_any rsigB V vk _ hS).mono ?_); rw [HK.out]; rintro e w4 ⟨rfl, rfl⟩))
          all_goals
            have HB3 := Lib.hid (HB.out.trans (hch.mono HB.out.size))
            go_wp2_with fail
            go_roundg (gk - 1)
            case rel => exact ⟨by omega, by go_num, HNO2.out, HB3.out⟩
            case measure => omega
      · obtain ⟨N, hN⟩ : ∃ N, N = p + gk := ⟨_, rfl⟩
        have hNi : (p : Int) + (gk : Int) = (N : Int) := by omega
        have hw1 : IntKind.i64.wrap (N : Int) = (N : Int) := by rw [IntKind.wrap_i64]; omega
        have d1 : decide ((N : Int) ≤ (s.size : Int)) = false := by simp; omega
        have d1' : decide (N ≤ s.size) = false := by simp; omega
        have HNO2 := Lib.hid (show ∀ j, gk - 1 < j → j ≤ 3 → inS (s.data.toList.drop p) j = false from fun j h1 h2 => by
          by_cases e : j = gk
          · unfold inS
            rw [decide_eq_false (show ¬ j ≤ (s.data.toList.drop p).length by rw [HLn.out]; omega), Bool.false_and]
          · exact HNO.out j (by omega) h2)
        clear hN
        go_wp2_with fail
        go_quiet (fail)
        all_goals
          go_wp2_with fail
          go_roundg (gk - 1)
          case rel => exact ⟨by omega, by go_num, HNO2.out, below_drewN HB.out _⟩
          case measure => omega

end Go.Proofs.YtainigcchlgehaaGreatDoor
