/- The walk of the law LogicNeutral. -/
import Derived.Test.YtblehbcehfmnkaaLN
namespace Go.Proofs.Ytblehbcehfmnkaa.LogicNeutral
open Go Go.RowKit
set_option linter.unusedVariables false
theorem keep2 {w w' : World} {Bt : Nat} {v : Value} (h : w.cell? ⟨Bt, 0, none⟩ = some v) (hb : Below w.heap.size w w') : w'.cell? ⟨Bt, 0, none⟩ = some v ∧ Below w.heap.size w w' := ⟨(hb.cell (block_lt_of_cell h)).trans h, hb⟩
set_option maxHeartbeats 16000000 in
set_option maxRecDepth 100000 in
theorem walk (v : Value) (l : List Int) (a : Int) (w : World) (h : Ts w.heap.size w v l) (h1 : -9223372036854775808 ≤ a) (h2 : a ≤ 9223372036854775807) :
    Calls Try.prog 7 #[v, .int .i64 a] w fun e w' => e = .returned (.bool true) ∧ Below w.heap.size w w' := by
  obtain ⟨A, hA, hA2⟩ := and255 a
  have HH := Lib.hid h
  have hmf : ∀ (fn : Fn) (first cap : Array Value) (w : World), (Instr.makeFunc fn first cap).run Try.prog w = .ok (.func fn first cap) w := fun _ _ _ _ => rfl
  clear h h1 h2
  go_enter Try.func7, Try.ntmps7
  go_wp2_with fail
  refine (shown_any _).mono ?_; rintro e w1 ⟨rfl, hb1⟩
  have TR := Lib.hid (truths_any l v w1 (HH.out.later hb1))
  go_wp2_with fail
  (with_reducible refine TR.out.mono ?_); rintro e w2 ⟨v1, v2, rfl, hO, -, hb2⟩
  have c2 := Below.chain hb1 hb2
  have hT := hO.ts
  have hl : (l.take 100).length ≤ 100 := by simp; omega
  clear hO TR hb1 hb2
  generalize l.take 100 = T at *
  obtain ⟨ao, cap, rfl⟩ := hT.shape
  obtain ⟨k, hk⟩ : ∃ k, k = A % (T.length + 1) := ⟨_, rfl⟩
  have hkL : k ≤ T.length := by have := Nat.mod_lt A (show 0 < T.length + 1 by omega); omega
  have hkI : Int.tmod (A : Int) ((T.length : Int) + 1) = (k : Int) := by rw [hk]; rfl
  have hw1 : wrap64 ((T.length : Int) + 1) = (T.length : Int) + 1 := by simp only [wrap64]; omega
  have hne : ¬ ((T.length : Int) + 1 = 0) := by omega
  have HT := Lib.hid hT
  have HL := Lib.hid hl
  have HK := Lib.hid hkL
  clear hT hk
  generalize hTL : T.length = L at *
  have HTL := Lib.hid hTL
  clear hTL
  go_wp2_with fail
  generalize hW : (w2.alloc (.cells #[.slice ao L cap] 33)).alloc (.cells #[.int .i64 k] 3) = w5
  have p1 : w5.cell? ⟨w2.heap.size, 0, none⟩ = some (.slice ao L cap) := by
    rw [← hW]; exact ((below_a1 (w2.alloc (.cells #[.slice ao L cap] 33)) _).cell (p := ⟨w2.heap.size, 0, none⟩) (by simp)).trans (by simp)
  have p2 : w5.cell? ⟨w2.heap.size + 1, 0, none⟩ = some (.int .i64 k) := by
    rw [← hW]
    have e : (w2.alloc (.cells #[.slice ao L cap] 33)).heap.size = w2.heap.size + 1 := by simp
    rw [← e]; simp
  have b5 : Below w2.heap.size w2 w5 := by rw [← hW]; exact (below_a1 _ _).alloc (by simp) _
  have c5 := Below.chain c2 b5
  have hT5 := HT.out.later b5
  clear hW b5 c2 HT hw1 hne hkI hA hA2 HH
  generalize w2.heap.size = B at *
  have hTL := HTL.out
  subst hTL
  have CW := Lib.hid (fun x w' (hb : Below w5.heap.size w5 w') => (with_any x T k cap B (B + 1) ao w' ((hb.cell (block_lt_of_cell p1)).trans p1) ((hb.cell (block_lt_of_cell p2)).trans p2) (hT5.later hb) hkL hl).mono
    (show ∀ (e : Ending) (w'' : World), (∃ v', e = .returned v' ∧ Own w'' w'.heap.size v' (T.take k ++ [x] ++ T.drop k) ∧ Below w'.heap.size w' w'') → ∃ v', e = .returned v' ∧ Ts w''.heap.size w'' v' (T.take k ++ [x] ++ T.drop k) ∧ Below w5.heap.size w5 w'' from fun e w'' ⟨v', he, ho, hb'⟩ => ⟨v', he, ho.ts, Below.chain hb hb'⟩))
  have AT := Lib.hid (fun w' (hb : Below w5.heap.size w5 w') => and_any _ _ _ _ (hT5.later hb))
  have OT := Lib.hid (fun w' (hb : Below w5.heap.size w5 w') => or_any _ _ _ _ (hT5.later hb))
  have C1 := Lib.hid (fun v' w' (h : Ts w'.heap.size w' v' (T.take k ++ [1] ++ T.drop k)) => and_any _ _ _ _ h)
  have C2 := Lib.hid (fun v' w' (h : Ts w'.heap.size w' v' (T.take k ++ [0] ++ T.drop k)) => or_any _ _ _ _ h)
  have C3 := Lib.hid (fun v' w' (h : Ts w'.heap.size w' v' (T.take k ++ [0] ++ T.drop k)) => and_any _ _ _ _ h)
  have C4 := Lib.hid (fun v' w' (h : Ts w'.heap.size w' v' (T.take k ++ [1] ++ T.drop k)) => or_any _ _ _ _ h)
  rw [show joinI 0 (T.take k ++ [1] ++ T.drop k) = joinI 0 T by have := join_more (s := 0) (.inl rfl) (T.take k) (T.drop k); rw [List.take_append_drop] at this; exact this] at C1
  rw [show joinI 1 (T.take k ++ [0] ++ T.drop k) = joinI 1 T by have := join_more (s := 1) (.inr rfl) (T.take k) (T.drop k); rw [List.take_append_drop] at this; exact this] at C2
  rw [join_hit (s := 0) (l := T.take k ++ [0] ++ T.drop k) (by simp)] at C3
  rw [join_hit (s := 1) (l := T.take k ++ [1] ++ T.drop k) (by simp)] at C4
  have P1 := Lib.hid p1
  clear p1 p2 hT5 HL HK HTL hkL hl
  generalize hj0 : joinI 0 T = j0 at *
  generalize hj1 : joinI 1 T = j1 at *
  clear hj0 hj1
  generalize T.take k = Ta at *
  generalize T.drop k = Tb at *
  generalize T.length = L at *
  have e0 : (j0 == j0) = true := by simp
  have e1 : (j1 == j1) = true := by simp
  have r5 : Below w5.heap.size w5 w5.drew := (Below.refl _ _).drew
  go_region_held3 (fun w' => w'.cell? ⟨B, 0, none⟩ = some (.slice ao L cap) ∧ Below w5.heap.size w5 w')
    (first | exact keep2 P1.out r5 | exact keep2 P1.out bw)
    (first
      | (go_simp; go_at_call 21; first
          | (with_reducible refine (CW.out _ _ bw).mono ?_)
          | (with_reducible refine (CW.out _ _ r5).mono ?_)
         rintro e ww ⟨vw, rfl, hTw, bw⟩)
      | (go_simp; go_at_call 15; first
          | (with_reducible refine (C1.out _ _ hTw).mono ?_)
          | (with_reducible refine (C3.out _ _ hTw).mono ?_)
          | (with_reducible refine (AT.out _ bw).mono ?_)
         rintro e wz ⟨rfl, rfl⟩)
      | (go_simp; go_at_call 17; first
          | (with_reducible refine (C2.out _ _ hTw).mono ?_)
          | (with_reducible refine (C4.out _ _ hTw).mono ?_)
          | (with_reducible refine (OT.out _ bw).mono ?_)
         rintro e wz ⟨rfl, rfl⟩))
  all_goals (go_wp2_with fail; go_ret; exact ⟨rfl, Below.chain c5 bw⟩)
end Go.Proofs.Ytblehbcehfmnkaa.LogicNeutral
