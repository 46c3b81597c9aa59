import Derived.Test.YtlnmjbheohkanaaKS
namespace Go.Proofs.Ytlnmjbheohkanaa
open Go Go.RowKit
set_option linter.unusedVariables false
set_option maxHeartbeats 4000000 in
set_option maxRecDepth 100000 in
theorem shown6_any (w : World) : Calls Try.prog 11 #[] w fun e w' => e = .returned (.bool true) ∧ Below w.heap.size w w' := by
  have hsf := run_store_float
  have C1 := Lib.hid (xname_any sA w)
  go_enter Try.func11, Try.ntmps11
  go_wp2_with fail
  (with_reducible refine C1.out.mono ?_); rintro e w1 ⟨xa, rfl, Ta, b1⟩
  have C2 := Lib.hid (xname_any sC w1)
  have TA := Lib.hid Ta
  have B1 := Lib.hid b1
  clear Ta b1 C1
  go_wp2_with fail
  (with_reducible refine C2.out.mono ?_); rintro e w2 ⟨xc, rfl, Tc, b2⟩
  have C3 := Lib.hid (not6_any (nmE sC) xc w2 Tc)
  have TA2 := Lib.hid (TA.out.keep b2)
  have B2 := Lib.hid (Below.chain B1.out b2)
  clear Tc b2 C2 TA B1
  go_wp2_with fail
  (with_reducible refine C3.out.mono ?_); rintro e w3 ⟨xn, rfl, Tn, b3⟩
  have C4 := Lib.hid (and6_any (nmE sA) (notE (nmE sC)) xa xn w3 (TA2.out.keep b3) Tn)
  have B3 := Lib.hid (Below.chain B2.out b3)
  clear Tn b3 C3 TA2 B2
  go_wp2_with fail
  (with_reducible refine C4.out.mono ?_); rintro e w4 ⟨x, rfl, Te, b4⟩
  have B4 := Lib.hid (Below.chain B3.out b4)
  have c5 := below_a1 w4 (.cells (xcs x) 28)
  have V5 := Lib.hid (lies7_new w4 x 28 (xcs x) rfl)
  have T5 := Lib.hid (Te.keep c5)
  have B5 := Lib.hid (Below.chain B4.out c5)
  have C5 := Lib.hid (lnames_any eS x _ T5.out (fun _ => by simp [namesT, namesTL]))
  rw [names_S] at C5
  clear Te b4 C4 B3 B4 c5
  go_wp2_with fail
  (with_reducible refine C5.out.mono ?_); rintro e w6 ⟨u, rfl, ho, b6⟩
  have hu : ∃ b o cap, u = .slice (some ⟨b, o, none⟩) 2 cap ∧ w6.cell? ⟨b, o, none⟩ = some (.string sA) ∧ w6.cell? ⟨b, o + 1, none⟩ = some (.string sC) := by
    obtain ⟨ao, cap, rfl, -, -, -, hc⟩ := ho.rw
    obtain ⟨b, o, rfl, c0⟩ := hc 0 (by simp)
    obtain ⟨b', o', he, c1⟩ := hc 1 (by simp)
    cases he
    have d0 := c0 0 (by decide)
    have d1 := c1 0 (by decide)
    simp only [encS, Nat.zero_mul, Nat.one_mul, Nat.add_zero, List.getElem_cons_zero, List.getElem_cons_succ, List.getElem?_cons_zero] at d0 d1
    exact ⟨b, o, cap, rfl, d0, d1⟩
  obtain ⟨ub, uo, uc, rfl, u0, u1⟩ := hu
  have U6 := Lib.hid (And.intro u0 u1)
  have D6 := Lib.hid b6
  have BB6 := Lib.hid (Below.chain B5.out b6)
  have ⟨y0, y1, y2, y3, y4, y5, y6⟩ := (V5.out.keep b6).at
  have hl6 : w4.heap.size < w6.heap.size := block_lt_of_cell y0
  have c7 := below_a1 w6 (.cells #[.string sA, .string sB] 9)
  have D7 := Lib.hid (Below.chain b6 c7)
  have C7' := Lib.hid (lhas_any [sA, sB] eS x _ _ (T5.out.keep D7.out) (two_rw w6 sA sB))
  rw [has_S1] at C7'
  clear ho b6 C5 u0 u1 c7
  go_wp2_with fail
  (with_reducible refine C7'.out.mono ?_); rintro e w8 ⟨rfl, b8⟩
  have D8 := Lib.hid (Below.chain D7.out b8)
  have ⟨p0, p1, p2, p3, p4, p5, p6⟩ := (V5.out.keep D8.out).at
  have hl8 : w4.heap.size < w8.heap.size := block_lt_of_cell p0
  have c9 := below_a1 w8 (.cells #[.string sA, .string sC] 9)
  have D9 := Lib.hid (Below.chain D8.out c9)
  have C9 := Lib.hid (lhas_any [sA, sC] eS x _ _ (T5.out.keep D9.out) (two_rw w8 sA sC))
  rw [has_S2] at C9
  have D68 := Lib.hid (Below.chain (below_a1 w6 (.cells #[.string sA, .string sB] 9)) b8)
  clear b8 c9 C7' y0 y1 y2 y3 y4 y5 y6
  go_wp2_with fail
  (with_reducible refine C9.out.mono ?_); rintro e w10 ⟨rfl, b10⟩
  have D10 := Lib.hid (Below.chain D9.out b10)
  have ⟨y0, y1, y2, y3, y4, y5, y6⟩ := (V5.out.keep D10.out).at
  have C10 := Lib.hid (lright_any eS x w10 (T5.out.keep D10.out))
  rw [right_S] at C10
  have D610 := Lib.hid (Below.chain (Below.chain D68.out (below_a1 w8 (.cells #[.string sA, .string sC] 9))) b10)
  clear b10 C9 p0 p1 p2 p3 p4 p5 p6
  go_wp2_with fail
  (with_reducible refine C10.out.mono ?_); rintro e w11 ⟨rfl, b11⟩
  have C11 := Lib.hid (lright_any nilE ⟨0, ⟨#[]⟩, vz, none, 0, 0⟩ w11 (nil_tx _))
  rw [right_0] at C11
  have D611 := Lib.hid (Below.chain D610.out b11)
  clear b11 C10 y0 y1 y2 y3 y4 y5 y6
  go_wp2_with fail
  (with_reducible refine C11.out.mono ?_); rintro e w12 ⟨rfl, b12⟩
  have C12 := Lib.hid (lhas_any [] nilE ⟨0, ⟨#[]⟩, vz, none, 0, 0⟩ (.slice none 0 0) w12 (nil_tx _) (Rw.nil _))
  rw [has_0] at C12
  have D612 := Lib.hid (Below.chain D611.out b12)
  clear b12 C11
  go_wp2_with fail
  (with_reducible refine C12.out.mono ?_); rintro e w13 ⟨rfl, b13⟩
  have D613 := Lib.hid (Below.chain D612.out b13)
  have q0 := (D613.out.cell (block_lt_of_cell U6.out.1)).trans U6.out.1
  have q1 := (D613.out.cell (block_lt_of_cell U6.out.2)).trans U6.out.2
  have C13 := Lib.hid (lword_any ⟨#[97, 95, 49]⟩ w13)
  rw [word_1] at C13
  clear b13 C12
  go_wp2_with fail
  (with_reducible refine C13.out.mono ?_); rintro e w14 ⟨rfl, b14⟩
  have C14 := Lib.hid (lword_any ⟨#[49, 97]⟩ w14)
  rw [word_2] at C14
  go_wp2_with fail
  (with_reducible refine C14.out.mono ?_); rintro e w15 ⟨rfl, b15⟩
  go_wp2_with fail
  go_ret
  exact ⟨rfl, Below.chain (Below.chain (Below.chain BB6.out D613.out) b14) b15⟩
end Go.Proofs.Ytlnmjbheohkanaa
