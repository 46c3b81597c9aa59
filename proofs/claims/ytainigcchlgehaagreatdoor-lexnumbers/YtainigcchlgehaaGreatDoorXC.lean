import Derived.Test.YtainigcchlgehaaGreatDoorXB
namespace Go.Proofs.YtainigcchlgehaaGreatDoor
open Go Go.ChangeShapes Go.WideShapes Go.ChangeAt Go.RowKit
open Go.Joins
set_option linter.unusedVariables false
theorem lx_at (s : ByteArray) (i : Nat) (h : i < s.size) : s.data.toList[i]'(by simpa using h) = s[i] := by
  simp [ByteArray.getElem_eq_getElem_data]
theorem lx_drop (s : ByteArray) (i : Nat) (h : i < s.size) : s.data.toList.drop i = s[i] :: s.data.toList.drop (i + 1) := by
  rw [List.drop_eq_getElem_cons (by simpa using h), lx_at s i h]
theorem lx_ext (s : ByteArray) (i e : Nat) : (s.extract i e).data.toList = (s.data.toList.drop i).take (e - i) := by
  rw [Lib.extract_data]
theorem lx_len (s : ByteArray) : s.data.toList.length = s.size := by simp
theorem findS_cons {l s : Bt} {t : List Bt} : findS l (s :: t) = if Lib.hasPrefix l s = true then s.length else findS l t := rfl
theorem wpList_load_run {P : Program} {ops : Array Oper} {rest : List Oper} {o : Oper} {a : Act} {w : World} {Q : Exit → Act → World → Prop} (hgd : o.guard = none) (ty : TypeId) (x : Operand) (ho : o.op = .load ty x)
    (p : Addr) (hx : a.eval x = .pointer (some p)) (v : Value) (hl : (loadVar ty p).run P w = .ok v w) (h : wpList P ops Q rest (a.put o.dst v) w) : wpList P ops Q (o :: rest) a w :=
  wpList_plain hgd fun _ hK => by
    unfold Oper.wp execOp
    simp only [ho, hx, Instr.loadAt, Instr.sureAddr, Sem.run_bind, Sem.run_pure, Result.andThen_ok, hl]
    exact hK _ _ h
set_option maxHeartbeats 1000000 in
set_option maxRecDepth 100000 in
theorem lxsign_any (s : ByteArray) (w : World) (hS : SigAt w) : Calls Tryz.prog 32 #[.string s] w fun e w' => e = .returned (.int .i64 (signN s.data.toList : Nat)) ∧ w = w' := by
  have HLD := sig_load hS
  have HIX := Lib.hid (fun (i : Nat) (hi : i < signsL.length) (w : World) => (show (Instr.index 85 (.agg signsV) (.int .i64 (i : Int))).run Tryz.prog w = .ok (.string ⟨(signsL[i]).toArray⟩) w from by
    have h1 : (0 : Int) ≤ (i : Int) := by omega
    have hl : signsL.length = 36 := rfl
    have h2 : ((i : Int) : Int) < 36 := by omega
    have h3 : signsV[i]? = some (.string ⟨(signsL[i]).toArray⟩) := by
      unfold signsV
      rw [List.getElem?_toArray, List.getElem?_map, List.getElem?_eq_getElem hi]; rfl
    simp [Instr.index, run_underlying Tryz.underlying85, asIntOf, h1, h3, go_sem]
    intro hh; omega))
  have HF := Lib.hid (show findS s.data.toList signsL = signN s.data.toList from rfl)
  have HL := Lib.hid (show signsL.length = 36 from rfl)
  have HB := Lib.hid (show ∀ x ∈ signsL, x.length ≤ 3 by decide)
  generalize signsV = SV at *
  generalize signN s.data.toList = N at *
  generalize signsL = SL at *
  clear hS
  go_enter Tryz.func32, Tryz.ntmps32
  go_upto_region 1 with fail
  refine wp_region_lit ?_
  refine wpList_load_run rfl _ _ rfl ⟨0, 0, none⟩ rfl (.agg SV) HLD ?_
  clear HLD
  simp only [Act.put]
  go_wp2_with fail
  go_loopg [6] 36 (fun g s6 wr => ∃ i : Nat, g + i = 36 ∧ s6 = .int .i64 i ∧ findS s.data.toList (SL.drop i) = N ∧ wr = w)
  case atStart => exact ⟨0, rfl, rfl, HF.out, rfl⟩
  case round =>
    obtain ⟨i, hg, rfl, hy, rfl⟩ := hrel
    have HY := Lib.hid hy
    clear hy
    by_cases hlt : i < 36
    · have ii : (i : Int) < 36 := by omega
      have hi : i < SL.length := by rw [HL.out]; exact hlt
      have ix := HIX.out i hi
      have HD := Lib.hid (show SL.drop i = SL[i] :: SL.drop (i + 1) from List.drop_eq_getElem_cons hi)
      have HB3 := Lib.hid (HB.out _ (List.getElem_mem hi))
      generalize SL[i] = z at *
      have HP := Lib.hid (show ∀ w, Calls Tryz.prog 51 #[.string s, .string ⟨z.toArray⟩] w fun e w' => e = .returned (.bool (Lib.hasPrefix s.data.toList z)) ∧ w' = w from fun w => Tryz.strings_HasPrefix s ⟨z.toArray⟩ w)
      have HZS := Lib.hid (show ((⟨z.toArray⟩ : ByteArray).size : Int) = (z.length : Int) by show ((z.toArray.size : Nat) : Int) = _; simp)
      cases hz : Lib.hasPrefix s.data.toList z with
      | true =>
        have HR := Lib.hid (show z.length = N by rw [← HY.out, HD.out, findS_cons, if_pos hz])
        have HQ := Lib.hid hz
        clear hz
        go_wp2_with fail
        refine (HP.out _).mono ?_; rintro e w1 ⟨rfl, rfl⟩
        rw [HQ.out]
        go_wp2_with fail
        go_ret
        exact ⟨by rw [← HR.out, ← HZS.out]; rfl, rfl⟩
      | false =>
        have HR := Lib.hid (show findS s.data.toList (SL.drop (i + 1)) = N by rw [← HY.out, HD.out, findS_cons, if_neg (by rw [hz]; decide)])
        have HQ := Lib.hid hz
        clear hz
        go_wp2_with fail
        refine (HP.out _).mono ?_; rintro e w1 ⟨rfl, rfl⟩
        rw [HQ.out]
        go_wp2_with fail
        go_roundg (36 - (i + 1))
        case rel => exact ⟨i + 1, by omega, by go_num, HR.out, rfl⟩
        case measure => omega
    · obtain rfl : i = 36 := by omega
      have HR := Lib.hid (show N = 0 by rw [← HY.out, List.drop_eq_nil_of_le (by rw [HL.out]; exact Nat.le_refl _)]; rfl)
      go_wp2_with fail
      go_ret
      exact ⟨by rw [HR.out]; rfl, rfl⟩
end Go.Proofs.YtainigcchlgehaaGreatDoor
