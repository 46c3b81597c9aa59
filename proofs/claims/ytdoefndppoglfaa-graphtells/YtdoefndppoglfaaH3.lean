import Derived.Test.YtdoefndppoglfaaH2
import Derived.ProofKit
import Derived.Laws.Cover2
import Derived.Deep.Slices
import Derived.WalkLawsBesides
import Derived.Maps.OwnSet
namespace Go.Proofs.Ytdoefndppoglfaa
open Go Go.ChangeShapes Go.WideShapes Go.ChangeAt Go.RowKit
open Go.Joins
open Go.Maps
set_option linter.unusedVariables false
/-! ### a map of names to places -/
def ky (s : ByteArray) : Lit := .string s.data.toList
theorem ky_key (s : ByteArray) : WideAt.IsKeyLit (ky s) := by simp [ky, WideAt.IsKeyLit]
theorem ky_inj {a b : ByteArray} : ky a = ky b ↔ byt a = byt b := by simp [ky]
/-- what the map holds behind n names -/
def Dn (l : List ByteArray) : Nat → DataW Unit
  | 0 => .map []
  | n + 1 => (Dn l n).put (ky l[n]!) (.lit (.int .i64 n))
theorem Dn_tidy (l : List ByteArray) : ∀ n, Tidy (Dn l n)
  | 0 => tidy_empty
  | n + 1 => (Dn_tidy l n).put (ky_key _) _
theorem Dn_has (l : List ByteArray) (s : ByteArray) : ∀ n, Maps.has (Dn l n) (ky s) = true ↔ ∃ j, j < n ∧ byt l[j]! = byt s
  | 0 => by
    constructor
    · intro h; simp [Dn, Maps.has] at h
    · rintro ⟨j, h, _⟩; omega
  | n + 1 => by
    have ih := Dn_has l s n
    by_cases he : byt l[n]! = byt s
    · have e : ky s = ky l[n]! := ky_inj.2 he.symm
      constructor
      · intro _; exact ⟨n, Nat.lt_succ_self n, he⟩
      · intro _
        rw [Dn, e]
        exact has_put_same (Dn_tidy l n).isMap (ky_key _) _
    · have hne : ky s ≠ ky l[n]! := fun e => he (ky_inj.1 e).symm
      rw [Dn, has_put_other hne, ih]
      constructor
      · rintro ⟨j, h1, h2⟩; exact ⟨j, by omega, h2⟩
      · rintro ⟨j, h1, h2⟩
        refine ⟨j, ?_, h2⟩
        rcases Nat.lt_succ_iff_lt_or_eq.1 h1 with h | h
        · exact h
        · subst h; exact absurd h2 he
/-- no name twice among the first n -/
def Dist (l : List ByteArray) (n : Nat) : Prop := ∀ i, i < n → ∀ j, j < i → ¬ byt l[j]! = byt l[i]!
theorem Dn_size_le (l : List ByteArray) : ∀ n, Maps.size (Dn l n) ≤ n
  | 0 => by simp [Dn, Maps.size]
  | n + 1 => by
    have := Dn_size_le l n
    rw [Dn, size_put (Dn_tidy l n)]
    split <;> omega
theorem Dn_size (l : List ByteArray) : ∀ n, Maps.size (Dn l n) = n ↔ Dist l n
  | 0 => by simp [Dn, Maps.size, Dist]
  | n + 1 => by
    have ih := Dn_size l n
    have hle := Dn_size_le l n
    rw [Dn, size_put (Dn_tidy l n)]
    by_cases hh : Maps.has (Dn l n) (ky l[n]!) = true
    · rw [if_pos hh]
      obtain ⟨j, h1, h2⟩ := (Dn_has l l[n]! n).1 hh
      constructor
      · intro h; omega
      · intro h; exact absurd h2 (h n (Nat.lt_succ_self n) j h1)
    · rw [if_neg hh]
      constructor
      · intro h i hi j hj
        have hd := ih.1 (by omega)
        rcases Nat.lt_succ_iff_lt_or_eq.1 hi with h1 | h1
        · exact hd i h1 j hj
        · subst h1
          exact fun e => hh ((Dn_has l l[i]! i).2 ⟨j, hj, e⟩)
      · intro h
        have := ih.2 (fun i hi j hj => h i (by omega) j hj)
        omega
theorem Dn_at (l : List ByteArray) (s : ByteArray) (z : DataW Unit) : ∀ n, Dist l n → ∀ j, j < n → byt l[j]! = byt s → (Dn l n).atKey (ky s) z = .lit (.int .i64 j)
  | 0, _, j, h, _ => by omega
  | n + 1, hd, j, hj, he => by
    by_cases hjn : j = n
    · subst hjn
      have e : ky s = ky l[j]! := ky_inj.2 he.symm
      rw [Dn, e]
      exact atKey_put_same (Dn_tidy l j).isMap (ky_key _) _ _
    · have hne : ky s ≠ ky l[n]! := fun e => hd n (Nat.lt_succ_self n) j (by omega) (he.trans (ky_inj.1 e))
      rw [Dn, atKey_put_other hne]
      exact Dn_at l s z n (fun i hi j hj => hd i (by omega) j hj) j (by omega) he
theorem ownsMap_keep {H : Type} {P : Program} {k : TypeId} {R : Value → Option (DataW H × List MemPlace)} {w w' : World} {b n : Nat} {D : DataW H} (h : w.ownsMap P k R b n D) (hb : Below w.heap.size w w') : w'.ownsMap P k R b n D := by
  have hl := h.lt
  obtain ⟨es, c, h1, r⟩ := h
  exact ⟨es, c, (hb.block b hl).trans h1, r⟩
/-- a map of names that lies in memory -/
abbrev Mp (w : World) (b n : Nat) (D : DataW Unit) : Prop := w.ownsMap Try.prog 9 (plainElem Try.prog 3) b n D
theorem lawS : Keyed Try.prog 9 := string_keyed Try.underlying9
theorem run_mk (n : Nat) (w : World) : (Instr.makeMap 76 (some (.int .i64 n))).run Try.prog w = .ok (.map (some w.heap.size)) (w.alloc (.map #[] 0)) := by
  simp [Instr.makeMap, run_underlying Try.underlying76, asInt, newObj, Result.andThen, go_sem]
  rfl
theorem word_short {s : ByteArray} (h : wordB s = true) : s.size ≤ 40 := by
  rcases Nat.lt_or_ge 40 s.size with h' | h'
  · rw [word_long h'] at h; cases h
  · exact h'
set_option maxRecDepth 100000 in
set_option maxHeartbeats 4000000 in
/-- the places of names -/
theorem placesN_any (ds : List Nd) (xs : List Nx) (v : Value) (w : World) (h : RwN w v xs) (k : Ns w ds xs) (hn : ds.length ≤ 1000) (hw : ∀ d ∈ ds, wordB d.name = true) :
    Calls Try.prog 35 #[v, .func (.func 36) #[] #[]] w fun e w' => ∃ b, e = .returned (.map (some b)) ∧ w.heap.size ≤ b ∧ Mp w' b ds.length (Dn (ds.map Nd.name) ds.length) ∧ Below w.heap.size w w' := by
  have hL : ∃ ao L cap, v = .slice ao L cap ∧ xs.length = L := by
    obtain ⟨a, c, e, e1, e2, -⟩ := h
    exact ⟨a, _, c, e, rfl⟩
  obtain ⟨ao, L, cap, rfl, hL⟩ := hL
  have hN : ds.length = L := k.1.trans hL
  have HR := Lib.hid h
  have HK := Lib.hid k
  have HL := Lib.hid hL
  have HN := Lib.hid hN
  have HW := Lib.hid hw
  have hL1 : L ≤ 1000 := by omega
  have hmk := run_mk
  rw [hN]
  clear h k hL hN hn hw
  go_enter Try.func35, Try.ntmps35
  go_wp2_with fail
  go_loopg [6, 7, 13] L (fun g s6 s7 s13 wr => ∃ i : Nat, g + i = L ∧ s13 = .int .i64 i ∧ Mp wr w.heap.size i (Dn (ds.map Nd.name) i) ∧ Below w.heap.size w wr)
  case atStart => exact ⟨0, rfl, rfl, World.ownsMap_made _ _ _ _, below_a1 _ _⟩
  case round =>
    obtain ⟨i, hg, rfl, hO, hb⟩ := hrel
    by_cases hlt : i < L
    · have ii : (i : Int) < (L : Int) := by omega
      have hi : i < xs.length := by rw [HL.out]; exact hlt
      have hi' : i < ds.length := by rw [HN.out]; exact hlt
      obtain ⟨b, o, rfl, hc⟩ := RwN.at (HR.out.keep hb) i hi
      obtain ⟨q0, q1, q2⟩ := hc i hi
      obtain ⟨z0, -⟩ := (HK.out.keep hb).2 i hi' hi
      have HB := Lib.hid hb
      have hword := HW.out _ (List.getElem_mem hi')
      have HS := Lib.hid (show Dn (ds.map Nd.name) (i + 1) = (Dn (ds.map Nd.name) i).put (ky ds[i].name) (.lit (.int .i64 i)) by
        rw [Dn, getElem!_pos _ i (by simpa using hi'), List.getElem_map])
      have HO := Lib.hid hO
      have hsz := hO.lt
      clear hc hb hO
      generalize ds.map Nd.name = nl at *
      generalize ds[i] = d at *
      generalize xs[i] = x at *
      obtain ⟨xn, ⟨xla, xln, xlc⟩, ⟨xpa, xpn, xpc⟩⟩ := x
      dsimp only at z0 q0 q1 q2
      subst z0 
      have hkey : keyOf Try.prog 9 (.string d.name) = some (ky d.name) := Go.WideMaps.keyOf_string_mk Try.underlying9 (by have := word_short hword; unfold maxLen; omega)
      have hmax : i < maxLen := by unfold maxLen; omega
      have hwf : (Lit.int .i64 i).wf = true := WalkArith.wf_i64 (by omega)
      have D := Lib.hid (nodename_any d.name ⟨xla, xln, xlc⟩ ⟨xpa, xpn, xpc⟩)
      have HO1 := Lib.hid (ownsMap_keep HO.out (below_a1 _ (.cells #[.string d.name, .slice xla xln xlc, .slice xpa xpn xpc] 43)))
      clear hword
      generalize d.name = s at *
      go_wp2_with fail
      (with_reducible refine (D.out _).mono ?_); rintro e w2 ⟨rfl, hb2⟩
      have HO2 := Lib.hid (ownsMap_keep HO1.out hb2)
      have BX := Lib.hid (HB.out.alloc HB.out.size (.cells #[.string s, .slice xla xln xlc, .slice xpa xpn xpc] 43))
      have HB2 := Lib.hid (BX.out.trans (hb2.mono BX.out.size))
      go_wp2_with (at_mapUpdate; refine wpList_mapUpdate_own _ rfl _ _ _ 76 rfl 9 3 lawS Try.underlying76 _ w.heap.size i _ rfl HO2.out hmax _ _ _ rfl rfl hkey _ [] (plainElem_int Try.underlying3 hwf) ?_; intro w3 hown3 hg3)
      go_roundg (L - (i + 1))
      case rel => exact ⟨i + 1, by omega, by go_num, by rw [HS.out]; exact hown3, HB2.out.grown hg3 HB2.out.size (fun j e => by cases e; exact Nat.le_refl _)⟩
      case measure => omega
    · obtain rfl : L = i := by omega
      have ii : ¬ ((L : Int) < (L : Int)) := by omega
      have HO := Lib.hid hO
      clear hO
      go_wp2_with fail
      go_ret
      exact ⟨_, rfl, Nat.le_refl _, HO.out, hb⟩
set_option maxRecDepth 100000 in
set_option maxHeartbeats 4000000 in
/-- the places of names -/
theorem placesD_any (ds : List Ed) (xs : List Dx) (v : Value) (w : World) (h : RwD w v xs) (k : Ds w ds xs) (hn : ds.length ≤ 1000) (hw : ∀ d ∈ ds, wordB d.name = true) :
    Calls Try.prog 37 #[v, .func (.func 38) #[] #[]] w fun e w' => ∃ b, e = .returned (.map (some b)) ∧ w.heap.size ≤ b ∧ Mp w' b ds.length (Dn (ds.map Ed.name) ds.length) ∧ Below w.heap.size w w' := by
  have hL : ∃ ao L cap, v = .slice ao L cap ∧ xs.length = L := by
    obtain ⟨a, c, e, e1, e2, -⟩ := h
    exact ⟨a, _, c, e, rfl⟩
  obtain ⟨ao, L, cap, rfl, hL⟩ := hL
  have hN : ds.length = L := k.1.trans hL
  have HR := Lib.hid h
  have HK := Lib.hid k
  have HL := Lib.hid hL
  have HN := Lib.hid hN
  have HW := Lib.hid hw
  have hL1 : L ≤ 1000 := by omega
  have hmk := run_mk
  rw [hN]
  clear h k hL hN hn hw
  go_enter Try.func37, Try.ntmps37
  go_wp2_with fail
  go_loopg [6, 7, 13] L (fun g s6 s7 s13 wr => ∃ i : Nat, g + i = L ∧ s13 = .int .i64 i ∧ Mp wr w.heap.size i (Dn (ds.map Ed.name) i) ∧ Below w.heap.size w wr)
  case atStart => exact ⟨0, rfl, rfl, World.ownsMap_made _ _ _ _, below_a1 _ _⟩
  case round =>
    obtain ⟨i, hg, rfl, hO, hb⟩ := hrel
    by_cases hlt : i < L
    · have ii : (i : Int) < (L : Int) := by omega
      have hi : i < xs.length := by rw [HL.out]; exact hlt
      have hi' : i < ds.length := by rw [HN.out]; exact hlt
      obtain ⟨b, o, rfl, hc⟩ := RwD.at (HR.out.keep hb) i hi
      obtain ⟨q0, q1, q2, q3, q4, q5⟩ := hc i hi
      obtain ⟨z0, -⟩ := (HK.out.keep hb).2 i hi' hi
      have HB := Lib.hid hb
      have hword := HW.out _ (List.getElem_mem hi')
      have HS := Lib.hid (show Dn (ds.map Ed.name) (i + 1) = (Dn (ds.map Ed.name) i).put (ky ds[i].name) (.lit (.int .i64 i)) by
        rw [Dn, getElem!_pos _ i (by simpa using hi'), List.getElem_map])
      have HO := Lib.hid hO
      have hsz := hO.lt
      clear hc hb hO
      generalize ds.map Ed.name = nl at *
      generalize ds[i] = d at *
      generalize xs[i] = x at *
      obtain ⟨xn, xf, xt, xd, ⟨xla, xln, xlc⟩, ⟨xpa, xpn, xpc⟩⟩ := x
      dsimp only at z0 q0 q1 q2 q3 q4 q5
      subst z0 
      have hkey : keyOf Try.prog 9 (.string d.name) = some (ky d.name) := Go.WideMaps.keyOf_string_mk Try.underlying9 (by have := word_short hword; unfold maxLen; omega)
      have hmax : i < maxLen := by unfold maxLen; omega
      have hwf : (Lit.int .i64 i).wf = true := WalkArith.wf_i64 (by omega)
      have D := Lib.hid (edgename_any d.name xf xt xd ⟨xla, xln, xlc⟩ ⟨xpa, xpn, xpc⟩)
      have HO1 := Lib.hid (ownsMap_keep HO.out (below_a1 _ (.cells #[.string d.name, .int .i64 xf, .int .i64 xt, .bool xd, .slice xla xln xlc, .slice xpa xpn xpc] 45)))
      clear hword
      generalize d.name = s at *
      go_wp2_with fail
      (with_reducible refine (D.out _).mono ?_); rintro e w2 ⟨rfl, hb2⟩
      have HO2 := Lib.hid (ownsMap_keep HO1.out hb2)
      have BX := Lib.hid (HB.out.alloc HB.out.size (.cells #[.string s, .int .i64 xf, .int .i64 xt, .bool xd, .slice xla xln xlc, .slice xpa xpn xpc] 45))
      have HB2 := Lib.hid (BX.out.trans (hb2.mono BX.out.size))
      go_wp2_with (at_mapUpdate; refine wpList_mapUpdate_own _ rfl _ _ _ 76 rfl 9 3 lawS Try.underlying76 _ w.heap.size i _ rfl HO2.out hmax _ _ _ rfl rfl hkey _ [] (plainElem_int Try.underlying3 hwf) ?_; intro w3 hown3 hg3)
      go_roundg (L - (i + 1))
      case rel => exact ⟨i + 1, by omega, by go_num, by rw [HS.out]; exact hown3, HB2.out.grown hg3 HB2.out.size (fun j e => by cases e; exact Nat.le_refl _)⟩
      case measure => omega
    · obtain rfl : L = i := by omega
      have ii : ¬ ((L : Int) < (L : Int)) := by omega
      have HO := Lib.hid hO
      clear hO
      go_wp2_with fail
      go_ret
      exact ⟨_, rfl, Nat.le_refl _, HO.out, hb⟩
end Go.Proofs.Ytdoefndppoglfaa
