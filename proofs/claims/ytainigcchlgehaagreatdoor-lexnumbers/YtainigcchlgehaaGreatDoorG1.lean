import Derived.Test.YtainigcchlgehaaGreatDoorG0
import Derived.Test.YtainigcchlgehaaGreatDoorGR
import Derived.Laws.Tables
import Derived.Deep.Cut
import Derived.Deep.LoopGhost
import Derived.Deep.RegionLaw
import Derived.Deep.RegionHeld3
namespace Go.Proofs.YtainigcchlgehaaGreatDoor
open Go Go.RowKit
set_option linter.unusedVariables false
/-- a value: kind, number, the float's bits, text -/
structure Vl where
  k : Int
  n : Int
  f : Nat
  s : ByteArray
structure Vl.Ok (v : Vl) : Prop where
  n1 : -9223372036854775808 ≤ v.n
  n2 : v.n ≤ 9223372036854775807
  f2 : v.f < 18446744073709551616
instance : Inhabited Vl := ⟨⟨0, 0, 0, ⟨#[]⟩⟩⟩
/-- a variable's block -/
def Vr (w : World) (b : Nat) (e : TypeId) (cs : Array Value) : Prop := w.heap[b]? = some (.cells cs e (0, 0))
theorem Vr.new (w : World) (e : TypeId) (cs : Array Value) : Vr (w.alloc (.cells cs e)) w.heap.size e cs := heap_alloc_new w _
theorem Vr.lt {w : World} {b : Nat} {e : TypeId} {cs : Array Value} (h : Vr w b e cs) : b < w.heap.size := (Array.getElem?_eq_some_iff.1 h).1
theorem Vr.keepB {w w' : World} {b B : Nat} {e : TypeId} {cs : Array Value} (h : Vr w b e cs) (hb : Below B w w') (hB : b < B) : Vr w' b e cs := (hb.block b hB).trans h
theorem Vr.keep {w w' : World} {b : Nat} {e : TypeId} {cs : Array Value} (h : Vr w b e cs) (hb : Below w.heap.size w w') : Vr w' b e cs := h.keepB hb h.lt
theorem Vr.set {w : World} {b : Nat} {e : TypeId} {cs : Array Value} (h : Vr w b e cs) (cs' : Array Value) : Vr (w.setRow b cs') b e cs' := setRow_heap w b cs cs' e _ h
theorem Vr.cell {w : World} {b : Nat} {e : TypeId} {cs : Array Value} (h : Vr w b e cs) (j : Nat) : w.cell? ⟨b, j, none⟩ = cs[j]? := cell_of_row w b j cs e _ h
theorem below_setRow {n : Nat} {w w' : World} {b : Nat} (h : Below n w w') (hb : n ≤ b) (cs : Array Value) : Below n w (w'.setRow b cs) := by
  refine h.trans ?_
  exact ⟨rfl, rfl, rfl, by simp [World.setRow], fun k hk => setRow_other w' b k cs (by omega)⟩
theorem Ow.setRow {α : Type} {sz : Nat} {E : Enc α sz} {e : TypeId} {w : World} {base : Nat} {v : Value} {l : List α} (h : Ow E e w base v l) {b : Nat} (hb : v.ownBlock ≠ some b) (cs : Array Value) : Ow E e (w.setRow b cs) base v l := by
  refine ⟨h.1, ?_⟩
  rcases h.2 with h0 | ⟨g, cap, cur, rfl, hbg, hg, rest⟩
  · exact .inl h0
  · refine .inr ⟨g, cap, cur, rfl, hbg, ?_, rest⟩
    rw [setRow_other w b g cs (fun e => hb (by simp [Value.ownBlock, e]))]; exact hg
theorem Vr.thaw {w : World} {b : Nat} {e : TypeId} {cs : Array Value} (h : Vr w b e cs) (j : Nat) : w.frozen? ⟨b, j, none⟩ = false := by
  have h' : w.heap[b]? = some (.cells cs e (0, 0)) := h
  simp [World.frozen?, h']
theorem Vr.grown {w w' : World} {b : Nat} {e : TypeId} {cs : Array Value} {r : Option Nat} (h : Vr w b e cs) (hg : w.grownBy w' r) (hne : some b ≠ r) : Vr w' b e cs := (hg.block b h.lt hne).trans h
theorem Vr.at' (w : World) (e : TypeId) (cs : Array Value) (g : Nat) (hg : g = w.heap.size) : Vr (w.alloc (.cells cs e)) g e cs := by subst hg; exact Vr.new w e cs
theorem Vr.al {w : World} {b : Nat} {e : TypeId} {cs : Array Value} {o : Obj} (h : Vr w b e cs) : Vr (w.alloc o) b e cs := h.keep (below_a1 _ _)
theorem Vr.dr {w : World} {b : Nat} {e : TypeId} {cs : Array Value} (h : Vr w b e cs) : Vr w.drew b e cs := h
theorem bl_al {W w : World} {o : Obj} (h : Below W.heap.size W w) : Below W.heap.size W (w.alloc o) := h.alloc h.size o
theorem bl_dr {W w : World} (h : Below W.heap.size W w) : Below W.heap.size W w.drew := h.drew
theorem grown_of_below {w w' : World} (r : Option Nat) (h : Below w.heap.size w w') : w.grownBy w' r := ⟨h.os, h.tape, h.output, h.size, fun i hi _ => h.block i hi⟩
theorem grown_refl (w : World) (r : Option Nat) : w.grownBy w r := grown_of_below _ (Below.refl _ _)
theorem grown_set (w : World) (p j : Nat) (v : Value) : w.grownBy (w.setCell ⟨p, j, none⟩ v) (some p) := by
  refine ⟨rfl, rfl, rfl, by simp [World.setCell], fun k hk hne => ?_⟩
  simp only [World.setCell, Array.getElem?_modify]
  rw [if_neg (fun e => hne (by simp [e]))]
theorem grown_rowS (W : World) (b : Nat) (cs : Array Value) : W.grownBy (W.setRow b cs) (some b) := ⟨rfl, rfl, rfl, by simp [World.setRow], fun k hk hr => setRow_other W b k cs (fun e => hr (by simp [e]))⟩
/-- letters, digits and the line -/
def okc (n : Nat) : Bool := n == 95 || (decide (48 ≤ n) && decide (n ≤ 57)) || (decide (65 ≤ n) && decide (n ≤ 90)) || (decide (97 ≤ n) && decide (n ≤ 122))
def digitB (n : Nat) : Bool := decide (48 ≤ n) && decide (n ≤ 57)
def wordL : List UInt8 → Bool
  | [] => false
  | c :: t => decide ((c :: t).length ≤ 40) && !digitB c.toNat && (c :: t).all fun c => okc c.toNat
theorem wordL_cons (c : UInt8) (t : List UInt8) : wordL (c :: t) = (decide ((c :: t).length ≤ 40) && !digitB c.toNat && (c :: t).all fun c => okc c.toNat) := rfl
def wordB (s : ByteArray) : Bool := wordL s.data.toList
theorem word_cut {l : List UInt8} {i : Nat} (hi : i < l.length) (h : okc l[i].toNat = false) : wordL l = false := by
  have : l.all (fun c => okc c.toNat) = false := by
    rw [Bool.eq_false_iff]
    intro ha
    have := List.all_eq_true.1 ha l[i] (List.getElem_mem hi)
    rw [h] at this; cases this
  cases l with
  | nil => rfl
  | cons c t => rw [wordL_cons, this]; simp
theorem word_all {c : UInt8} {t : List UInt8} (hl : (c :: t).length ≤ 40) (hd : digitB c.toNat = false) (h : ∀ j (hj : j < (c :: t).length), okc ((c :: t)[j]).toNat = true) : wordL (c :: t) = true := by
  have ha : (c :: t).all (fun c => okc c.toNat) = true := by
    rw [List.all_eq_true]
    intro x hx
    obtain ⟨j, hj, rfl⟩ := List.getElem_of_mem hx
    exact h j hj
  rw [wordL_cons, ha, hd, decide_eq_true hl]; rfl
theorem word_long {s : ByteArray} (h : 40 < s.size) : wordB s = false := by
  unfold wordB
  have hl : s.data.toList.length = s.size := Array.length_toList
  generalize s.data.toList = l at *
  cases l with
  | nil => rfl
  | cons c t => rw [wordL_cons, decide_eq_false (by omega)]; rfl
theorem word_nil {s : ByteArray} (h : s.toList = []) : wordB s = false := by
  unfold wordB
  rw [← Lib.toList_data, h]; rfl
theorem size_pos {s : ByteArray} (h : ¬ s.toList = []) : 0 < s.size := by
  rw [Lib.toList_data] at h
  have : s.data.toList.length = s.size := Array.length_toList
  rcases Nat.eq_zero_or_pos s.size with h0 | h0
  · rw [h0] at this
    exact absurd (List.eq_nil_of_length_eq_zero this) h
  · exact h0
theorem word_digit {s : ByteArray} (h : 0 < s.size) (hd : digitB s[0].toNat = true) : wordB s = false := by
  have hg := get_at s 0 h
  unfold wordB
  generalize s.data.toList = l at *
  cases l with
  | nil => rfl
  | cons c t =>
    simp only [List.getElem?_cons_zero, Option.some.injEq] at hg
    rw [wordL_cons, hg, hd]; simp
theorem word_yes {s : ByteArray} (h : 0 < s.size) (h4 : s.size ≤ 40) (hd : digitB s[0].toNat = false) (ha : ∀ j (hj : j < s.size), okc s[j].toNat = true) : wordB s = true := by
  have hg := get_at s 0 h
  have hl : s.data.toList.length = s.size := Array.length_toList
  have hall : ∀ j (hj : j < s.data.toList.length), okc (s.data.toList[j]).toNat = true := fun j hj => by
    have hj' : j < s.size := by omega
    have e := get_at s j hj'
    rw [List.getElem?_eq_getElem hj] at e
    simp only [Option.some.injEq] at e
    rw [e]; exact ha j hj'
  unfold wordB
  generalize s.data.toList = l at *
  cases l with
  | nil => simp at hl; omega
  | cons c t =>
    simp only [List.getElem?_cons_zero, Option.some.injEq] at hg
    exact word_all (by omega) (by rw [hg]; exact hd) hall
theorem word_no {s : ByteArray} {j : Nat} (hj : j < s.size) (hb : okc s[j].toNat = false) : wordB s = false := by
  have e := get_at s j hj
  have hj' : j < s.data.toList.length := by simpa using hj
  rw [List.getElem?_eq_getElem hj'] at e
  simp only [Option.some.injEq] at e
  exact word_cut hj' (by rw [e]; exact hb)
theorem ivs (n : Nat) (h : n < 256) : (0 ≤ n ∧ n ≤ 47) ∨ (48 ≤ n ∧ n ≤ 57) ∨ (58 ≤ n ∧ n ≤ 64) ∨ (65 ≤ n ∧ n ≤ 90) ∨ (91 ≤ n ∧ n ≤ 94) ∨ (95 ≤ n ∧ n ≤ 95) ∨ (96 ≤ n ∧ n ≤ 96) ∨ (97 ≤ n ∧ n ≤ 122) ∨ (123 ≤ n ∧ n ≤ 255) := by omega
set_option maxHeartbeats 2000000 in
theorem rword_any (s : ByteArray) (w : World) : Calls Tryz.prog 37 #[.string s] w fun e w' => e = .returned (.bool (wordB s)) ∧ w = w' := by
  by_cases h0 : s.toList = []
  · rw [word_nil h0]
    have b0 : (s.toList == []) = true := by simp [h0]
    clear h0
    go_enter Tryz.func37, Tryz.ntmps37
    go_wp2_with fail
    go_ret
    exact ⟨rfl, rfl⟩
  have b0 : (s.toList == []) = false := by simp [h0]
  have hp := size_pos h0
  clear h0
  have ip : (0 : Int) < (s.size : Int) := by omega
  by_cases h40 : 40 < s.size
  · rw [word_long h40]
    have i40 : (40 : Int) < (s.size : Int) := by omega
    go_enter Tryz.func37, Tryz.ntmps37
    go_wp2_with fail
    go_ret
    exact ⟨rfl, rfl⟩
  have i40 : ¬ (40 : Int) < (s.size : Int) := by omega
  have H0 := Lib.hid (fun h => word_digit (s := s) hp h)
  have HY := Lib.hid (fun h => word_yes (s := s) hp (by omega) h)
  generalize hn : s[0].toNat = n at *
  by_cases hd : digitB n = true
  · rw [H0.out hd]
    have hd' : 48 ≤ n ∧ n ≤ 57 := by unfold digitB at hd; simpa using hd
    have j1 : (48 : Int) ≤ (n : Int) := by omega
    have j2 : (n : Int) ≤ 57 := by omega
    clear hd hd' HY H0
    go_enter Tryz.func37, Tryz.ntmps37
    go_wp2_with fail
    all_goals (go_ret; exact ⟨rfl, rfl⟩)
  have hd2 : digitB n = false := by simpa using hd
  have HY2 := Lib.hid (HY.out hd2)
  have hd' : ¬ (48 ≤ n ∧ n ≤ 57) := by unfold digitB at hd2; simpa using hd2
  have hc : ((48 : Int) ≤ (n : Int) ∧ ¬ (n : Int) ≤ 57) ∨ ¬ ((48 : Int) ≤ (n : Int)) := by omega
  clear hd hd2 hd' HY H0
  rcases hc with ⟨j1, j2⟩ | j1
  all_goals
    go_enter Tryz.func37, Tryz.ntmps37
    go_wp2_with fail
    go_loopg [3, 4] s.size (fun g s3 s4 wr => ∃ i : Nat, g + i = s.size ∧ s3 = .int .i64 i ∧ (∀ j (hj : j < s.size), j < i → okc s[j].toNat = true) ∧ wr = w)
    case atStart => exact ⟨0, rfl, rfl, fun j _ h => absurd h (Nat.not_lt_zero _), rfl⟩
    case round =>
      obtain ⟨i, hg, rfl, hz, rfl⟩ := hrel
      have HZ := Lib.hid hz
      clear hz
      by_cases hlt : i < s.size
      · have ii : (i : Int) < (s.size : Int) := by omega
        have HN := Lib.hid (fun h => word_no (s := s) (j := i) hlt h)
        have HU := Lib.hid (fun (h : okc s[i].toNat = true) (j : Nat) (hj : j < s.size) (hji : j < i + 1) => (show okc s[j].toNat = true by
          by_cases e : j = i
          · subst e; exact h
          · exact HZ.out j hj (by omega)))
        have hb := s[i].toNat_lt
        generalize hm : s[i].toNat = m at *
        clear hn
        rcases ivs m hb with ⟨q1, q2⟩ | ⟨q1, q2⟩ | ⟨q1, q2⟩ | ⟨q1, q2⟩ | ⟨q1, q2⟩ | ⟨q1, q2⟩ | ⟨q1, q2⟩ | ⟨q1, q2⟩ | ⟨q1, q2⟩
        · have e95 : ((m : Int) == 95) = false := by simp; omega
          have d95 : ((m : Int) != 95) = true := by simp; omega
          have l48 : (m : Int) < 48 := by omega
          have l65 : (m : Int) < 65 := by omega
          have l97 : (m : Int) < 97 := by omega
          have g57 : ¬ ((57 : Int) < (m : Int)) := by omega
          have g90 : ¬ ((90 : Int) < (m : Int)) := by omega
          have g122 : ¬ ((122 : Int) < (m : Int)) := by omega
          have HN2 := Lib.hid (HN.out (by unfold okc; simp; omega))
          clear q1 q2 HU HN
          go_wp2_with fail
          go_ret
          exact ⟨by rw [HN2.out]; rfl, rfl⟩
        · have e95 : ((m : Int) == 95) = false := by simp; omega
          have d95 : ((m : Int) != 95) = true := by simp; omega
          have l48 : ¬ ((m : Int) < 48) := by omega
          have l65 : (m : Int) < 65 := by omega
          have l97 : (m : Int) < 97 := by omega
          have g57 : ¬ ((57 : Int) < (m : Int)) := by omega
          have g90 : ¬ ((90 : Int) < (m : Int)) := by omega
          have g122 : ¬ ((122 : Int) < (m : Int)) := by omega
          have HU2 := Lib.hid (HU.out (by unfold okc; simp; omega))
          clear q1 q2 HU HN
          go_wp2_with fail
          go_roundg (s.size - (i + 1))
          case rel => exact ⟨i + 1, by omega, by go_num, fun j hj hji => HU2.out j hj hji, rfl⟩
          case measure => omega
        · have e95 : ((m : Int) == 95) = false := by simp; omega
          have d95 : ((m : Int) != 95) = true := by simp; omega
          have l48 : ¬ ((m : Int) < 48) := by omega
          have l65 : (m : Int) < 65 := by omega
          have l97 : (m : Int) < 97 := by omega
          have g57 : (57 : Int) < (m : Int) := by omega
          have g90 : ¬ ((90 : Int) < (m : Int)) := by omega
          have g122 : ¬ ((122 : Int) < (m : Int)) := by omega
          have HN2 := Lib.hid (HN.out (by unfold okc; simp; omega))
          clear q1 q2 HU HN
          go_wp2_with fail
          go_ret
          exact ⟨by rw [HN2.out]; rfl, rfl⟩
        · have e95 : ((m : Int) == 95) = false := by simp; omega
          have d95 : ((m : Int) != 95) = true := by simp; omega
          have l48 : ¬ ((m : Int) < 48) := by omega
          have l65 : ¬ ((m : Int) < 65) := by omega
          have l97 : (m : Int) < 97 := by omega
          have g57 : (57 : Int) < (m : Int) := by omega
          have g90 : ¬ ((90 : Int) < (m : Int)) := by omega
          have g122 : ¬ ((122 : Int) < (m : Int)) := by omega
          have HU2 := Lib.hid (HU.out (by unfold okc; simp; omega))
          clear q1 q2 HU HN
          go_wp2_with fail
          go_roundg (s.size - (i + 1))
          case rel => exact ⟨i + 1, by omega, by go_num, fun j hj hji => HU2.out j hj hji, rfl⟩
          case measure => omega
        · have e95 : ((m : Int) == 95) = false := by simp; omega
          have d95 : ((m : Int) != 95) = true := by simp; omega
          have l48 : ¬ ((m : Int) < 48) := by omega
          have l65 : ¬ ((m : Int) < 65) := by omega
          have l97 : (m : Int) < 97 := by omega
          have g57 : (57 : Int) < (m : Int) := by omega
          have g90 : (90 : Int) < (m : Int) := by omega
          have g122 : ¬ ((122 : Int) < (m : Int)) := by omega
          have HN2 := Lib.hid (HN.out (by unfold okc; simp; omega))
          clear q1 q2 HU HN
          go_wp2_with fail
          go_ret
          exact ⟨by rw [HN2.out]; rfl, rfl⟩
        · have e95 : ((m : Int) == 95) = true := by simp; omega
          have d95 : ((m : Int) != 95) = false := by simp; omega
          have l48 : ¬ ((m : Int) < 48) := by omega
          have l65 : ¬ ((m : Int) < 65) := by omega
          have l97 : (m : Int) < 97 := by omega
          have g57 : (57 : Int) < (m : Int) := by omega
          have g90 : (90 : Int) < (m : Int) := by omega
          have g122 : ¬ ((122 : Int) < (m : Int)) := by omega
          have HU2 := Lib.hid (HU.out (by unfold okc; simp; omega))
          clear q1 q2 HU HN
          go_wp2_with fail
          go_roundg (s.size - (i + 1))
          case rel => exact ⟨i + 1, by omega, by go_num, fun j hj hji => HU2.out j hj hji, rfl⟩
          case measure => omega
        · have e95 : ((m : Int) == 95) = false := by simp; omega
          have d95 : ((m : Int) != 95) = true := by simp; omega
          have l48 : ¬ ((m : Int) < 48) := by omega
          have l65 : ¬ ((m : Int) < 65) := by omega
          have l97 : (m : Int) < 97 := by omega
          have g57 : (57 : Int) < (m : Int) := by omega
          have g90 : (90 : Int) < (m : Int) := by omega
          have g122 : ¬ ((122 : Int) < (m : Int)) := by omega
          have HN2 := Lib.hid (HN.out (by unfold okc; simp; omega))
          clear q1 q2 HU HN
          go_wp2_with fail
          go_ret
          exact ⟨by rw [HN2.out]; rfl, rfl⟩
        · have e95 : ((m : Int) == 95) = false := by simp; omega
          have d95 : ((m : Int) != 95) = true := by simp; omega
          have l48 : ¬ ((m : Int) < 48) := by omega
          have l65 : ¬ ((m : Int) < 65) := by omega
          have l97 : ¬ ((m : Int) < 97) := by omega
          have g57 : (57 : Int) < (m : Int) := by omega
          have g90 : (90 : Int) < (m : Int) := by omega
          have g122 : ¬ ((122 : Int) < (m : Int)) := by omega
          have HU2 := Lib.hid (HU.out (by unfold okc; simp; omega))
          clear q1 q2 HU HN
          go_wp2_with fail
          go_roundg (s.size - (i + 1))
          case rel => exact ⟨i + 1, by omega, by go_num, fun j hj hji => HU2.out j hj hji, rfl⟩
          case measure => omega
        · have e95 : ((m : Int) == 95) = false := by simp; omega
          have d95 : ((m : Int) != 95) = true := by simp; omega
          have l48 : ¬ ((m : Int) < 48) := by omega
          have l65 : ¬ ((m : Int) < 65) := by omega
          have l97 : ¬ ((m : Int) < 97) := by omega
          have g57 : (57 : Int) < (m : Int) := by omega
          have g90 : (90 : Int) < (m : Int) := by omega
          have g122 : (122 : Int) < (m : Int) := by omega
          have HN2 := Lib.hid (HN.out (by unfold okc; simp; omega))
          clear q1 q2 HU HN
          go_wp2_with fail
          go_ret
          exact ⟨by rw [HN2.out]; rfl, rfl⟩
      · obtain rfl : s.size = i := by omega
        have ii : ¬ ((s.size : Int) < (s.size : Int)) := by omega
        have HW := Lib.hid (HY2.out (fun j hj => HZ.out j hj hj))
        clear hn
        go_wp2_with fail
        go_ret
        exact ⟨by rw [HW.out]; rfl, rfl⟩
def encS : Enc ByteArray 1 where
  enc s := [.string s]
  len s := rfl
  one s u hu := by
    have : u = .string s := by simpa using hu
    rw [this]; rfl
theorem info_str : (Tryz.prog.info? 9).map (fun i => (i.zero, i.size, i.bytes)) = some (some (.string ⟨#[]⟩), 1, 16) := by kernel_rfl
abbrev OwS := Ow encS 9
abbrev RwS := Rw encS
abbrev By := List UInt8
/-- each less than all behind it -/
def Rising (l : List By) : Prop := l.Pairwise fun a b => Op.bytesLess a b = true
/-- a text's bytes -/
abbrev byt (s : ByteArray) : By := s.data.toList
theorem byt_inj {a b : ByteArray} (h : byt a = byt b) : a = b := by
  have e : b = ⟨b.data.toList.toArray⟩ := by simp
  rw [e]; exact bytes_eq h
theorem tl_byt (a : ByteArray) : a.toList = byt a := Lib.toList_data a
theorem map_byt_inj {l m : List ByteArray} (h : l.map byt = m.map byt) : l = m := by
  induction l generalizing m with
  | nil => cases m with
    | nil => rfl
    | cons y m => simp at h
  | cons x l ih => cases m with
    | nil => simp at h
    | cons y m =>
      rw [List.map_cons, List.map_cons, List.cons.injEq] at h
      rw [byt_inj h.1, ih h.2]
/-- the same texts, in the same order -/
def sameB (l m : List ByteArray) : Bool := decide (l.map byt = m.map byt)
theorem sameB_iff (l m : List ByteArray) : sameB l m = true ↔ l = m := by
  unfold sameB
  rw [decide_eq_true_eq]
  exact ⟨map_byt_inj, fun h => by rw [h]⟩
theorem zs_str : (Value.string ⟨#[]⟩).cells.size = 1 := rfl
theorem one_pos : 0 < 1 := Nat.one_pos
theorem b16 : 16 ≤ 10000 := by decide
theorem one_at (w : World) (x : ByteArray) : (w.alloc (.cells #[.string x] 9)).drew.cell? ⟨w.heap.size, 0, none⟩ = some (.string x) := by simp
theorem one_rw {w : World} {x : ByteArray} {g : Nat} (hc : w.cell? ⟨g, 0, none⟩ = some (.string x)) : RwS w (.slice (some ⟨g, 0, none⟩) 1 1) [x] :=
  ⟨some ⟨g, 0, none⟩, 1, rfl, Nat.le_refl _, by simp [maxLen], fun h => (by cases h), fun i hi => ⟨g, 0, rfl, fun j hj => by
    have : i = 0 := by simpa using hi
    subst this
    match j, hj with
    | 0, _ => simpa [encS] using hc⟩⟩
theorem one_new (w : World) (x : ByteArray) : RwS (w.alloc (.cells #[.string x] 9)) (.slice (some ⟨w.heap.size, 0, none⟩) 1 1) [x] := one_rw (by simp)
end Go.Proofs.YtainigcchlgehaaGreatDoor



