import Derived.Test.YtlnmjbheohkanaaKH
namespace Go.Proofs.Ytlnmjbheohkanaa
open Go Go.RowKit
set_option linter.unusedVariables false
theorem cfW (s : ByteArray) (w : World) : (callFunc 17 #[.string s]).run Try.prog w = .ok (.enter 17 #[.string s]) w := by
  go_simp
theorem cfN (s : ByteArray) (w : World) : (callFunc 41 #[.string s]).run Try.prog w = .ok (.enter 41 #[.string s]) w := by
  go_simp
theorem its4 : Its 4 17 0 (.func (.func 42) #[] #[]) := ⟨fun g w h => look_t4 g w h, rfl, cfW⟩
theorem its5 : Its 5 41 0 (.func (.func 44) #[] #[]) := ⟨fun g w h => look_t5 g w h, rfl, cfN⟩
theorem its6 : Its 6 41 1 (.func (.func 45) #[] #[]) := ⟨fun g w h => look_t6 g w h, rfl, cfN⟩
theorem its7 : Its 7 41 2 (.func (.func 46) #[] #[]) := ⟨fun g w h => look_t7 g w h, rfl, cfN⟩
theorem its8 : Its 8 41 2 (.func (.func 47) #[] #[]) := ⟨fun g w h => look_t8 g w h, rfl, cfN⟩
theorem lterm_low (kind : Int) (nf K : Nat) (hf : Value) (H : Its kind nf K hf) (g : Nat) (nm : ByteArray) (v : Vl) (ao : Option Addr) (L cap : Nat) (n : Int) (n1 : n < 1) (w : World) (hT : Tb w g) :
    Calls Try.prog 38 #[.map (some g), .agg #[.int .i64 kind, .string nm, .int .i64 v.k, .int .i64 v.n, .float .f64 v.f, .string v.s, .slice ao L cap], .int .i64 n] w fun e w' => e = .returned (.bool false) ∧ Below w.heap.size w w' := by
  have hsf := run_store_float
  have hsv := fun a m w => run_store Try.prog w a hf m H.one
  have hsn := fun a m w => run_store Try.prog w a (.func (.func nf) #[] #[]) m rfl
  have c0 := below_a1 w (bxc kind nm v ao L cap)
  have HLk := H.look g _ (hT.keep c0)
  have c2 : Below w.heap.size w ((w.alloc (bxc kind nm v ao L cap)).alloc (itc nf K hf)) := bl_al c0
  clear H hT
  simp only [bxc, itc] at *
  go_enter Try.func38, Try.ntmps38
  go_wp2_with fail
  go_ret
  exact ⟨rfl, c2⟩
theorem lterm_miss (kind : Int) (h4 : (kind == 4) = false) (h5 : (kind == 5) = false) (h6 : (kind == 6) = false) (h7 : (kind == 7) = false) (h8 : (kind == 8) = false) (g : Nat) (nm : ByteArray) (v : Vl) (ao : Option Addr) (L cap : Nat) (n : Int) (w : World) (hT : Tb w g) :
    Calls Try.prog 38 #[.map (some g), .agg #[.int .i64 kind, .string nm, .int .i64 v.k, .int .i64 v.n, .float .f64 v.f, .string v.s, .slice ao L cap], .int .i64 n] w fun e w' => e = .returned (.bool false) ∧ Below w.heap.size w w' := by
  have hsn := fun a m w => run_store Try.prog w a .nilFunc m rfl
  have c0 := below_a1 w (bxc kind nm v ao L cap)
  have HLk := look_t0 g _ (hT.keep c0) kind h4 h5 h6 h7 h8
  have c2 : Below w.heap.size w ((w.alloc (bxc kind nm v ao L cap)).alloc (.cells #[.nilFunc, .int .i64 0, .nilFunc] 59)) := bl_al c0
  clear hT h4 h5 h6 h7 h8
  simp only [bxc] at *
  go_enter Try.func38, Try.ntmps38
  go_wp2_with fail
  go_ret
  exact ⟨rfl, c2⟩
theorem lword_below (nm : ByteArray) : ∀ w, Calls Try.prog 17 #[.string nm] w fun e w' => e = .returned (.bool (wordB nm)) ∧ Below w.heap.size w w' := lword_any nm
theorem nameless_below (nm : ByteArray) : ∀ w, Calls Try.prog 41 #[.string nm] w fun e w' => e = .returned (.bool (nm.toList == [])) ∧ Below w.heap.size w w' := fun w => (nameless_any nm w).mono fun e w' h => by
  obtain ⟨rfl, rfl⟩ := h
  exact ⟨rfl, Below.refl _ _⟩
theorem lterm_any (g : Nat) : ∀ (t : Ex) (x : Xc) (n : Int) (w : World), 0 ≤ n → n ≤ 50 → Tb w g → Tx w t x →
    Calls Try.prog 38 #[.map (some g), xv x, .int .i64 n] w fun e w' => e = .returned (.bool (termE n t)) ∧ Below w.heap.size w w' := by
  refine fun t => ex_ind (P := fun t => ∀ (x : Xc) (n : Int) (w : World), 0 ≤ n → n ≤ 50 → Tb w g → Tx w t x → Calls Try.prog 38 #[.map (some g), xv x, .int .i64 n] w fun e w' => e = .returned (.bool (termE n t)) ∧ Below w.heap.size w w') ?_ t
  intro kind name v kids ih x n w n0 n2 hT h
  obtain ⟨rfl, rfl, rfl, hv, xs, hr, hk⟩ := Tx.inv h
  have hL : kids.length = x.len := by
    obtain ⟨a, c, e, -⟩ := hr
    simp only [Value.slice.injEq] at e
    exact hk.1.trans e.2.1.symm
  have fin : ∀ {a b : Bool} {e : Ending} {w' : World}, a = b → (e = .returned (.bool a) ∧ Below w.heap.size w w') → e = .returned (.bool b) ∧ Below w.heap.size w w' := fun h hh => h ▸ hh
  have go : ∀ (nf K : Nat) (hf : Value) (H : Its x.kind nf K hf) (nb : Bool) (C : ∀ w, Calls Try.prog nf #[.string x.name] w fun e w' => e = .returned (.bool nb) ∧ Below w.heap.size w w'), nb = nameOk x.kind x.name → (K : Int) = kidsN x.kind →
      Calls Try.prog 38 #[.map (some g), xv x, .int .i64 n] w fun e w' => e = .returned (.bool (termE n (.node x.kind x.name x.v kids))) ∧ Below w.heap.size w w' := by
    intro nf K hf H nb C hnb hK
    by_cases hn : n < 1
    · rw [termE_low n _ hn]
      exact lterm_low x.kind nf K hf H g x.name x.v x.ao x.len x.cap n hn w hT
    have n1 : 1 ≤ n := by omega
    rw [termE_node n _ _ _ _ n1]
    have IH := fun t (ht : t ∈ kids) (x : Xc) (w : World) (hTb : Tb w g) (hT : Tx w t x) => ih t ht x (n - 1) w (by omega) (by omega) hTb hT
    refine (lterm_core x.kind nf K hf H g x.name x.v hv x.ao x.len x.cap n n1 n2 nb _ _ _ rfl rfl C w hT kids xs hL rfl hr hk IH).mono fun e w' hh => fin ?_ hh
    rw [hnb, ← hK, ← hL]
    rw [Bool.eq_iff_iff]
    simp
  by_cases k4 : x.kind = 4
  · have H := its4
    rw [← k4] at H
    exact go _ _ _ H _ (lword_below x.name) (by unfold nameOk; rw [if_pos k4]) (by rw [k4]; rfl)
  have hno : (x.name.toList == []) = nameOk x.kind x.name := by unfold nameOk; rw [if_neg k4, Bool.eq_iff_iff]; simp
  by_cases k5 : x.kind = 5
  · have H := its5
    rw [← k5] at H
    exact go _ _ _ H _ (nameless_below x.name) hno (by rw [k5]; rfl)
  by_cases k6 : x.kind = 6
  · have H := its6
    rw [← k6] at H
    exact go _ _ _ H _ (nameless_below x.name) hno (by rw [k6]; rfl)
  by_cases k7 : x.kind = 7
  · have H := its7
    rw [← k7] at H
    exact go _ _ _ H _ (nameless_below x.name) hno (by rw [k7]; rfl)
  by_cases k8 : x.kind = 8
  · have H := its8
    rw [← k8] at H
    exact go _ _ _ H _ (nameless_below x.name) hno (by rw [k8]; rfl)
  refine (lterm_miss x.kind (by simp [k4]) (by simp [k5]) (by simp [k6]) (by simp [k7]) (by simp [k8]) g x.name x.v x.ao x.len x.cap n w hT).mono fun e w' hh => fin ?_ hh
  by_cases hn : n < 1
  · rw [termE_low n _ hn]
  rw [termE_node n _ _ _ _ (by omega)]
  have e1 : kidsN x.kind = -1 := by unfold kidsN; rw [if_neg (by simp [k4, k5]), if_neg k6, if_neg (by simp [k7, k8])]
  rw [e1]
  have e3 : decide ((kids.length : Int) = -1) = false := by simp
  rw [e3]; simp
theorem lright_0 (x : Xc) (hk : (x.kind == 0) = true) (hv : x.v.Ok) (w : World) : Calls Try.prog 19 #[xv x] w fun e w' => e = .returned (.bool ((x.name.toList == []) && (((x.len : Int) == 0) && x.v.nought))) ∧ Below w.heap.size w w' := by
  have c0 := below_a1 w (.cells (xcs x) 28)
  have Lz := Lib.hid (lies7_new w x 28 (xcs x) rfl)
  have C := Lib.hid (lnothing_any x.v hv)
  clear hv
  generalize x.v.nought = vb at *
  generalize hn : (x.name.toList == []) = nb at *
  generalize hl : ((x.len : Int) == 0) = lb at *
  cases nb
  · go_enter Try.func19, Try.ntmps19
    go_wp2_with fail
    go_ret
    exact ⟨rfl, c0⟩
  cases lb
  · go_enter Try.func19, Try.ntmps19
    go_wp2_with fail
    go_ret
    exact ⟨rfl, c0⟩
  · go_enter Try.func19, Try.ntmps19
    go_wp2_with fail
    (with_reducible refine (C.out _).mono ?_); rintro e w2 ⟨rfl, hb2⟩
    go_wp2_with fail
    go_ret
    exact ⟨rfl, Below.chain c0 hb2⟩
theorem terms_tb (w : World) : Calls Try.prog 29 #[] w fun e w' => ∃ g, e = .returned (.map (some g)) ∧ Tb w' g ∧ Below w.heap.size w w' := (terms_any w).mono fun e w' h => by
  obtain ⟨rfl, rfl⟩ := h
  exact ⟨_, rfl, Tb.new w, below_a1 _ _⟩
/-- a variable's seven cells -/
abbrev C7 (W : World) (b : Nat) (x : Xc) : Prop := W.cell? ⟨b, 0, none⟩ = some (.int .i64 x.kind) ∧ W.cell? ⟨b, 1, none⟩ = some (.string x.name) ∧ W.cell? ⟨b, 2, none⟩ = some (.int .i64 x.v.k) ∧ W.cell? ⟨b, 3, none⟩ = some (.int .i64 x.v.n) ∧ W.cell? ⟨b, 4, none⟩ = some (.float .f64 x.v.f) ∧ W.cell? ⟨b, 5, none⟩ = some (.string x.v.s) ∧ W.cell? ⟨b, 6, none⟩ = some (.slice x.ao x.len x.cap)
theorem lright_1 (x : Xc) (hk : (x.kind == 0) = false) (b : Bool) (w : World) (C : ∀ w1 g, Below w.heap.size w w1 → Tb w1 g → Calls Try.prog 38 #[.map (some g), xv x, .int .i64 50] w1 fun e w' => e = .returned (.bool b) ∧ Below w1.heap.size w1 w') : Calls Try.prog 19 #[xv x] w fun e w' => e = .returned (.bool b) ∧ Below w.heap.size w w' := by
  have c0 := below_a1 w (.cells (xcs x) 28)
  have Lz := lies7_new w x 28 (xcs x) rfl
  have S0 : ∀ W, Below (w.alloc (.cells (xcs x) 28)).heap.size (w.alloc (.cells (xcs x) 28)) W → C7 W w.heap.size x := fun W h => (Lz.keep h).at
  have HS := Lib.hid S0
  have D1 := Lib.hid fun w2 g (hb : Below (w.alloc (.cells (xcs x) 28)).heap.size (w.alloc (.cells (xcs x) 28)) w2) (h : Tb w2 g) => C w2 g (Below.chain c0 hb) h
  have HT := Lib.hid terms_tb
  clear C Lz S0
  go_enter Try.func19, Try.ntmps19
  go_wp2_with fail
  go_region_held3 (fun W => W.cell? ⟨w.heap.size, 0, none⟩ = some (.int .i64 x.kind) ∧ W.cell? ⟨w.heap.size, 1, none⟩ = some (.string x.name) ∧ W.cell? ⟨w.heap.size, 2, none⟩ = some (.int .i64 x.v.k) ∧ W.cell? ⟨w.heap.size, 3, none⟩ = some (.int .i64 x.v.n) ∧ W.cell? ⟨w.heap.size, 4, none⟩ = some (.float .f64 x.v.f) ∧ W.cell? ⟨w.heap.size, 5, none⟩ = some (.string x.v.s) ∧ W.cell? ⟨w.heap.size, 6, none⟩ = some (.slice x.ao x.len x.cap))
    (first | exact HS.out _ (Below.refl _ _).drew | exact HS.out _ hch | exact HS.out _ hcu)
    (first
      | ((with_reducible refine (HT.out _).mono ?_); rintro e wt ⟨g, rfl, hTt, hbt⟩; have hch := Below.chain (Below.refl _ _).drew hbt)
      | ((with_reducible refine (D1.out _ _ hch hTt).mono ?_); rintro e wu ⟨rfl, hbu⟩; have hcu := Below.chain hch hbu))
  all_goals
    go_wp2_with fail
    go_ret
    exact ⟨rfl, Below.chain c0 (Below.chain hch hbu)⟩
theorem lright_any (t : Ex) (x : Xc) (w : World) (h : Tx w t x) : Calls Try.prog 19 #[xv x] w fun e w' => e = .returned (.bool (rightL t)) ∧ Below w.heap.size w w' := by
  have C := fun w1 g (hb : Below w.heap.size w w1) (hT : Tb w1 g) => lterm_any g t x 50 w1 (by decide) (by decide) hT (h.keep hb)
  cases t with
  | node kind name v kids =>
    obtain ⟨rfl, rfl, rfl, hv, xs, hr, hk⟩ := Tx.inv h
    have hL : kids.length = x.len := by
      obtain ⟨a, c, e, -⟩ := hr
      simp only [Value.slice.injEq] at e
      exact hk.1.trans e.2.1.symm
    rw [rightL]
    by_cases h0 : x.kind = 0
    · rw [if_pos h0, hL]
      refine (lright_0 x (by simp [h0]) hv w).mono fun e w' hh => ret_bool' ?_ hh
      rw [Bool.eq_iff_iff]
      simp
      grind
    · rw [if_neg h0]
      exact lright_1 x (by simp [h0]) _ w C
end Go.Proofs.Ytlnmjbheohkanaa
