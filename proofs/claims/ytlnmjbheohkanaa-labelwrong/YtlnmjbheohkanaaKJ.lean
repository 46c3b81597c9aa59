import Derived.Test.YtlnmjbheohkanaaKI
namespace Go.Proofs.Ytlnmjbheohkanaa
open Go Go.RowKit
set_option linter.unusedVariables false
/-- only p, and the block in which v lies, may have turned -/
structure Kept (B p : Nat) (w : World) (v : Value) (w' : World) (v' : Value) : Prop where
  below : Below B w w'
  old : ∀ b, b < w.heap.size → b ≠ p → v.ownBlock ≠ some b → w'.heap[b]? = w.heap[b]?
  own : ∀ k, v'.ownBlock = some k → v.ownBlock = some k ∨ w.heap.size ≤ k
theorem Kept.refl (B p : Nat) (w : World) (v : Value) : Kept B p w v w v := ⟨Below.refl _ _, fun _ _ _ _ => rfl, fun _ h => .inl h⟩
theorem Kept.trans {B p : Nat} {w w1 w2 : World} {v v1 v2 : Value} (h : Kept B p w v w1 v1) (k : Kept B p w1 v1 w2 v2) : Kept B p w v w2 v2 := by
  refine ⟨h.below.trans k.below, fun b hb hp hv => ?_, fun j hj => ?_⟩
  · rw [k.old b (Nat.lt_of_lt_of_le hb h.below.size) hp (fun e => ?_), h.old b hb hp hv]
    rcases h.own b e with e | e
    · exact hv e
    · omega
  · rcases k.own j hj with e | e
    · exact h.own j e
    · exact .inr (Nat.le_trans h.below.size e)
theorem Kept.al {B p : Nat} {w : World} {v : Value} (hB : B ≤ w.heap.size) (o : Obj) : Kept B p w v (w.alloc o) v :=
  ⟨(Below.refl _ _).alloc hB o, fun b hb _ _ => (below_a1 w o).block b hb, fun _ h => .inl h⟩
theorem Kept.grow {B p : Nat} {w w' : World} {v v' : Value} {l : List ByteArray} (hB : B ≤ w.heap.size) (hO : OwS w B v l) (hg : w.grownBy w' v.ownBlock) (ha : v'.ownBlock = v.ownBlock ∨ v'.ownBlock = some w.heap.size) : Kept B p w v w' v' := by
  refine ⟨(Below.refl _ _).grown hg hB hO.row, fun b hb _ hv => hg.block b hb (fun e => hv e.symm), fun k hk => ?_⟩
  rcases ha with e | e
  · exact .inl (e ▸ hk)
  · right
    rw [e] at hk
    simp at hk; omega
theorem Kept.set {B p : Nat} {w : World} {v : Value} (hB : B ≤ p) (u : Value) : Kept B p w v (w.setCell ⟨p, 0, none⟩ u) v := by
  refine ⟨(Below.refl _ _).setCell hB u, fun b _ hp _ => ?_, fun _ h => .inl h⟩
  simp only [World.setCell, Array.getElem?_modify]
  rw [if_neg (fun e => hp e.symm)]
theorem Kept.vr {B p : Nat} {w w' : World} {v v' : Value} (h : Kept B p w v w' v') {b : Nat} {e : TypeId} {cs : Array Value} (k : Vr w b e cs) (hp : b ≠ p) (hv : v.ownBlock ≠ some b) : Vr w' b e cs := (h.old b k.lt hp hv).trans k
theorem Vr.set1 {w : World} {b : Nat} {e : TypeId} {u : Value} (h : Vr w b e #[u]) (u' : Value) : Vr (w.setCell ⟨b, 0, none⟩ u') b e #[u'] := by
  have h' : w.heap[b]? = some (.cells #[u] e (0, 0)) := h
  unfold Vr
  simp [World.setCell, Array.getElem?_modify, h']
theorem Kept.lies {B p : Nat} {w w' : World} {v v' : Value} (h : Kept B p w v w' v') {b : Nat} {x : Xc} (k : Lies7 w b x) (hp : b ≠ p) (hv : v.ownBlock ≠ some b) : Lies7 w' b x := fun j hj => by
  have := h.old b k.lt hp hv
  rw [← k j hj]
  simp only [World.cell?, this]
theorem OwS.far {w : World} {B : Nat} {v : Value} {l : List ByteArray} (h : OwS w B v l) {b : Nat} (hb : w.heap.size ≤ b) : v.ownBlock ≠ some b := fun e => by
  have := (World.ownsRow.lt h b e).2
  omega
theorem shape3 {w : World} {B : Nat} {v : Value} {l : List ByteArray} (h : OwS w B v l) : ∃ ao n cap, v = .slice ao n cap := let ⟨ao, cap, e⟩ := h.shape; ⟨ao, _, cap, e⟩
theorem namesT_len : ∀ t : Ex, (namesT t).length ≤ t.sz := by
  have aux : ∀ l : List Ex, (∀ t ∈ l, (namesT t).length ≤ t.sz) → (namesTL l).length ≤ szL l := by
    intro l
    induction l with
    | nil => intro _; rw [namesTL, szL]; exact Nat.le_refl _
    | cons x l ih =>
      intro h
      rw [namesTL, szL, List.length_append]
      have := h x (by simp)
      have := ih (fun t ht => h t (by simp [ht]))
      omega
  refine ex_ind fun kind name v kids ih => ?_
  rw [namesT, Ex.sz, List.length_append]
  have := aux kids ih
  have : (if kind = 4 then [name] else []).length ≤ 1 := by split <;> simp
  omega
theorem namesTL_part (l : List Ex) (i : Nat) : (namesTL (l.take i)).length ≤ (namesTL l).length := by
  have := namesTL_app (l.take i) (l.drop i)
  rw [List.take_append_drop] at this
  rw [this, List.length_append]; omega
set_option maxHeartbeats 4000000 in
theorem gather_o (kind : Int) (hkb : (kind == 4) = false) (nm : ByteArray) (vl : Vl) (ao : Option Addr) (L cap : Nat) (kids : List Ex) (xs : List Xc) (w0 w : World) (p q : Nat) (v : Value) (l : List ByteArray) (hL : kids.length = L) (hr : RwX w0 (.slice ao L cap) xs) (hk : Txs w0 kids xs) (hp0 : w0.heap.size ≤ p) (hqp : q ≠ p) (hn : (l ++ namesTL kids).length ≤ 1000)
    (hB : Below w0.heap.size w0 w) (hO : OwS w w0.heap.size v l) (hP : Vr w p 22 #[v]) (hQ : Vr w q 51 #[.func (.func 31) #[] #[.pointer (some ⟨p, 0, none⟩), .pointer (some ⟨q, 0, none⟩)]]) (hvp : v.ownBlock ≠ some p) (hvq : v.ownBlock ≠ some q)
    (ih : ∀ t ∈ kids, ∀ (x : Xc) (w : World) (v : Value) (l : List ByteArray), Tx w0 t x → Below w0.heap.size w0 w → OwS w w0.heap.size v l → Vr w p 22 #[v] → Vr w q 51 #[.func (.func 31) #[] #[.pointer (some ⟨p, 0, none⟩), .pointer (some ⟨q, 0, none⟩)]] → v.ownBlock ≠ some p → v.ownBlock ≠ some q → (l ++ namesT t).length ≤ 1000 →
      Calls Try.prog 31 #[xv x, .pointer (some ⟨p, 0, none⟩), .pointer (some ⟨q, 0, none⟩)] w fun e w' => e = .returned (.tuple #[]) ∧ ∃ v', OwS w' w0.heap.size v' (l ++ namesT t) ∧ Vr w' p 22 #[v'] ∧ Kept w0.heap.size p w v w' v') :
    Calls Try.prog 31 #[.agg #[.int .i64 kind, .string nm, .int .i64 vl.k, .int .i64 vl.n, .float .f64 vl.f, .string vl.s, .slice ao L cap], .pointer (some ⟨p, 0, none⟩), .pointer (some ⟨q, 0, none⟩)] w fun e w' => e = .returned (.tuple #[]) ∧ ∃ v', OwS w' w0.heap.size v' (l ++ namesTL kids) ∧ Vr w' p 22 #[v'] ∧ Kept w0.heap.size p w v w' v' := by
  have hsf := run_store_float
  have hwp := hP.lt
  have hwq := hQ.lt
  have c0 := below_a1 w (.cells #[.int .i64 kind, .string nm, .int .i64 vl.k, .int .i64 vl.n, .float .f64 vl.f, .string vl.s, .slice ao L cap] 28)
  have k0 : Kept w0.heap.size p w v (w.alloc (.cells #[.int .i64 kind, .string nm, .int .i64 vl.k, .int .i64 vl.n, .float .f64 vl.f, .string vl.s, .slice ao L cap] 28)) v := Kept.al hB.size _
  have Lz := lies7_new w ⟨kind, nm, vl, ao, L, cap⟩ 28 #[.int .i64 kind, .string nm, .int .i64 vl.k, .int .i64 vl.n, .float .f64 vl.f, .string vl.s, .slice ao L cap] rfl
  have HR := Lib.hid hr
  have HKK := Lib.hid hk
  have IH := Lib.hid ih
  have HL := Lib.hid hL
  have HN := Lib.hid hn
  have hLm : xs.length = L ∧ L ≤ 9223372036854775807 := by obtain ⟨a, c, e, e1, e2, -⟩ := hr; cases e; simp only [maxLen] at e2; exact ⟨rfl, by omega⟩
  have HX := Lib.hid hLm.1
  have hLm2 := hLm.2
  have B1 := Lib.hid (hB.trans k0.below)
  have O1 := Lib.hid (hO.below c0)
  have P1 := Lib.hid (hP.keep c0)
  have Q1 := Lib.hid (hQ.keep c0)
  have K1 := Lib.hid k0
  have LZ := Lib.hid Lz
  have PA := P1
  have QA := Q1
  have KA := K1
  have OA := O1
  have BA := B1
  have hAp := hvp
  have hAq := hvq
  clear hr hk ih hL hn hLm hB hO hP hQ c0 k0 Lz P1 Q1 K1 O1 B1
  go_enter Try.func31, Try.ntmps31
  go_wp2_with fail
  go_loopg [17] L (fun g s17 wr => ∃ (i : Nat) (vi : Value), g + i = L ∧ s17 = .int .i64 i ∧ OwS wr w0.heap.size vi (l ++ namesTL (kids.take i)) ∧ Vr wr p 22 #[vi] ∧ vi.ownBlock ≠ some p ∧ vi.ownBlock ≠ some q ∧ Kept w0.heap.size p (w.alloc (.cells #[.int .i64 kind, .string nm, .int .i64 vl.k, .int .i64 vl.n, .float .f64 vl.f, .string vl.s, .slice ao L cap] 28)) v wr vi)
  case atStart => exact ⟨0, v, rfl, rfl, by rw [List.take_zero, namesTL, List.append_nil]; exact OA.out, PA.out, hAp, hAq, Kept.refl _ _ _ _⟩
  case round =>
    obtain ⟨i, vi, hg, rfl, hOi, hPi, hip, hiq, hK⟩ := hrel
    have hb := BA.out.trans hK.below
    by_cases hlt : i < L
    · have ii : (i : Int) < (L : Int) := by omega
      have hi : i < kids.length := by rw [HL.out]; exact hlt
      have hix : i < xs.length := by rw [HX.out]; exact hlt
      have hRw := HR.out.keep hb
      have hT : Tx w0 kids[i] xs[i] := HKK.out.2 i hi hix
      obtain ⟨ao', cap', he, -, -, -, hc⟩ := hRw
      simp only [Value.slice.injEq] at he
      obtain ⟨rfl, -, rfl⟩ := he
      obtain ⟨b, o, rfl, hcell⟩ := hc i hix
      have z0 := hcell 0 (by decide)
      have z1 := hcell 1 (by decide)
      have z2 := hcell 2 (by decide)
      have z3 := hcell 3 (by decide)
      have z4 := hcell 4 (by decide)
      have z5 := hcell 5 (by decide)
      have z6 := hcell 6 (by decide)
      simp only [encX, List.getElem?_cons_zero, List.getElem?_cons_succ, Nat.add_zero] at z0 z1 z2 z3 z4 z5 z6
      have bk := below_a1 wr (.cells (xcs xs[i]) 28)
      have kk : Kept w0.heap.size p wr vi (wr.alloc (.cells (xcs xs[i]) 28)) vi := Kept.al hb.size _
      have qr := hK.vr QA.out hqp hAq
      have qk := qr.keep bk
      have q0 : (wr.alloc (.cells (xcs xs[i]) 28)).cell? ⟨q, 0, none⟩ = some (.func (.func 31) #[] #[.pointer (some ⟨p, 0, none⟩), .pointer (some ⟨q, 0, none⟩)]) := qk.cell 0
      have q00 : wr.cell? ⟨q, 0, none⟩ = some (.func (.func 31) #[] #[.pointer (some ⟨p, 0, none⟩), .pointer (some ⟨q, 0, none⟩)]) := qr.cell 0
      have hlen : ((l ++ namesTL (kids.take i)) ++ namesT kids[i]).length ≤ 1000 := by
        have e := namesTL_take kids i hi
        rw [List.append_assoc, ← e]
        have := namesTL_part kids (i + 1)
        have := HN.out
        simp only [List.length_append] at *
        omega
      have E := Lib.hid (IH.out _ (List.getElem_mem hi) xs[i] _ vi _ hT (hb.trans kk.below) (hOi.below bk) (hPi.keep bk) qk hip hiq hlen)
      have HF := Lib.hid (namesTL_take kids i hi)
      have HK3 := Lib.hid (And.intro (hK.trans kk) (And.intro (hPi.keep bk) hip))
      have HQ3 := Lib.hid (And.intro (OwS.far (hOi.below bk) (b := q)) (And.intro hiq qk))
      clear hT hc hcell hlen hK hOi hPi bk kk qr
      generalize xs[i] = z at *
      go_wp2_with fail
      (with_reducible refine E.out.mono ?_); rintro e w5 ⟨rfl, v5, hO5, hP5, hK5⟩
      go_wp2_with fail
      go_roundg (L - (i + 1))
      case rel =>
        refine ⟨i + 1, v5, by omega, by go_num, by rw [HF.out, ← List.append_assoc]; exact hO5, hP5, ?_, ?_, HK3.out.1.trans hK5⟩
        · intro e5
          rcases hK5.own p e5 with e | e
          · exact hip e
          · have := HK3.out.2.1.lt; omega
        · intro e5
          rcases hK5.own q e5 with e | e
          · exact hiq e
          · have := HQ3.out.2.2.lt; omega
      case measure => omega
    · obtain rfl : L = i := by omega
      have ii : ¬ ((L : Int) < (L : Int)) := by omega
      have ht : kids.take L = kids := List.take_of_length_le (by rw [HL.out]; exact Nat.le_refl _)
      rw [ht] at hOi
      have HF := Lib.hid (And.intro hOi (And.intro hPi (KA.out.trans hK)))
      clear hOi hPi hK ht
      go_wp2_with fail
      first | go_end0 | refine bodyPost_ret (results_none rfl _ _ _) rfl ?_
      exact ⟨rfl, vi, HF.out.1, HF.out.2.1, HF.out.2.2⟩
set_option maxHeartbeats 4000000 in
theorem gather_4 (nm : ByteArray) (vl : Vl) (ao : Option Addr) (L cap : Nat) (kids : List Ex) (xs : List Xc) (w0 w : World) (p q : Nat) (v : Value) (l : List ByteArray) (hL : kids.length = L) (hr : RwX w0 (.slice ao L cap) xs) (hk : Txs w0 kids xs) (hp0 : w0.heap.size ≤ p) (hqp : q ≠ p) (hn : (l ++ ([nm] ++ namesTL kids)).length ≤ 1000)
    (hB : Below w0.heap.size w0 w) (hO : OwS w w0.heap.size v l) (hP : Vr w p 22 #[v]) (hQ : Vr w q 51 #[.func (.func 31) #[] #[.pointer (some ⟨p, 0, none⟩), .pointer (some ⟨q, 0, none⟩)]]) (hvp : v.ownBlock ≠ some p) (hvq : v.ownBlock ≠ some q)
    (ih : ∀ t ∈ kids, ∀ (x : Xc) (w : World) (v : Value) (l : List ByteArray), Tx w0 t x → Below w0.heap.size w0 w → OwS w w0.heap.size v l → Vr w p 22 #[v] → Vr w q 51 #[.func (.func 31) #[] #[.pointer (some ⟨p, 0, none⟩), .pointer (some ⟨q, 0, none⟩)]] → v.ownBlock ≠ some p → v.ownBlock ≠ some q → (l ++ namesT t).length ≤ 1000 →
      Calls Try.prog 31 #[xv x, .pointer (some ⟨p, 0, none⟩), .pointer (some ⟨q, 0, none⟩)] w fun e w' => e = .returned (.tuple #[]) ∧ ∃ v', OwS w' w0.heap.size v' (l ++ namesT t) ∧ Vr w' p 22 #[v'] ∧ Kept w0.heap.size p w v w' v') :
    Calls Try.prog 31 #[.agg #[.int .i64 4, .string nm, .int .i64 vl.k, .int .i64 vl.n, .float .f64 vl.f, .string vl.s, .slice ao L cap], .pointer (some ⟨p, 0, none⟩), .pointer (some ⟨q, 0, none⟩)] w fun e w' => e = .returned (.tuple #[]) ∧ ∃ v', OwS w' w0.heap.size v' (l ++ ([nm] ++ namesTL kids)) ∧ Vr w' p 22 #[v'] ∧ Kept w0.heap.size p w v w' v' := by
  have hsf := run_store_float
  have hwp := hP.lt
  have hwq := hQ.lt
  have c0 := below_a1 w (.cells #[.int .i64 4, .string nm, .int .i64 vl.k, .int .i64 vl.n, .float .f64 vl.f, .string vl.s, .slice ao L cap] 28)
  have k0 : Kept w0.heap.size p w v (w.alloc (.cells #[.int .i64 4, .string nm, .int .i64 vl.k, .int .i64 vl.n, .float .f64 vl.f, .string vl.s, .slice ao L cap] 28)) v := Kept.al hB.size _
  have Lz := lies7_new w ⟨4, nm, vl, ao, L, cap⟩ 28 #[.int .i64 4, .string nm, .int .i64 vl.k, .int .i64 vl.n, .float .f64 vl.f, .string vl.s, .slice ao L cap] rfl
  have HR := Lib.hid hr
  have HKK := Lib.hid hk
  have IH := Lib.hid ih
  have HL := Lib.hid hL
  have HN := Lib.hid hn
  have hLm : xs.length = L ∧ L ≤ 9223372036854775807 := by obtain ⟨a, c, e, e1, e2, -⟩ := hr; cases e; simp only [maxLen] at e2; exact ⟨rfl, by omega⟩
  have HX := Lib.hid hLm.1
  have hLm2 := hLm.2
  have B1 := Lib.hid (hB.trans k0.below)
  have O1 := Lib.hid (hO.below c0)
  have P1 := Lib.hid (hP.keep c0)
  have Q1 := Lib.hid (hQ.keep c0)
  have K1 := Lib.hid k0
  have LZ := Lib.hid Lz
  have q00 : (w.alloc (.cells #[.int .i64 4, .string nm, .int .i64 vl.k, .int .i64 vl.n, .float .f64 vl.f, .string vl.s, .slice ao L cap] 28)).cell? ⟨p, 0, none⟩ = some v := (hP.keep c0).cell 0
  have O2 := Lib.hid (O1.out.below (below_a1 _ (.cells #[.string nm] 9)))
  have P2 := Lib.hid (P1.out.keep (below_a1 _ (.cells #[.string nm] 9)))
  have Q2 := Lib.hid (Q1.out.keep (below_a1 _ (.cells #[.string nm] 9)))
  have L2 := Lib.hid (Lz.keep (below_a1 _ (.cells #[.string nm] 9)))
  have K2 := Lib.hid (K1.out.trans (Kept.al (v := v) (p := p) B1.out.size (.cells #[.string nm] 9)))
  have NW := Lib.hid ((Ow.lit (E := encS) (e := 9) (w.alloc (.cells #[.int .i64 4, .string nm, .int .i64 vl.k, .int .i64 vl.n, .float .f64 vl.f, .string vl.s, .slice ao L cap] 28)) (w.alloc (.cells #[.int .i64 4, .string nm, .int .i64 vl.k, .int .i64 vl.n, .float .f64 vl.f, .string vl.s, .slice ao L cap] 28)).heap.size [nm] (Nat.le_refl _) (by simp) _ rfl).rw)
  have hsz : (w.alloc (.cells #[.int .i64 4, .string nm, .int .i64 vl.k, .int .i64 vl.n, .float .f64 vl.f, .string vl.s, .slice ao L cap] 28)).heap.size = w.heap.size + 1 := by simp
  have hvw : v.ownBlock ≠ some w.heap.size := OwS.far hO (Nat.le_refl _)
  rw [hsz] at NW
  have LN := Lib.hid (show l.length + [nm].length ≤ 1000000 by have := hn; simp only [List.length_append, List.length_cons, List.length_nil] at *; omega)
  have SB := Lib.hid (show w0.heap.size ≤ ((w.alloc (.cells #[.int .i64 4, .string nm, .int .i64 vl.k, .int .i64 vl.n, .float .f64 vl.f, .string vl.s, .slice ao L cap] 28)).alloc (.cells #[.string nm] 9)).heap.size by have := hB.size; simp; omega)
  have HVS := Lib.hid hvp
  have HVQ := Lib.hid hvq
  have HVW := Lib.hid hvw
  have HB0 := Lib.hid hB
  clear hr hk ih hL hn hLm hB hO c0 k0 Lz hsz hP hQ hvw
  have hpw : p ≠ w.heap.size := by omega
  go_enter Try.func31, Try.ntmps31
  go_wp2_with (at_builtin; refine wpList_append_rw (E := encS) rfl _ _ _ rfl Try.underlying22 info_str rfl (by decide) (by decide) rfl rfl O2.out NW.out LN.out SB.out ?_; intro v3 w3 hO3 hg3 hat3; obtain ⟨ao3, n3, cap3, rfl⟩ := shape3 hO3; have K3 := Lib.hid (Kept.grow (p := p) SB.out O2.out hg3 hat3); have P3 := Lib.hid (P2.out.grown hg3 (fun e => HVS.out e.symm)); have O3 := Lib.hid hO3; have A3 := Lib.hid hat3; have Y3 := Lib.hid (K3.out.lies L2.out (fun e => hpw e.symm) HVW.out); clear hO3 hg3 hat3; have p0 : w3.cell? ⟨p, 0, none⟩ = some v := P3.out.cell 0; have p1 : w3.frozen? ⟨p, 0, none⟩ = false := P3.out.thaw 0; have ⟨y0, y1, y2, y3, y4, y5, y6⟩ := Y3.out.at)
  have hnp : (Value.slice ao3 n3 cap3).ownBlock ≠ some p := fun e => by
    rcases A3.out with a | a
    · exact HVS.out (a ▸ e)
    · rw [a] at e; simp at e; omega
  have hAp := hnp
  have hAq : (Value.slice ao3 n3 cap3).ownBlock ≠ some q := fun e => by
    rcases A3.out with a | a
    · exact HVQ.out (a ▸ e)
    · rw [a] at e; simp at e; omega
  have S3 : Kept w0.heap.size p w3 (.slice ao3 n3 cap3) (w3.setCell ⟨p, 0, none⟩ (.slice ao3 n3 cap3)) (.slice ao3 n3 cap3) := Kept.set hp0 _
  have K4 := (K2.out.trans K3.out).trans S3
  have OA := Lib.hid (show OwS (w3.setCell ⟨p, 0, none⟩ (.slice ao3 n3 cap3)) w0.heap.size (.slice ao3 n3 cap3) (l ++ [nm]) from O3.out.set hnp _)
  have PA := Lib.hid (P3.out.set1 (.slice ao3 n3 cap3))
  have QA := Lib.hid (S3.vr (K3.out.vr Q2.out hqp HVQ.out) hqp hAq)
  have KA := Lib.hid K4
  have BA := Lib.hid (HB0.out.trans K4.below)
  clear hnp S3 K4 p0 p1 y0 y1 y2 y3 y4 y5 y6
  go_loopg [17] L (fun g s17 wr => ∃ (i : Nat) (vi : Value), g + i = L ∧ s17 = .int .i64 i ∧ OwS wr w0.heap.size vi ((l ++ [nm]) ++ namesTL (kids.take i)) ∧ Vr wr p 22 #[vi] ∧ vi.ownBlock ≠ some p ∧ vi.ownBlock ≠ some q ∧ Kept w0.heap.size p (w3.setCell ⟨p, 0, none⟩ (.slice ao3 n3 cap3)) (.slice ao3 n3 cap3) wr vi)
  case atStart => exact ⟨0, (.slice ao3 n3 cap3), rfl, rfl, by rw [List.take_zero, namesTL, List.append_nil]; exact OA.out, PA.out, hAp, hAq, Kept.refl _ _ _ _⟩
  case round =>
    obtain ⟨i, vi, hg, rfl, hOi, hPi, hip, hiq, hK⟩ := hrel
    have hb := BA.out.trans hK.below
    by_cases hlt : i < L
    · have ii : (i : Int) < (L : Int) := by omega
      have hi : i < kids.length := by rw [HL.out]; exact hlt
      have hix : i < xs.length := by rw [HX.out]; exact hlt
      have hRw := HR.out.keep hb
      have hT : Tx w0 kids[i] xs[i] := HKK.out.2 i hi hix
      obtain ⟨ao', cap', he, -, -, -, hc⟩ := hRw
      simp only [Value.slice.injEq] at he
      obtain ⟨rfl, -, rfl⟩ := he
      obtain ⟨b, o, rfl, hcell⟩ := hc i hix
      have z0 := hcell 0 (by decide)
      have z1 := hcell 1 (by decide)
      have z2 := hcell 2 (by decide)
      have z3 := hcell 3 (by decide)
      have z4 := hcell 4 (by decide)
      have z5 := hcell 5 (by decide)
      have z6 := hcell 6 (by decide)
      simp only [encX, List.getElem?_cons_zero, List.getElem?_cons_succ, Nat.add_zero] at z0 z1 z2 z3 z4 z5 z6
      have bk := below_a1 wr (.cells (xcs xs[i]) 28)
      have kk : Kept w0.heap.size p wr vi (wr.alloc (.cells (xcs xs[i]) 28)) vi := Kept.al hb.size _
      have qr := hK.vr QA.out hqp hAq
      have qk := qr.keep bk
      have q0 : (wr.alloc (.cells (xcs xs[i]) 28)).cell? ⟨q, 0, none⟩ = some (.func (.func 31) #[] #[.pointer (some ⟨p, 0, none⟩), .pointer (some ⟨q, 0, none⟩)]) := qk.cell 0
      have q00 : wr.cell? ⟨q, 0, none⟩ = some (.func (.func 31) #[] #[.pointer (some ⟨p, 0, none⟩), .pointer (some ⟨q, 0, none⟩)]) := qr.cell 0
      have hlen : (((l ++ [nm]) ++ namesTL (kids.take i)) ++ namesT kids[i]).length ≤ 1000 := by
        have e := namesTL_take kids i hi
        rw [List.append_assoc, ← e]
        have := namesTL_part kids (i + 1)
        have := HN.out
        simp only [List.length_append] at *
        omega
      have E := Lib.hid (IH.out _ (List.getElem_mem hi) xs[i] _ vi _ hT (hb.trans kk.below) (hOi.below bk) (hPi.keep bk) qk hip hiq hlen)
      have HF := Lib.hid (namesTL_take kids i hi)
      have HK3 := Lib.hid (And.intro (hK.trans kk) (And.intro (hPi.keep bk) hip))
      have HQ3 := Lib.hid (And.intro (OwS.far (hOi.below bk) (b := q)) (And.intro hiq qk))
      clear hT hc hcell hlen hK hOi hPi bk kk qr
      generalize xs[i] = z at *
      go_wp2_with fail
      (with_reducible refine E.out.mono ?_); rintro e w5 ⟨rfl, v5, hO5, hP5, hK5⟩
      go_wp2_with fail
      go_roundg (L - (i + 1))
      case rel =>
        refine ⟨i + 1, v5, by omega, by go_num, by rw [HF.out, ← List.append_assoc]; exact hO5, hP5, ?_, ?_, HK3.out.1.trans hK5⟩
        · intro e5
          rcases hK5.own p e5 with e | e
          · exact hip e
          · have := HK3.out.2.1.lt; omega
        · intro e5
          rcases hK5.own q e5 with e | e
          · exact hiq e
          · have := HQ3.out.2.2.lt; omega
      case measure => omega
    · obtain rfl : L = i := by omega
      have ii : ¬ ((L : Int) < (L : Int)) := by omega
      have ht : kids.take L = kids := List.take_of_length_le (by rw [HL.out]; exact Nat.le_refl _)
      rw [ht] at hOi
      have HF := Lib.hid (And.intro hOi (And.intro hPi (KA.out.trans hK)))
      clear hOi hPi hK ht
      go_wp2_with fail
      first | go_end0 | refine bodyPost_ret (results_none rfl _ _ _) rfl ?_
      exact ⟨rfl, vi, by have := HF.out.1; rw [List.append_assoc] at this; exact this, HF.out.2.1, HF.out.2.2⟩
end Go.Proofs.Ytlnmjbheohkanaa
