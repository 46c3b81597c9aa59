/- One region of the law ExprErrors, in whatever order its operations come. -/
import Derived.Test.YtfhnjilflffdfaaEZ
import Derived.Deep.DeepCutAuto
namespace Go.Proofs.Ytfhnjilflffdfaa.ExprErrors
open Go Go.RowKit
set_option linter.unusedVariables false
def regOps : Code → Nat → Array Oper
  | .region i ops _, n => if i = n then ops else #[]
  | .seq a b, n => regOps a n ++ regOps b n
  | .cond _ a b, n => regOps a n ++ regOps b n
  | .block _ a, n => regOps a n
  | .loop a, n => regOps a n
  | .scope a, n => regOps a n
  | _, _ => #[]
set_option maxHeartbeats 16000000 in
set_option maxRecDepth 100000 in
theorem reg9 (L : List Pr) (hlk : PsOk L) (s : ByteArray) (t : Ex) (xo xw xn : Xc) (bo bw bn : Nat) (v : Value) (k m : Int) (f : Nat) (sv : ByteArray) (er : Int) (eq : evalR L (opE s [opE sNull [t], opE sNull [wrongE]]) = (⟨k, m, f, sv⟩, er)) (W : World) (vo : Vr W bo 27 (xcs xo)) (vw : Vr W bw 27 (xcs xw)) (vn : Vr W bn 27 (xcs xn)) (to_ : Tx W overE xo) (tw : Tx W wrongE xw) (tn : Tx W (opE sNull [t]) xn) (hp : RwP W v L) (Q : Exit → Act → World → Prop) (u0 u2 u3 u4 u5 u6 u7 u12 u13 u14 u15 u16 u17 u18 u19 u20 u21 u22 u23 u24 u25 u26 u27 u28 u29 u30 u31 u32 u33 u34 u35 u36 u37 u38 u39 u40 u41 u42 u43 u44 u45 u46 u47 u48 u49 u50 u51 u52 u53 u54 u55 u56 u57 u58 u59 u60 u61 u62 u63 u64 u65 u66 u67 u68 u69 u70 u71 u72 u73 u74 u75 u76 u77 u78 u79 u80 u81 u82 u83 u84 u85 u86 u87 u88 u89 u90 u91 u92 u93 u94 u95 u96 u97 u98 u99 u100 u101 u102 u103 u104 u105 u106 u107 u108 u109 u110 u111 u112 u113 u114 : Value)
    (hQ : ∀ (c12 c55 c56 c57 c58 c59 c60 c61 c62 c63 c64 c65 c66 : Value) (wx : World), Below W.heap.size W wx → Q .normal { tmps := #[u0, v, u2, u3, u4, u5, u6, u7, .pointer (some ⟨bo, 0, none⟩), .pointer (some ⟨bw, 0, none⟩), .pointer (some ⟨bn, 0, none⟩), .string s, c12, .int .i64 er, u14, u15, u16, u17, u18, u19, u20, u21, u22, u23, u24, u25, u26, u27, u28, u29, u30, u31, u32, u33, u34, u35, u36, u37, u38, u39, u40, u41, u42, u43, u44, u45, u46, u47, u48, u49, u50, u51, u52, u53, u54, c55, c56, c57, c58, c59, c60, c61, c62, c63, c64, c65, c66, u67, u68, u69, u70, u71, u72, u73, u74, u75, u76, u77, u78, u79, u80, u81, u82, u83, u84, u85, u86, u87, u88, u89, u90, u91, u92, u93, u94, u95, u96, u97, u98, u99, u100, u101, u102, u103, u104, u105, u106, u107, u108, u109, u110, u111, u112, u113, u114], defers := [] } wx) :
    (Code.region 9 (regOps (Try.f4.body.getD .skip) 9) true).wp Try.prog Q { tmps := #[u0, v, u2, u3, u4, u5, u6, u7, .pointer (some ⟨bo, 0, none⟩), .pointer (some ⟨bw, 0, none⟩), .pointer (some ⟨bn, 0, none⟩), .string s, u12, u13, u14, u15, u16, u17, u18, u19, u20, u21, u22, u23, u24, u25, u26, u27, u28, u29, u30, u31, u32, u33, u34, u35, u36, u37, u38, u39, u40, u41, u42, u43, u44, u45, u46, u47, u48, u49, u50, u51, u52, u53, u54, u55, u56, u57, u58, u59, u60, u61, u62, u63, u64, u65, u66, u67, u68, u69, u70, u71, u72, u73, u74, u75, u76, u77, u78, u79, u80, u81, u82, u83, u84, u85, u86, u87, u88, u89, u90, u91, u92, u93, u94, u95, u96, u97, u98, u99, u100, u101, u102, u103, u104, u105, u106, u107, u108, u109, u110, u111, u112, u113, u114], defers := [] } W := by
  simp only [Try.f4, Option.getD_some, regOps, Nat.reduceEqDiff, if_false, if_true, Array.append_empty, Array.empty_append]
  have hsf := run_store_float
  have VOh := Lib.hid vo
  have VWh := Lib.hid vw
  have VNh := Lib.hid vn
  have TOh := Lib.hid to_
  have TWh := Lib.hid tw
  have TNh := Lib.hid tn
  have Ph := Lib.hid hp
  have HLK := Lib.hid hlk
  have EQ := Lib.hid eq
  have HQ := Lib.hid hQ
  clear vo vw vn to_ tw tn hp hlk eq hQ
  have B_a0 := Lib.hid (show Below W.heap.size W (W.alloc (.cells (xcs xw) 27)).drew from bl_dr (bl_al (Below.refl _ _)))
  have V_a0_a0 := Lib.hid (show Vr (W.alloc (.cells (xcs xw) 27)).drew (W.heap.size) 27 (xcs xw) from Vr.dr (Vr.at' _ _ _ _ (by simp)))
  have B_a0_z := Lib.hid (show Below W.heap.size W ((W.alloc (.cells (xcs xw) 27)).alloc (.cells #[.int .i64 0, .int .i64 0, .float .f64 0, .string ⟨#[]⟩] 24)).drew from bl_dr (bl_al (bl_al (Below.refl _ _))))
  have V_a0_z_a0 := Lib.hid (show Vr ((W.alloc (.cells (xcs xw) 27)).alloc (.cells #[.int .i64 0, .int .i64 0, .float .f64 0, .string ⟨#[]⟩] 24)).drew (W.heap.size) 27 (xcs xw) from Vr.dr (Vr.al (Vr.at' _ _ _ _ (by simp))))
  have V_a0_z_z := Lib.hid (show Vr ((W.alloc (.cells (xcs xw) 27)).alloc (.cells #[.int .i64 0, .int .i64 0, .float .f64 0, .string ⟨#[]⟩] 24)).drew (W.heap.size + 1) 24 #[.int .i64 0, .int .i64 0, .float .f64 0, .string ⟨#[]⟩] from Vr.dr (Vr.at' _ _ _ _ (by simp)))
  have B_z_a0 := Lib.hid (show Below W.heap.size W ((W.alloc (.cells #[.int .i64 0, .int .i64 0, .float .f64 0, .string ⟨#[]⟩] 24)).alloc (.cells (xcs xw) 27)).drew from bl_dr (bl_al (bl_al (Below.refl _ _))))
  have V_z_a0_z := Lib.hid (show Vr ((W.alloc (.cells #[.int .i64 0, .int .i64 0, .float .f64 0, .string ⟨#[]⟩] 24)).alloc (.cells (xcs xw) 27)).drew (W.heap.size) 24 #[.int .i64 0, .int .i64 0, .float .f64 0, .string ⟨#[]⟩] from Vr.dr (Vr.al (Vr.at' _ _ _ _ (by simp))))
  have V_z_a0_a0 := Lib.hid (show Vr ((W.alloc (.cells #[.int .i64 0, .int .i64 0, .float .f64 0, .string ⟨#[]⟩] 24)).alloc (.cells (xcs xw) 27)).drew (W.heap.size + 1) 27 (xcs xw) from Vr.dr (Vr.at' _ _ _ _ (by simp)))
  go_region_held3 (fun w' => (w'.cell? ⟨bn, 0, none⟩ = some (.int .i64 xn.kind) ∧ w'.cell? ⟨bn, 1, none⟩ = some (.string xn.name) ∧ w'.cell? ⟨bn, 2, none⟩ = some (.int .i64 xn.v.k) ∧ w'.cell? ⟨bn, 3, none⟩ = some (.int .i64 xn.v.n) ∧ w'.cell? ⟨bn, 4, none⟩ = some (.float .f64 xn.v.f) ∧ w'.cell? ⟨bn, 5, none⟩ = some (.string xn.v.s) ∧ w'.cell? ⟨bn, 6, none⟩ = some (.slice xn.ao xn.len xn.cap)) ∧ w'.cell? ⟨bw, 0, none⟩ = some (.int .i64 xw.kind) ∧ w'.cell? ⟨bw, 1, none⟩ = some (.string xw.name) ∧ w'.cell? ⟨bw, 2, none⟩ = some (.int .i64 xw.v.k) ∧ w'.cell? ⟨bw, 3, none⟩ = some (.int .i64 xw.v.n) ∧ w'.cell? ⟨bw, 4, none⟩ = some (.float .f64 xw.v.f) ∧ w'.cell? ⟨bw, 5, none⟩ = some (.string xw.v.s) ∧ w'.cell? ⟨bw, 6, none⟩ = some (.slice xw.ao xw.len xw.cap))
    ((refine k14 VNh.out VWh.out ?_; (with_reducible first | exact bl_dr (Below.refl _ _) | exact bl_dr (bl_al (Below.refl _ _)) | exact bl_dr (bl_al (bl_al (Below.refl _ _))) | exact bl_dr (bl_al (bl_al (bl_al (Below.refl _ _)))) | exact dG | exact bl_al dG | exact below_set4 dG (by have := dF.size; have := dB.size; have := dB.size; omega) _ _ _ _ | exact dF | exact bl_al dF | exact bl_al (bl_al dF) | exact dB | exact bl_al dB | exact bl_al (bl_al dB))))
    (first
      | (go_simp; go_at_call 17; first
          | ((with_reducible refine (op1 sNull wrongE xw _ V_a0_a0.out (TWh.out.keep B_a0.out)).mono ?_); rintro e wa ⟨xa, rfl, ha, ba⟩; have dB := Below.chain B_a0.out ba)
          | ((with_reducible refine (op1 sNull wrongE xw _ V_a0_z_a0.out (TWh.out.keep B_a0_z.out)).mono ?_); rintro e wa ⟨xa, rfl, ha, ba⟩; have dB := Below.chain B_a0_z.out ba; have vz := V_a0_z_z.out.keep ba)
          | ((with_reducible refine (op1 sNull wrongE xw _ V_z_a0_a0.out (TWh.out.keep B_z_a0.out)).mono ?_); rintro e wa ⟨xa, rfl, ha, ba⟩; have dB := Below.chain B_z_a0.out ba; have vz := V_z_a0_z.out.keep ba)
          | ((with_reducible refine (op2 s (opE sNull [t]) (opE sNull [wrongE]) xn xa _ (Vr.new wa 27 (xcs2 xn xa)) (TNh.out.keep (bl_al (o := (.cells (xcs2 xn xa) 27)) dB)) (ha.keep (below_a1 wa (.cells (xcs2 xn xa) 27)))).mono ?_); rintro e wc ⟨xc, rfl, hc, bc⟩; have dF := Below.chain (bl_al (o := (.cells (xcs2 xn xa) 27)) dB) bc; try (have vz := (vz.keep (below_a1 wa (.cells (xcs2 xn xa) 27))).keep bc))
          | ((with_reducible refine (op2 s (opE sNull [t]) (opE sNull [wrongE]) xn xa _ (Vr.al (o := (.cells #[.int .i64 0, .int .i64 0, .float .f64 0, .string ⟨#[]⟩] 24)) (Vr.new wa 27 (xcs2 xn xa))) (TNh.out.keep (bl_al (o := (.cells #[.int .i64 0, .int .i64 0, .float .f64 0, .string ⟨#[]⟩] 24)) (bl_al (o := (.cells (xcs2 xn xa) 27)) dB))) (ha.keep (below_a2 wa (.cells (xcs2 xn xa) 27) (.cells #[.int .i64 0, .int .i64 0, .float .f64 0, .string ⟨#[]⟩] 24)))).mono ?_); rintro e wc ⟨xc, rfl, hc, bc⟩; have dF := Below.chain (bl_al (o := (.cells #[.int .i64 0, .int .i64 0, .float .f64 0, .string ⟨#[]⟩] 24)) (bl_al (o := (.cells (xcs2 xn xa) 27)) dB)) bc; have vz := (Vr.at' (wa.alloc (.cells (xcs2 xn xa) 27)) 24 #[.int .i64 0, .int .i64 0, .float .f64 0, .string ⟨#[]⟩] (wa.heap.size + 1) (by simp)).keep bc)
          | ((with_reducible refine (op2 s (opE sNull [t]) (opE sNull [wrongE]) xn xa _ (Vr.at' (wa.alloc (.cells #[.int .i64 0, .int .i64 0, .float .f64 0, .string ⟨#[]⟩] 24)) 27 (xcs2 xn xa) (wa.heap.size + 1) (by simp)) (TNh.out.keep (bl_al (o := (.cells (xcs2 xn xa) 27)) (bl_al (o := (.cells #[.int .i64 0, .int .i64 0, .float .f64 0, .string ⟨#[]⟩] 24)) dB))) (ha.keep (below_a2 wa (.cells #[.int .i64 0, .int .i64 0, .float .f64 0, .string ⟨#[]⟩] 24) (.cells (xcs2 xn xa) 27)))).mono ?_); rintro e wc ⟨xc, rfl, hc, bc⟩; have dF := Below.chain (bl_al (o := (.cells (xcs2 xn xa) 27)) (bl_al (o := (.cells #[.int .i64 0, .int .i64 0, .float .f64 0, .string ⟨#[]⟩] 24)) dB)) bc; have vz := (Vr.al (o := (.cells (xcs2 xn xa) 27)) (Vr.new wa 24 #[.int .i64 0, .int .i64 0, .float .f64 0, .string ⟨#[]⟩])).keep bc)
        )
      | (go_simp; go_at_call 12; first
          | (have EV := xeval_any _ xc _ L wc hc (Ph.out.keep dF) HLK.out; rw [EQ.out] at EV; (with_reducible refine EV.mono ?_); rintro e wd ⟨rfl, bd⟩; have dG := Below.chain dF bd; try (have vz := vz.keep bd; have ⟨zc0, zc1, zc2, zc3⟩ := vz.cells4; have zf0 := vz.thaw 0; have zf1 := vz.thaw 1; have zf2 := vz.thaw 2; have zf3 := vz.thaw 3))
          | (have EV := xeval_any _ xc _ L (wc.alloc (.cells #[.int .i64 0, .int .i64 0, .float .f64 0, .string ⟨#[]⟩] 24)) (hc.keep (below_a1 wc (.cells #[.int .i64 0, .int .i64 0, .float .f64 0, .string ⟨#[]⟩] 24))) (Ph.out.keep (bl_al (o := (.cells #[.int .i64 0, .int .i64 0, .float .f64 0, .string ⟨#[]⟩] 24)) dF)) HLK.out; rw [EQ.out] at EV; (with_reducible refine EV.mono ?_); rintro e wd ⟨rfl, bd⟩; have dG := Below.chain (bl_al (o := (.cells #[.int .i64 0, .int .i64 0, .float .f64 0, .string ⟨#[]⟩] 24)) dF) bd; have vz := (Vr.new wc 24 #[.int .i64 0, .int .i64 0, .float .f64 0, .string ⟨#[]⟩]).keep bd; have ⟨zc0, zc1, zc2, zc3⟩ := vz.cells4; have zf0 := vz.thaw 0; have zf1 := vz.thaw 1; have zf2 := vz.thaw 2; have zf3 := vz.thaw 3)
        ))
  all_goals (refine HQ.out _ _ _ _ _ _ _ _ _ _ _ _ _ _ ?_)
  all_goals with_reducible first | exact bl_al dG | exact below_set4 dG (by have := dF.size; have := dB.size; have := dB.size; omega) _ _ _ _
end Go.Proofs.Ytfhnjilflffdfaa.ExprErrors
