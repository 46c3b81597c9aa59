/- The walk of the law LabelWrong. -/
import Derived.Test.YtlnmjbheohkanaaKT
import Derived.Test.YtlnmjbheohkanaaKI
namespace Go.Proofs.Ytlnmjbheohkanaa.LabelWrong
open Go Go.RowKit
set_option linter.unusedVariables false
theorem bad_kinds (t : Ex) (i : Nat) (hi : i < 7) : ∃ tz, ([nilE, .node 4 ⟨#[]⟩ vz [], .node 4 ⟨#[49]⟩ vz [], .node 5 ⟨#[120]⟩ vz [], .node 2 ⟨#[112]⟩ vz [], .node 8 ⟨#[]⟩ vz [t], .node 6 ⟨#[]⟩ vz []] : List Ex)[i]? = some tz ∧ termK tz = false := by
  have e0 : (⟨#[]⟩ : ByteArray).toList = [] := nil_list
  have w0 : wordB ⟨#[]⟩ = false := by decide
  have w1 : wordB ⟨#[49]⟩ = false := by decide
  match i, hi with
  | 0, _ => exact ⟨_, rfl, by rw [termK]; simp [kidsN]⟩
  | 1, _ => exact ⟨_, rfl, by rw [termK]; simp [kidsN, nameOk, w0]⟩
  | 2, _ => exact ⟨_, rfl, by rw [termK]; simp [kidsN, nameOk, w1]⟩
  | 3, _ => exact ⟨_, rfl, by rw [termK]; simp [kidsN, nameOk]⟩
  | 4, _ => exact ⟨_, rfl, by rw [termK]; simp [kidsN]⟩
  | 5, _ => exact ⟨_, rfl, by rw [termK]; simp [kidsN]⟩
  | 6, _ => exact ⟨_, rfl, by rw [termK]; simp [kidsN]⟩
theorem bad_at (t : Ex) (x : Xc) (w3 : World) (hT : Tx w3 t x) (N : Nat) (hN : N < 7) : ∃ tz z, Kid ((w3.alloc (.cells (xcs x) 28)).alloc (.cells #[.int .i64 0, .string ⟨#[]⟩, .int .i64 0, .int .i64 0, .float .f64 0, .string ⟨#[]⟩, .slice none 0 0, .int .i64 4, .string ⟨#[]⟩, .int .i64 0, .int .i64 0, .float .f64 0, .string ⟨#[]⟩, .slice none 0 0, .int .i64 4, .string ⟨#[49]⟩, .int .i64 0, .int .i64 0, .float .f64 0, .string ⟨#[]⟩, .slice none 0 0, .int .i64 5, .string ⟨#[120]⟩, .int .i64 0, .int .i64 0, .float .f64 0, .string ⟨#[]⟩, .slice none 0 0, .int .i64 2, .string ⟨#[112]⟩, .int .i64 0, .int .i64 0, .float .f64 0, .string ⟨#[]⟩, .slice none 0 0, .int .i64 8, .string ⟨#[]⟩, .int .i64 0, .int .i64 0, .float .f64 0, .string ⟨#[]⟩, .slice (some ⟨w3.heap.size, 0, none⟩) 1 1, .int .i64 6, .string ⟨#[]⟩, .int .i64 0, .int .i64 0, .float .f64 0, .string ⟨#[]⟩, .slice none 0 0] 28)) (w3.heap.size + 1) (N * 7) z ∧ Tx ((w3.alloc (.cells (xcs x) 28)).alloc (.cells #[.int .i64 0, .string ⟨#[]⟩, .int .i64 0, .int .i64 0, .float .f64 0, .string ⟨#[]⟩, .slice none 0 0, .int .i64 4, .string ⟨#[]⟩, .int .i64 0, .int .i64 0, .float .f64 0, .string ⟨#[]⟩, .slice none 0 0, .int .i64 4, .string ⟨#[49]⟩, .int .i64 0, .int .i64 0, .float .f64 0, .string ⟨#[]⟩, .slice none 0 0, .int .i64 5, .string ⟨#[120]⟩, .int .i64 0, .int .i64 0, .float .f64 0, .string ⟨#[]⟩, .slice none 0 0, .int .i64 2, .string ⟨#[112]⟩, .int .i64 0, .int .i64 0, .float .f64 0, .string ⟨#[]⟩, .slice none 0 0, .int .i64 8, .string ⟨#[]⟩, .int .i64 0, .int .i64 0, .float .f64 0, .string ⟨#[]⟩, .slice (some ⟨w3.heap.size, 0, none⟩) 1 1, .int .i64 6, .string ⟨#[]⟩, .int .i64 0, .int .i64 0, .float .f64 0, .string ⟨#[]⟩, .slice none 0 0] 28)) tz z ∧ termK tz = false := by
  have hb := below_a2 w3 (.cells (xcs x) 28) (.cells #[.int .i64 0, .string ⟨#[]⟩, .int .i64 0, .int .i64 0, .float .f64 0, .string ⟨#[]⟩, .slice none 0 0, .int .i64 4, .string ⟨#[]⟩, .int .i64 0, .int .i64 0, .float .f64 0, .string ⟨#[]⟩, .slice none 0 0, .int .i64 4, .string ⟨#[49]⟩, .int .i64 0, .int .i64 0, .float .f64 0, .string ⟨#[]⟩, .slice none 0 0, .int .i64 5, .string ⟨#[120]⟩, .int .i64 0, .int .i64 0, .float .f64 0, .string ⟨#[]⟩, .slice none 0 0, .int .i64 2, .string ⟨#[112]⟩, .int .i64 0, .int .i64 0, .float .f64 0, .string ⟨#[]⟩, .slice none 0 0, .int .i64 8, .string ⟨#[]⟩, .int .i64 0, .int .i64 0, .float .f64 0, .string ⟨#[]⟩, .slice (some ⟨w3.heap.size, 0, none⟩) 1 1, .int .i64 6, .string ⟨#[]⟩, .int .i64 0, .int .i64 0, .float .f64 0, .string ⟨#[]⟩, .slice none 0 0] 28)
  have hr : RwX ((w3.alloc (.cells (xcs x) 28)).alloc (.cells #[.int .i64 0, .string ⟨#[]⟩, .int .i64 0, .int .i64 0, .float .f64 0, .string ⟨#[]⟩, .slice none 0 0, .int .i64 4, .string ⟨#[]⟩, .int .i64 0, .int .i64 0, .float .f64 0, .string ⟨#[]⟩, .slice none 0 0, .int .i64 4, .string ⟨#[49]⟩, .int .i64 0, .int .i64 0, .float .f64 0, .string ⟨#[]⟩, .slice none 0 0, .int .i64 5, .string ⟨#[120]⟩, .int .i64 0, .int .i64 0, .float .f64 0, .string ⟨#[]⟩, .slice none 0 0, .int .i64 2, .string ⟨#[112]⟩, .int .i64 0, .int .i64 0, .float .f64 0, .string ⟨#[]⟩, .slice none 0 0, .int .i64 8, .string ⟨#[]⟩, .int .i64 0, .int .i64 0, .float .f64 0, .string ⟨#[]⟩, .slice (some ⟨w3.heap.size, 0, none⟩) 1 1, .int .i64 6, .string ⟨#[]⟩, .int .i64 0, .int .i64 0, .float .f64 0, .string ⟨#[]⟩, .slice none 0 0] 28)) (.slice (some ⟨w3.heap.size + 1, 0, none⟩) 7 7) [⟨0, ⟨#[]⟩, vz, none, 0, 0⟩, ⟨4, ⟨#[]⟩, vz, none, 0, 0⟩, ⟨4, ⟨#[49]⟩, vz, none, 0, 0⟩, ⟨5, ⟨#[120]⟩, vz, none, 0, 0⟩, ⟨2, ⟨#[112]⟩, vz, none, 0, 0⟩, ⟨8, ⟨#[]⟩, vz, some ⟨w3.heap.size, 0, none⟩, 1, 1⟩, ⟨6, ⟨#[]⟩, vz, none, 0, 0⟩] := by
    have := (Ow.lit (E := encX) (e := 28) (w3.alloc (.cells (xcs x) 28)) 0 [⟨0, ⟨#[]⟩, vz, none, 0, 0⟩, ⟨4, ⟨#[]⟩, vz, none, 0, 0⟩, ⟨4, ⟨#[49]⟩, vz, none, 0, 0⟩, ⟨5, ⟨#[120]⟩, vz, none, 0, 0⟩, ⟨2, ⟨#[112]⟩, vz, none, 0, 0⟩, ⟨8, ⟨#[]⟩, vz, some ⟨w3.heap.size, 0, none⟩, 1, 1⟩, ⟨6, ⟨#[]⟩, vz, none, 0, 0⟩] (Nat.zero_le _) (by simp) #[.int .i64 0, .string ⟨#[]⟩, .int .i64 0, .int .i64 0, .float .f64 0, .string ⟨#[]⟩, .slice none 0 0, .int .i64 4, .string ⟨#[]⟩, .int .i64 0, .int .i64 0, .float .f64 0, .string ⟨#[]⟩, .slice none 0 0, .int .i64 4, .string ⟨#[49]⟩, .int .i64 0, .int .i64 0, .float .f64 0, .string ⟨#[]⟩, .slice none 0 0, .int .i64 5, .string ⟨#[120]⟩, .int .i64 0, .int .i64 0, .float .f64 0, .string ⟨#[]⟩, .slice none 0 0, .int .i64 2, .string ⟨#[112]⟩, .int .i64 0, .int .i64 0, .float .f64 0, .string ⟨#[]⟩, .slice none 0 0, .int .i64 8, .string ⟨#[]⟩, .int .i64 0, .int .i64 0, .float .f64 0, .string ⟨#[]⟩, .slice (some ⟨w3.heap.size, 0, none⟩) 1 1, .int .i64 6, .string ⟨#[]⟩, .int .i64 0, .int .i64 0, .float .f64 0, .string ⟨#[]⟩, .slice none 0 0] rfl).rw
    rw [show (w3.alloc (.cells (xcs x) 28)).heap.size = w3.heap.size + 1 by simp] at this
    exact this
  have hk : RwX ((w3.alloc (.cells (xcs x) 28)).alloc (.cells #[.int .i64 0, .string ⟨#[]⟩, .int .i64 0, .int .i64 0, .float .f64 0, .string ⟨#[]⟩, .slice none 0 0, .int .i64 4, .string ⟨#[]⟩, .int .i64 0, .int .i64 0, .float .f64 0, .string ⟨#[]⟩, .slice none 0 0, .int .i64 4, .string ⟨#[49]⟩, .int .i64 0, .int .i64 0, .float .f64 0, .string ⟨#[]⟩, .slice none 0 0, .int .i64 5, .string ⟨#[120]⟩, .int .i64 0, .int .i64 0, .float .f64 0, .string ⟨#[]⟩, .slice none 0 0, .int .i64 2, .string ⟨#[112]⟩, .int .i64 0, .int .i64 0, .float .f64 0, .string ⟨#[]⟩, .slice none 0 0, .int .i64 8, .string ⟨#[]⟩, .int .i64 0, .int .i64 0, .float .f64 0, .string ⟨#[]⟩, .slice (some ⟨w3.heap.size, 0, none⟩) 1 1, .int .i64 6, .string ⟨#[]⟩, .int .i64 0, .int .i64 0, .float .f64 0, .string ⟨#[]⟩, .slice none 0 0] 28)) (.slice (some ⟨w3.heap.size, 0, none⟩) 1 1) [x] := (Vr.rw1 (Vr.new w3 28 (xcs x))).keep (below_a1 _ _)
  have leaf : ∀ k nm, Tx ((w3.alloc (.cells (xcs x) 28)).alloc (.cells #[.int .i64 0, .string ⟨#[]⟩, .int .i64 0, .int .i64 0, .float .f64 0, .string ⟨#[]⟩, .slice none 0 0, .int .i64 4, .string ⟨#[]⟩, .int .i64 0, .int .i64 0, .float .f64 0, .string ⟨#[]⟩, .slice none 0 0, .int .i64 4, .string ⟨#[49]⟩, .int .i64 0, .int .i64 0, .float .f64 0, .string ⟨#[]⟩, .slice none 0 0, .int .i64 5, .string ⟨#[120]⟩, .int .i64 0, .int .i64 0, .float .f64 0, .string ⟨#[]⟩, .slice none 0 0, .int .i64 2, .string ⟨#[112]⟩, .int .i64 0, .int .i64 0, .float .f64 0, .string ⟨#[]⟩, .slice none 0 0, .int .i64 8, .string ⟨#[]⟩, .int .i64 0, .int .i64 0, .float .f64 0, .string ⟨#[]⟩, .slice (some ⟨w3.heap.size, 0, none⟩) 1 1, .int .i64 6, .string ⟨#[]⟩, .int .i64 0, .int .i64 0, .float .f64 0, .string ⟨#[]⟩, .slice none 0 0] 28)) (.node k nm vz []) ⟨k, nm, vz, none, 0, 0⟩ := fun k nm => Tx.mk zero_ok (Rw.nil _) (Txs.nil _)
  have hts : Txs ((w3.alloc (.cells (xcs x) 28)).alloc (.cells #[.int .i64 0, .string ⟨#[]⟩, .int .i64 0, .int .i64 0, .float .f64 0, .string ⟨#[]⟩, .slice none 0 0, .int .i64 4, .string ⟨#[]⟩, .int .i64 0, .int .i64 0, .float .f64 0, .string ⟨#[]⟩, .slice none 0 0, .int .i64 4, .string ⟨#[49]⟩, .int .i64 0, .int .i64 0, .float .f64 0, .string ⟨#[]⟩, .slice none 0 0, .int .i64 5, .string ⟨#[120]⟩, .int .i64 0, .int .i64 0, .float .f64 0, .string ⟨#[]⟩, .slice none 0 0, .int .i64 2, .string ⟨#[112]⟩, .int .i64 0, .int .i64 0, .float .f64 0, .string ⟨#[]⟩, .slice none 0 0, .int .i64 8, .string ⟨#[]⟩, .int .i64 0, .int .i64 0, .float .f64 0, .string ⟨#[]⟩, .slice (some ⟨w3.heap.size, 0, none⟩) 1 1, .int .i64 6, .string ⟨#[]⟩, .int .i64 0, .int .i64 0, .float .f64 0, .string ⟨#[]⟩, .slice none 0 0] 28)) [nilE, .node 4 ⟨#[]⟩ vz [], .node 4 ⟨#[49]⟩ vz [], .node 5 ⟨#[120]⟩ vz [], .node 2 ⟨#[112]⟩ vz [], .node 8 ⟨#[]⟩ vz [t], .node 6 ⟨#[]⟩ vz []] [⟨0, ⟨#[]⟩, vz, none, 0, 0⟩, ⟨4, ⟨#[]⟩, vz, none, 0, 0⟩, ⟨4, ⟨#[49]⟩, vz, none, 0, 0⟩, ⟨5, ⟨#[120]⟩, vz, none, 0, 0⟩, ⟨2, ⟨#[112]⟩, vz, none, 0, 0⟩, ⟨8, ⟨#[]⟩, vz, some ⟨w3.heap.size, 0, none⟩, 1, 1⟩, ⟨6, ⟨#[]⟩, vz, none, 0, 0⟩] := by
    refine ⟨rfl, fun i hi hi' => ?_⟩
    have hi7 : i < 7 := by simpa using hi
    match i, hi7 with
    | 0, _ => exact leaf _ _
    | 1, _ => exact leaf _ _
    | 2, _ => exact leaf _ _
    | 3, _ => exact leaf _ _
    | 4, _ => exact leaf _ _
    | 5, _ => exact Tx.mk zero_ok hk (Txs.one (hT.keep hb))
    | 6, _ => exact leaf _ _
  obtain ⟨tz, htz, hbad⟩ := bad_kinds t N hN
  have hl : N < ([⟨0, ⟨#[]⟩, vz, none, 0, 0⟩, ⟨4, ⟨#[]⟩, vz, none, 0, 0⟩, ⟨4, ⟨#[49]⟩, vz, none, 0, 0⟩, ⟨5, ⟨#[120]⟩, vz, none, 0, 0⟩, ⟨2, ⟨#[112]⟩, vz, none, 0, 0⟩, ⟨8, ⟨#[]⟩, vz, some ⟨w3.heap.size, 0, none⟩, 1, 1⟩, ⟨6, ⟨#[]⟩, vz, none, 0, 0⟩] : List Xc).length := by simpa using hN
  have hl2 : N < ([nilE, .node 4 ⟨#[]⟩ vz [], .node 4 ⟨#[49]⟩ vz [], .node 5 ⟨#[120]⟩ vz [], .node 2 ⟨#[112]⟩ vz [], .node 8 ⟨#[]⟩ vz [t], .node 6 ⟨#[]⟩ vz []] : List Ex).length := by simpa using hN
  obtain ⟨b, o, ha, hKd⟩ := kid_at hr N hl
  simp only [Option.some.injEq, Addr.mk.injEq, and_true] at ha
  obtain ⟨rfl, rfl⟩ := ha
  rw [Nat.zero_add] at hKd
  have ht := hts.2 N hl2 hl
  have e : ([nilE, .node 4 ⟨#[]⟩ vz [], .node 4 ⟨#[49]⟩ vz [], .node 5 ⟨#[120]⟩ vz [], .node 2 ⟨#[112]⟩ vz [], .node 8 ⟨#[]⟩ vz [t], .node 6 ⟨#[]⟩ vz []] : List Ex)[N] = tz := by
    rw [List.getElem?_eq_getElem hl2] at htz
    exact Option.some.inj htz
  rw [e] at ht
  exact ⟨tz, _, hKd, ht, hbad⟩
theorem not_F {tz : Ex} (h : termK tz = false) : termK (notE tz) = false := by rw [termK, termL, h]; simp
theorem right_F (k : Int) (nm : ByteArray) (v : Vl) (kids : List Ex) (hk : ¬ k = 0) (h : termK (.node k nm v kids) = false) : rightL (.node k nm v kids) = false := by
  rw [right_nz _ _ _ _ hk]
  unfold termE
  rw [h]; simp
theorem wrong_all (t tz : Ex) (h : termK tz = false) (i : Nat) (hi : i < 4) : ∃ tw, ([notE tz, andE t tz, orE tz t, orE t (notE tz)] : List Ex)[i]? = some tw ∧ rightL tw = false := by
  match i, hi with
  | 0, _ => exact ⟨_, rfl, right_F _ _ _ _ (by decide) (not_F h)⟩
  | 1, _ => exact ⟨_, rfl, right_F _ _ _ _ (by decide) (by rw [termK, termL, termL, h]; simp)⟩
  | 2, _ => exact ⟨_, rfl, right_F _ _ _ _ (by decide) (by rw [termK, termL, h]; simp)⟩
  | 3, _ => exact ⟨_, rfl, right_F _ _ _ _ (by decide) (by rw [termK, termL, termL, not_F h]; simp)⟩
theorem and_mask (a : Int) : ∃ A : Nat, bits BinOp.and IntKind.i64 a 65535 = (A : Int) ∧ A < 65536 := by
  have nm : ∀ n : Nat, n &&& 65535 = n % 65536 := fun n => Nat.and_two_pow_sub_one_eq_mod n 16
  refine ⟨(BitVec.ofInt 64 a).toNat % 65536, ?_, Nat.mod_lt _ (by decide)⟩
  show IntKind.i64.wrap ((BitVec.ofInt 64 a &&& BitVec.ofInt 64 65535).toNat : Int) = _
  have e : (BitVec.ofInt 64 65535).toNat = 65535 := by decide
  rw [BitVec.toNat_and, e, nm, IntKind.wrap_i64]
  have := Nat.mod_lt (BitVec.ofInt 64 a).toNat (show 0 < 65536 by decide)
  omega
set_option maxHeartbeats 16000000 in
set_option maxRecDepth 100000 in
theorem walk (v : Value) (l : List ByteArray) (t : Ex) (x : Xc) (a : Int) (w : World) (hl : RwS w v l) (hx : Tx w t x) (ha1 : -9223372036854775808 ≤ a) (ha2 : a ≤ 9223372036854775807) :
    Calls Try.prog 9 #[v, xv x, .int .i64 a] w fun e w' => e = .returned (.bool true) ∧ Below w.heap.size w w' := by
  have hsf := run_store_float
  obtain ⟨ao, L, cap, rfl, hL, hLc, hLm⟩ : ∃ ao L cap, v = .slice ao L cap ∧ l.length = L ∧ L ≤ cap ∧ cap ≤ 9223372036854775807 := by
    obtain ⟨a, c, e, e1, e2, -⟩ := hl
    simp only [maxLen] at e2
    exact ⟨a, _, c, e, rfl, e1, by omega⟩
  obtain ⟨M, hM⟩ : ∃ M : Nat, M = min L 30 := ⟨_, rfl⟩
  have hmin : min (L : Int) 30 = (M : Int) := by omega
  have hMc : (M : Int) ≤ (cap : Int) := by omega
  have hMl : M ≤ l.length := by omega
  obtain ⟨A, hA, hA2⟩ := and_mask a
  obtain ⟨N, hN⟩ : ∃ N : Nat, N = A % 7 := ⟨_, rfl⟩
  have hT : Int.tmod (A : Int) 7 = (N : Int) := by rw [hN]; rfl
  have hN7 : N < 7 := by rw [hN]; exact Nat.mod_lt _ (by decide)
  have iN7 : (N : Int) < 7 := by omega
  have c0 := below_a1 w (.cells (xcs x) 28)
  have LZ := Lib.hid (lies7_new w x 28 (xcs x) rfl)
  have HX := Lib.hid (hx.keep c0)
  have HR := Lib.hid ((hl.keep c0).head M hMl)
  have C0 := Lib.hid c0
  have B0 := Lib.hid (Below.refl (w.alloc (.cells (xcs x) 28)).heap.size (w.alloc (.cells (xcs x) 28)))
  have S1 := Lib.hid (shown6_any (w.alloc (.cells (xcs x) 28)))
  clear hl hx c0 hL hMl hM ha1 ha2 hA2 hN
  generalize l.take M = l' at *
  go_enter Try.func9, Try.ntmps9
  go_wp2_with fail
  (with_reducible refine (S1.out).mono ?_); rintro e w1 ⟨rfl, b1⟩
  have B1 := Lib.hid (Below.chain B0.out b1)
  clear b1
  have ⟨y0, y1, y2, y3, y4, y5, y6⟩ := (LZ.out.keep B1.out).at
  have K := Lib.hid (count6_any t x w1 (HX.out.keep B1.out))
  by_cases hc : 100 < cnt t
  · have ic : (100 : Int) < (cnt t : Int) := by omega
    generalize cnt t = n at *
    go_wp2_with fail
    (with_reducible refine K.out.mono ?_); rintro e w3 ⟨rfl, b3⟩
    go_wp2_with fail
    go_ret
    exact ⟨rfl, Below.chain C0.out (Below.chain B1.out b3)⟩
  have ic : ¬ (100 : Int) < (cnt t : Int) := by omega
  clear hc
  generalize cnt t = n at *
  go_wp2_with fail
  (with_reducible refine (K.out).mono ?_); rintro e w2 ⟨rfl, b2⟩
  have B2 := Lib.hid (Below.chain B1.out b2)
  clear b2
  clear K y0 y1 y2 y3 y4 y5 y6
  have ⟨y0, y1, y2, y3, y4, y5, y6⟩ := (LZ.out.keep B2.out).at
  have K := Lib.hid (lright_any t x w2 (HX.out.keep B2.out))
  cases hrt : rightL t
  · rw [hrt] at K
    clear hrt
    go_wp2_with fail
    (with_reducible refine K.out.mono ?_); rintro e w3 ⟨rfl, b3⟩
    go_wp2_with fail
    go_ret
    exact ⟨rfl, Below.chain C0.out (Below.chain B2.out b3)⟩
  rw [hrt] at K
  have HRT := Lib.hid hrt
  clear hrt
  go_wp2_with fail
  (with_reducible refine (K.out).mono ?_); rintro e w3 ⟨rfl, b3⟩
  have B3 := Lib.hid (Below.chain B2.out b3)
  clear b3
  clear K y0 y1 y2 y3 y4 y5 y6
  have ⟨y0, y1, y2, y3, y4, y5, y6⟩ := (LZ.out.keep B3.out).at
  cases hk0 : (x.kind == 0)
  case true =>
    go_wp2_with fail
    go_ret
    exact ⟨rfl, Below.chain C0.out B3.out⟩
  have hlt : w.heap.size < w3.heap.size := block_lt_of_cell y0
  have BAT := Lib.hid (bad_at t x w3 (HX.out.keep B3.out) N hN7)
  have b4 := Lib.hid (below_a2 w3 (.cells (xcs x) 28) (.cells #[.int .i64 0, .string ⟨#[]⟩, .int .i64 0, .int .i64 0, .float .f64 0, .string ⟨#[]⟩, .slice none 0 0, .int .i64 4, .string ⟨#[]⟩, .int .i64 0, .int .i64 0, .float .f64 0, .string ⟨#[]⟩, .slice none 0 0, .int .i64 4, .string ⟨#[49]⟩, .int .i64 0, .int .i64 0, .float .f64 0, .string ⟨#[]⟩, .slice none 0 0, .int .i64 5, .string ⟨#[120]⟩, .int .i64 0, .int .i64 0, .float .f64 0, .string ⟨#[]⟩, .slice none 0 0, .int .i64 2, .string ⟨#[112]⟩, .int .i64 0, .int .i64 0, .float .f64 0, .string ⟨#[]⟩, .slice none 0 0, .int .i64 8, .string ⟨#[]⟩, .int .i64 0, .int .i64 0, .float .f64 0, .string ⟨#[]⟩, .slice (some ⟨w3.heap.size, 0, none⟩) 1 1, .int .i64 6, .string ⟨#[]⟩, .int .i64 0, .int .i64 0, .float .f64 0, .string ⟨#[]⟩, .slice none 0 0] 28))
  go_upto_region 5 with fail
  clear hlt y0 y1 y2 y3 y4 y5 y6
  simp only [xcs] at BAT b4
  generalize ((w3.alloc (.cells #[.int .i64 x.kind, .string x.name, .int .i64 x.v.k, .int .i64 x.v.n, .float .f64 x.v.f, .string x.v.s, .slice x.ao x.len x.cap] 28)).alloc (.cells #[.int .i64 0, .string ⟨#[]⟩, .int .i64 0, .int .i64 0, .float .f64 0, .string ⟨#[]⟩, .slice none 0 0, .int .i64 4, .string ⟨#[]⟩, .int .i64 0, .int .i64 0, .float .f64 0, .string ⟨#[]⟩, .slice none 0 0, .int .i64 4, .string ⟨#[49]⟩, .int .i64 0, .int .i64 0, .float .f64 0, .string ⟨#[]⟩, .slice none 0 0, .int .i64 5, .string ⟨#[120]⟩, .int .i64 0, .int .i64 0, .float .f64 0, .string ⟨#[]⟩, .slice none 0 0, .int .i64 2, .string ⟨#[112]⟩, .int .i64 0, .int .i64 0, .float .f64 0, .string ⟨#[]⟩, .slice none 0 0, .int .i64 8, .string ⟨#[]⟩, .int .i64 0, .int .i64 0, .float .f64 0, .string ⟨#[]⟩, .slice (some ⟨w3.heap.size, 0, none⟩) 1 1, .int .i64 6, .string ⟨#[]⟩, .int .i64 0, .int .i64 0, .float .f64 0, .string ⟨#[]⟩, .slice none 0 0] 28)) = W4 at *
  obtain ⟨tz, z, hKd, hTz, hbad⟩ := BAT.out
  have BB4 := Lib.hid (Below.chain B3.out b4.out)
  have ⟨k0, k1, k2, k3, k4, k5, k6⟩ := hKd
  have c5 := below_a1 W4 (.cells (xcs z) 28)
  have BB5 := Lib.hid (Below.chain BB4.out c5)
  have LX := Lib.hid (LZ.out.keep BB5.out)
  have LV := Lib.hid (lies7_new W4 z 28 (xcs z) rfl)
  have TX := Lib.hid (HX.out.keep BB5.out)
  have TV := Lib.hid (hTz.keep c5)
  have HBad := Lib.hid hbad
  have RL := Lib.hid (HR.out.keep BB5.out)
  have HS := Lib.hid (fun W (h : Below (W4.alloc (.cells (xcs z) 28)).heap.size (W4.alloc (.cells (xcs z) 28)) W) => show C7 W w.heap.size x ∧ C7 W W4.heap.size z from ⟨(LX.out.keep h).at, (LV.out.keep h).at⟩)
  clear hTz hbad hKd c5 BAT b4 HX LZ LX LV HR
  have NV := Lib.hid (fun W (h : Below (W4.alloc (.cells (xcs z) 28)).heap.size (W4.alloc (.cells (xcs z) 28)) W) => not6_any tz z W (TV.out.keep h))
  have AN := Lib.hid (fun W (h : Below (W4.alloc (.cells (xcs z) 28)).heap.size (W4.alloc (.cells (xcs z) 28)) W) => and6_any t tz x z W (TX.out.keep h) (TV.out.keep h))
  have OR := Lib.hid (fun W (h : Below (W4.alloc (.cells (xcs z) 28)).heap.size (W4.alloc (.cells (xcs z) 28)) W) => or6_any tz t z x W (TV.out.keep h) (TX.out.keep h))
  go_wp2_with fail
  go_region_held3 (fun W => (W.cell? ⟨w.heap.size, 0, none⟩ = some (.int .i64 x.kind) ∧ W.cell? ⟨w.heap.size, 1, none⟩ = some (.string x.name) ∧ W.cell? ⟨w.heap.size, 2, none⟩ = some (.int .i64 x.v.k) ∧ W.cell? ⟨w.heap.size, 3, none⟩ = some (.int .i64 x.v.n) ∧ W.cell? ⟨w.heap.size, 4, none⟩ = some (.float .f64 x.v.f) ∧ W.cell? ⟨w.heap.size, 5, none⟩ = some (.string x.v.s) ∧ W.cell? ⟨w.heap.size, 6, none⟩ = some (.slice x.ao x.len x.cap)) ∧ W.cell? ⟨W4.heap.size, 0, none⟩ = some (.int .i64 z.kind) ∧ W.cell? ⟨W4.heap.size, 1, none⟩ = some (.string z.name) ∧ W.cell? ⟨W4.heap.size, 2, none⟩ = some (.int .i64 z.v.k) ∧ W.cell? ⟨W4.heap.size, 3, none⟩ = some (.int .i64 z.v.n) ∧ W.cell? ⟨W4.heap.size, 4, none⟩ = some (.float .f64 z.v.f) ∧ W.cell? ⟨W4.heap.size, 5, none⟩ = some (.string z.v.s) ∧ W.cell? ⟨W4.heap.size, 6, none⟩ = some (.slice z.ao z.len z.cap))
    (first | exact HS.out _ (Below.refl _ _).drew | exact HS.out _ h1 | exact HS.out _ h2 | exact HS.out _ h3 | exact HS.out _ h4 | exact HS.out _ h5 | exact HS.out _ (bl_al h5))
    (first
      | ((with_reducible refine (NV.out _ (Below.refl _ _).drew).mono ?_); rintro e v1 ⟨z1, rfl, T1, b1⟩; have h1 := Below.chain (Below.refl _ _).drew b1)
      | ((with_reducible refine (AN.out _ h1).mono ?_); rintro e v2 ⟨z2, rfl, T2, b2⟩; have h2 := Below.chain h1 b2)
      | ((with_reducible refine (OR.out _ h2).mono ?_); rintro e v3 ⟨z3, rfl, T3, b3⟩; have h3 := Below.chain h2 b3)
      | ((with_reducible refine (NV.out _ h3).mono ?_); rintro e v4 ⟨z4, rfl, T4, b4⟩; have h4 := Below.chain h3 b4)
      | ((with_reducible refine (or6_any _ _ x z4 _ (TX.out.keep h4) T4).mono ?_); rintro e v5 ⟨z5, rfl, T5, b5⟩; have h5 := Below.chain h4 b5))
  all_goals
    have c6 := below_a1 v5 (.cells #[.int .i64 z1.kind, .string z1.name, .int .i64 z1.v.k, .int .i64 z1.v.n, .float .f64 z1.v.f, .string z1.v.s, .slice z1.ao z1.len z1.cap, .int .i64 z2.kind, .string z2.name, .int .i64 z2.v.k, .int .i64 z2.v.n, .float .f64 z2.v.f, .string z2.v.s, .slice z2.ao z2.len z2.cap, .int .i64 z3.kind, .string z3.name, .int .i64 z3.v.k, .int .i64 z3.v.n, .float .f64 z3.v.f, .string z3.v.s, .slice z3.ao z3.len z3.cap, .int .i64 z5.kind, .string z5.name, .int .i64 z5.v.k, .int .i64 z5.v.n, .float .f64 z5.v.f, .string z5.v.s, .slice z5.ao z5.len z5.cap] 28)
    have U1 := Lib.hid ((((T1.keep b2).keep b3).keep b4).keep b5 |>.keep c6)
    have U2 := Lib.hid (((T2.keep b3).keep b4).keep b5 |>.keep c6)
    have U3 := Lib.hid ((T3.keep b4).keep b5 |>.keep c6)
    have U5 := Lib.hid (T5.keep c6)
    have H6 := Lib.hid (Below.chain h5 c6)
    have BB6 := Lib.hid (Below.chain BB5.out H6.out)
    have RY := Lib.hid (show RwX (v5.alloc (.cells #[.int .i64 z1.kind, .string z1.name, .int .i64 z1.v.k, .int .i64 z1.v.n, .float .f64 z1.v.f, .string z1.v.s, .slice z1.ao z1.len z1.cap, .int .i64 z2.kind, .string z2.name, .int .i64 z2.v.k, .int .i64 z2.v.n, .float .f64 z2.v.f, .string z2.v.s, .slice z2.ao z2.len z2.cap, .int .i64 z3.kind, .string z3.name, .int .i64 z3.v.k, .int .i64 z3.v.n, .float .f64 z3.v.f, .string z3.v.s, .slice z3.ao z3.len z3.cap, .int .i64 z5.kind, .string z5.name, .int .i64 z5.v.k, .int .i64 z5.v.n, .float .f64 z5.v.f, .string z5.v.s, .slice z5.ao z5.len z5.cap] 28)) (.slice (some ⟨v5.heap.size, 0, none⟩) 4 4) [z1, z2, z3, z5] from (Ow.lit (E := encX) (e := 28) v5 0 [z1, z2, z3, z5] (Nat.zero_le _) (by simp) #[.int .i64 z1.kind, .string z1.name, .int .i64 z1.v.k, .int .i64 z1.v.n, .float .f64 z1.v.f, .string z1.v.s, .slice z1.ao z1.len z1.cap, .int .i64 z2.kind, .string z2.name, .int .i64 z2.v.k, .int .i64 z2.v.n, .float .f64 z2.v.f, .string z2.v.s, .slice z2.ao z2.len z2.cap, .int .i64 z3.kind, .string z3.name, .int .i64 z3.v.k, .int .i64 z3.v.n, .float .f64 z3.v.f, .string z3.v.s, .slice z3.ao z3.len z3.cap, .int .i64 z5.kind, .string z5.name, .int .i64 z5.v.k, .int .i64 z5.v.n, .float .f64 z5.v.f, .string z5.v.s, .slice z5.ao z5.len z5.cap] rfl).rw)
    have TY := Lib.hid (show Txs (v5.alloc (.cells #[.int .i64 z1.kind, .string z1.name, .int .i64 z1.v.k, .int .i64 z1.v.n, .float .f64 z1.v.f, .string z1.v.s, .slice z1.ao z1.len z1.cap, .int .i64 z2.kind, .string z2.name, .int .i64 z2.v.k, .int .i64 z2.v.n, .float .f64 z2.v.f, .string z2.v.s, .slice z2.ao z2.len z2.cap, .int .i64 z3.kind, .string z3.name, .int .i64 z3.v.k, .int .i64 z3.v.n, .float .f64 z3.v.f, .string z3.v.s, .slice z3.ao z3.len z3.cap, .int .i64 z5.kind, .string z5.name, .int .i64 z5.v.k, .int .i64 z5.v.n, .float .f64 z5.v.f, .string z5.v.s, .slice z5.ao z5.len z5.cap] 28)) [notE tz, andE t tz, orE tz t, orE t (notE tz)] [z1, z2, z3, z5] from Txs.app (Txs.one U1.out) (Txs.app (Txs.one U2.out) (Txs.app (Txs.one U3.out) (Txs.one U5.out))))
    have RL6 := Lib.hid (RL.out.keep H6.out)
    have WA := Lib.hid (wrong_all t tz HBad.out)
    clear T1 T2 T3 T4 T5 b1 b2 b3 b4 b5 h1 h2 h3 h4 h5 c6 U1 U2 U3 U5 RL TX TV NV AN OR HS
    go_wp2_with fail
    go_loopg [57] 4 (fun g s57 wr => ∃ i : Nat, g + i = 4 ∧ s57 = .int .i64 i ∧ Below (v5.alloc (.cells #[.int .i64 z1.kind, .string z1.name, .int .i64 z1.v.k, .int .i64 z1.v.n, .float .f64 z1.v.f, .string z1.v.s, .slice z1.ao z1.len z1.cap, .int .i64 z2.kind, .string z2.name, .int .i64 z2.v.k, .int .i64 z2.v.n, .float .f64 z2.v.f, .string z2.v.s, .slice z2.ao z2.len z2.cap, .int .i64 z3.kind, .string z3.name, .int .i64 z3.v.k, .int .i64 z3.v.n, .float .f64 z3.v.f, .string z3.v.s, .slice z3.ao z3.len z3.cap, .int .i64 z5.kind, .string z5.name, .int .i64 z5.v.k, .int .i64 z5.v.n, .float .f64 z5.v.f, .string z5.v.s, .slice z5.ao z5.len z5.cap] 28)).heap.size (v5.alloc (.cells #[.int .i64 z1.kind, .string z1.name, .int .i64 z1.v.k, .int .i64 z1.v.n, .float .f64 z1.v.f, .string z1.v.s, .slice z1.ao z1.len z1.cap, .int .i64 z2.kind, .string z2.name, .int .i64 z2.v.k, .int .i64 z2.v.n, .float .f64 z2.v.f, .string z2.v.s, .slice z2.ao z2.len z2.cap, .int .i64 z3.kind, .string z3.name, .int .i64 z3.v.k, .int .i64 z3.v.n, .float .f64 z3.v.f, .string z3.v.s, .slice z3.ao z3.len z3.cap, .int .i64 z5.kind, .string z5.name, .int .i64 z5.v.k, .int .i64 z5.v.n, .float .f64 z5.v.f, .string z5.v.s, .slice z5.ao z5.len z5.cap] 28)) wr)
    case atStart => exact ⟨0, rfl, rfl, Below.refl _ _⟩
    case round =>
      obtain ⟨i, hg, rfl, hb⟩ := hrel
      by_cases hlt4 : i < 4
      · have ii : (i : Int) < 4 := by omega
        obtain ⟨ao', cap', he, -, -, -, hc⟩ := RY.out.keep hb
        simp only [Value.slice.injEq] at he
        obtain ⟨rfl, -, rfl⟩ := he
        have hix : i < [z1, z2, z3, z5].length := by simpa using hlt4
        have hit : i < [notE tz, andE t tz, orE tz t, orE t (notE tz)].length := by simpa using hlt4
        obtain ⟨bb, oo, he2, hcell⟩ := hc i hix
        simp only [Option.some.injEq, Addr.mk.injEq, and_true] at he2
        obtain ⟨rfl, rfl⟩ := he2
        rw [Nat.zero_add] at hcell
        have z0' := hcell 0 (by decide)
        have z1' := hcell 1 (by decide)
        have z2' := hcell 2 (by decide)
        have z3' := hcell 3 (by decide)
        have z4' := hcell 4 (by decide)
        have z5' := hcell 5 (by decide)
        have z6' := hcell 6 (by decide)
        simp only [encX, List.getElem?_cons_zero, List.getElem?_cons_succ, Nat.add_zero] at z0' z1' z2' z3' z4' z5' z6'
        have TT := (TY.out.2 i hit hix).keep hb
        obtain ⟨tw, htw, hrw⟩ := WA.out i hlt4
        have ew : ([notE tz, andE t tz, orE tz t, orE t (notE tz)] : List Ex)[i] = tw := by
          rw [List.getElem?_eq_getElem hit] at htw
          exact Option.some.inj htw
        rw [ew] at TT
        clear hc hcell htw ew
        generalize ([z1, z2, z3, z5] : List Xc)[i] = y at *
        have bk := below_a1 wr (.cells (xcs y) 28)
        have HBk := Lib.hid (Below.chain hb bk)
        have LK := Lib.hid (lies7_new wr y 28 (xcs y) rfl)
        have TK := Lib.hid (TT.keep bk)
        have L8 := fun v : Later (wr.alloc (.cells (xcs y) 28)) => (LK.out.keep v.kept).at
        have W1 := fun v : Later (wr.alloc (.cells (xcs y) 28)) => lright_any tw y v.w (TK.out.keep v.kept)
        have W2 := fun v : Later (wr.alloc (.cells (xcs y) 28)) => lhas_any l' tw y _ v.w (TK.out.keep v.kept) (RL6.out.keep (Below.chain HBk.out v.kept))
        have W3 := fun v : Later (wr.alloc (.cells (xcs y) 28)) => lnames_bad y v.w (fun w1 hb1 => by have := lright_any tw y w1 ((TK.out.keep v.kept).keep hb1); rw [hrw] at this; exact this)
        rw [hrw] at W1
        rw [has_bad l' hrw] at W2
        clear TT hrw bk hb
        go_wp2_with fail
        refine wp_region_later (by kernel_rfl) (by kernel_rfl) ?_
        repeat (go_big_quiet_step (first | with_reducible exact later_call (W1 _) | with_reducible exact later_call (W2 _) | with_reducible exact later_call (W3 _)))
        refine wpQuiet_nil ?_
        rintro w' ⟨x, rfl⟩
        have HKK := Lib.hid (Below.chain HBk.out x.kept)
        go_wp2_with fail
        go_roundg (4 - (i + 1))
        case rel => exact ⟨i + 1, by omega, by go_num, HKK.out⟩
        case measure => omega
      · obtain rfl : i = 4 := by omega
        have HB7 := Lib.hid hb
        go_wp2_with fail
        go_ret
        exact ⟨rfl, Below.chain C0.out (Below.chain BB6.out HB7.out)⟩
end Go.Proofs.Ytlnmjbheohkanaa.LabelWrong
