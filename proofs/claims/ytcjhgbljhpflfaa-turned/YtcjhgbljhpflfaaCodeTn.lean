/-
  Walks: the program's call Turn.
-/
import Derived.Test.YtcjhgbljhpflfaaCodeY
import Derived.Test.YtcjhgbljhpflfaaCodeN
namespace Go.Proofs.Ytcjhgbljhpflfaa
open Go.RowKit
set_option linter.unusedVariables false
set_option maxRecDepth 100000

set_option maxHeartbeats 400000 in
theorem Turn_bad (n t q b : Int) (x y : ByteArray) (w : World) (hg : goodB n t q b = false) :
    Calls Try.prog 52 #[.agg #[.int .i64 n, .int .i64 t, .int .i64 q, .int .i64 b], .string x, .string y] w fun e w' => e = .returned (.tuple #[.string ⟨#[]⟩, .int .i64 1]) ∧ Up w w' := by
  go_enter Try.func52, Try.ntmps52
  go_wp2_with (go_at_call 56; refine (Good_calls _ _ _ _ _).mono ?_; rintro e w' ⟨rfl, hu⟩)
  go_ret2
  exact ⟨rfl, ((Up.refl _).alloc _).trans hu⟩

set_option maxHeartbeats 1000000 in
theorem Turn_form1 (n t : Nat) (q b : Int) (x y : ByteArray) (w : World) (hx : x.size ≤ maxLen) (g : NT n t) (hq : 2 ≤ q) (hq2 : q ≤ 1073741823) (hg : goodB n t q b = true) (h0 : ctB x.data.toList n t q = false) :
    Calls Try.prog 52 #[.agg #[.int .i64 n, .int .i64 t, .int .i64 q, .int .i64 b], .string x, .string y] w fun e w' => e = .returned (.tuple #[.string ⟨#[]⟩, .int .i64 2]) ∧ Up w w' := by
  have ht := g.t3
  have ht2 := g.ht
  obtain ⟨hd1, hd2, hd3⟩ := g.half
  go_enter Try.func52, Try.ntmps52
  go_wp2_with fail
  refine (Good_calls _ _ _ _ _).mono ?_
  rintro e w1 ⟨rfl, hu1⟩
  obtain ⟨hc, hf⟩ := bcell hu1
  go_wp2_with fail
  refine (cipherRead_no n t q b x _ hx (by omega) (by omega) (by omega) (by omega) (by omega) hq2 h0).mono ?_
  rintro e w2 ⟨rfl, hu2⟩
  go_wp2_with fail
  go_ret2
  exact ⟨rfl, ((((Up.refl _).alloc _).trans hu1).trans hu2).alloc _⟩

set_option maxHeartbeats 1000000 in
theorem Turn_form2 (n t L : Nat) (q b : Int) (x y : ByteArray) (w : World) (hx : x.size ≤ maxLen) (hy : y.size ≤ maxLen) (g : NT n t) (hq : 2 ≤ q) (hq2 : q ≤ 1073741823) (hb : 1 ≤ b) (hb2 : b ≤ 8) (hL : DigOf q b L) (hg : goodB n t q b = true) (h0 : ctB x.data.toList n t q = true) (h1 : tnB y.data.toList (2 * n * L) q = false) :
    Calls Try.prog 52 #[.agg #[.int .i64 n, .int .i64 t, .int .i64 q, .int .i64 b], .string x, .string y] w fun e w' => e = .returned (.tuple #[.string ⟨#[]⟩, .int .i64 2]) ∧ Up w w' := by
  have ht := g.t3
  have ht2 := g.ht
  obtain ⟨hd1, hd2, hd3⟩ := g.half
  go_enter Try.func52, Try.ntmps52
  go_wp2_with fail
  refine (Good_calls _ _ _ _ _).mono ?_
  rintro e w1 ⟨rfl, hu1⟩
  obtain ⟨hc, hf⟩ := bcell hu1
  go_wp2_with fail
  refine (cipherRead_ok n t q b x _ hx (by omega) (by omega) (by omega) (by omega) (by omega) hq2 h0).mono ?_
  rintro e w2 ⟨g0, c0, g1, c1, rfl, i0, i1, hu2⟩
  have huA : Up w2 (w2.alloc (.cells #[.int .i64 (ctE x.data.toList), .slice (some ⟨g0, 0, none⟩) n c0, .slice (some ⟨g1, 0, none⟩) n c1] 89)) := (Up.refl _).alloc _
  have hu12 := (hu1.trans hu2).trans huA
  clear hc hf
  obtain ⟨hc, hf⟩ := bcell hu12
  go_wp2_with fail
  refine (ReadTurnKey_no n L t q b y _ hy (by omega) hq hq2 hb hb2 hL h1).mono ?_
  rintro e w3 ⟨rfl, hu3⟩
  go_wp2_with fail
  go_ret2
  exact ⟨rfl, (((Up.refl _).alloc _).trans hu12).trans hu3⟩

set_option maxHeartbeats 4000000 in
theorem Turn_ok (n t L : Nat) (q b : Int) (x y : ByteArray) (w : World) (hx : x.size ≤ maxLen) (hy : y.size ≤ maxLen) (g : NT n t) (hq : 2 ≤ q) (hq2 : q ≤ 1073741823) (hb : 1 ≤ b) (hb2 : b ≤ 8) (hL : DigOf q b L) (hg : goodB n t q b = true) (h0 : ctB x.data.toList n t q = true) (h1 : tnB y.data.toList (2 * n * L) q = true) :
    Calls Try.prog 52 #[.agg #[.int .i64 n, .int .i64 t, .int .i64 q, .int .i64 b], .string x, .string y] w fun e w' => e = .returned (.tuple #[.string ⟨(turnL n t q b L x.data.toList y.data.toList).1.toArray⟩, .int .i64 (turnL n t q b L x.data.toList y.data.toList).2]) ∧ Up w w' := by
  have ht := g.t3
  have ht2 := g.ht
  have hL30 := hL.le hb hq2
  obtain ⟨hd1, hd2, hd3⟩ := g.half
  have hm := mod_bounds (show (0 : Int) < (t : Int) by omega) q
  have hE0 := ctE_lt _ _ _ _ (by omega) (by omega) h0
  have hTb := tnN_le n L b (by omega) hL30 hb hb2
  have HX0 : Hid _ := ct0_bnd x.data.toList n t q h0 hq2 4294967296 (by omega)
  have HX1 : Hid _ := ct1_bnd x.data.toList n t q h0 hq2 4294967296 (by omega)
  have HA : Hid (turnL n t q b L x.data.toList y.data.toList = tellL t q (ctE x.data.toList + (q % (t : Int)).toNat + tnN n L b) (turn0 n q (2 ^ b.toNat) (cubI n (ct0 x.data.toList n) q) (cubI n (ct1 x.data.toList n) q) y.data.toList L) (turn1 n q (2 ^ b.toNat) (cubI n (ct1 x.data.toList n) q) y.data.toList L)) := rfl
  generalize turnL n t q b L x.data.toList y.data.toList = ans at HA
  have L0 : Hid _ := ct0_length x.data.toList n
  have L1 : Hid _ := ct1_length x.data.toList n
  have HLt : Hid _ := hL
  have HTn : Hid _ := h1
  have HRk : Hid (∀ W, Calls Try.prog 95 #[.agg #[.int .i64 n, .int .i64 t, .int .i64 q, .int .i64 b], .string y] W fun e w' => ∃ H cap gs caps, e = .returned (.tuple #[.slice (some ⟨H, 0, none⟩) L cap, .bool true]) ∧ RowsAt w' H (2 * L) n gs caps (tkP y.data.toList n) ∧ Up W w') := fun W => ReadTurnKey_ok n L t q b y W hy (by omega) (by omega) hq hq2 hb hb2 hL h1
  clear hL h1
  go_enter Try.func52, Try.ntmps52
  go_wp2_with fail
  refine (Good_calls _ _ _ _ _).mono ?_
  rintro e w1 ⟨rfl, hu1⟩
  obtain ⟨hc, hf⟩ := bcell hu1
  go_wp2_with fail
  refine (cipherRead_ok n t q b x _ hx (by omega) (by omega) (by omega) (by omega) (by omega) hq2 h0).mono ?_
  rintro e w2 ⟨g0, c0, g1, c1, rfl, i0, i1, hu2⟩
  generalize ct0 x.data.toList n = a0 at i0 HX0 HA L0
  generalize ct1 x.data.toList n = a1 at i1 HX1 HA L1
  generalize ctE x.data.toList = E0 at hE0 HA ⊢
  obtain ⟨W2, hW2⟩ : ∃ W, W = w2.alloc (.cells #[.int .i64 E0, .slice (some ⟨g0, 0, none⟩) n c0, .slice (some ⟨g1, 0, none⟩) n c1] 89) := ⟨_, rfl⟩
  have huA : Up w2 W2 := by rw [hW2]; exact (Up.refl _).alloc _
  have hX0 : W2.cell? ⟨w2.heap.size, 0, none⟩ = some (.int .i64 E0) := by rw [hW2]; simp
  have hX1 : W2.cell? ⟨w2.heap.size, 1, none⟩ = some (.slice (some ⟨g0, 0, none⟩) n c0) := by rw [hW2]; simp
  have hX2 : W2.cell? ⟨w2.heap.size, 2, none⟩ = some (.slice (some ⟨g1, 0, none⟩) n c1) := by rw [hW2]; simp
  have KX0 : Hid _ := hX0
  have KX1 : Hid _ := hX1
  have KX2 : Hid _ := hX2
  have hu12 := (hu1.trans hu2).trans huA
  clear hc hf hX0 hX1 hX2
  obtain ⟨hc, hf⟩ := bcell hu12
  subst hW2
  go_wp2_with fail
  refine Calls.mono (HRk.out _) ?_
  rintro e w3 ⟨H, cap, gs, caps, rfl, hR, hu3⟩
  have hX0 := keepC hu3 KX0.out
  have hX1 := keepC hu3 KX1.out
  have hX2 := keepC hu3 KX2.out
  have hu13 := hu12.trans hu3
  clear hc hf
  obtain ⟨hc, hf⟩ := bcell hu13
  have j0 := i0.up (huA.trans hu3)
  have j1 := i1.up (huA.trans hu3)
  have HR : Hid _ := hR
  clear hR
  have hRb : (q % (t : Int)).toNat ≤ 1021 := by omega
  have HP0 : Hid _ := turn0_bounds n q (2 ^ b.toNat) (cubI n a0 q) (cubI n a1 q) y.data.toList L (by omega) (cubI_bounds n a0 q (by omega))
  have HP1 : Hid _ := turn1_bounds n q (2 ^ b.toNat) (cubI n a1 q) y.data.toList L (by omega)
  have HQ0 : Hid _ := turn0_length n q (2 ^ b.toNat) (cubI n a0 q) (cubI n a1 q) y.data.toList L (cubI_length _ _ _)
  have HQ1 : Hid _ := turn1_length n q (2 ^ b.toNat) (cubI n a1 q) y.data.toList L
  cases hfit : fitsB t q ((E0 + (q % (t : Int)).toNat + tnN n L b : Nat) : Int) with
  | false =>
    have HA2 : Hid (ans = ([], 4)) := by rw [HA.out, tellL, hfit]; exact rfl
    have HTk : Hid (∀ W, TurnNoC n t E0 q b g0 c0 g1 c1 H cap L W) := fun W => cipherTurn_no n t E0 L q b g0 c0 g1 c1 H cap W g hq hq2 hb hb2 HLt.out hE0 hfit
    clear hfit
    go_wp2_with fail
    refine Calls.mono (HTk.out _) ?_
    rintro e w4 ⟨rfl, hu4⟩
    clear hc hf hX0 hX1 hX2
    go_wp2_with fail
    refine (writeCipher_no _).mono ?_
    rintro e w5 ⟨rfl, hu5⟩
    go_wp2_with fail
    go_ret2
    exact ⟨by rw [HA2.out]; rfl, ((((Up.refl _).alloc _).trans hu13).trans hu4).trans (((Up.refl _).alloc _).trans hu5)⟩
  | true =>
    have HA2 : Hid (ans = (toldL (E0 + (q % (t : Int)).toNat + tnN n L b) (turn0 n q (2 ^ b.toNat) (cubI n a0 q) (cubI n a1 q) y.data.toList L) (turn1 n q (2 ^ b.toNat) (cubI n a1 q) y.data.toList L), 0)) := by rw [HA.out, tellL, hfit]; exact rfl
    have HFit : Hid _ := hfit
    clear hfit
    go_wp2_with fail
    refine (cipherTurn_ok n t E0 L q b a0 a1 y.data.toList g0 c0 g1 c1 H cap gs caps _ g hq hq2 hb hb2 HLt.out hE0 HFit.out L0.out L1.out HX0.out HX1.out HTn.out j0 j1 HR.out).mono ?_
    rintro e w4 ⟨k0, m0, k1, m1, rfl, i4, i5, hu4⟩
    have hSb : E0 + (q % (t : Int)).toNat + tnN n L b ≤ 1125899906842624 := by omega
    generalize E0 + (q % (t : Int)).toNat + tnN n L b = S at HA2 hSb ⊢
    generalize turn0 n q (2 ^ b.toNat) (cubI n a0 q) (cubI n a1 q) y.data.toList L = T0 at HA2 HP0 HQ0 i4
    generalize turn1 n q (2 ^ b.toNat) (cubI n a1 q) y.data.toList L = T1 at HA2 HP1 HQ1 i5
    clear hc hf hX0 hX1 hX2
    go_wp2_with fail
    refine (writeCipher_ok n S T0 T1 k0 k1 m0 m1 _ (by omega) hSb HQ0.out HQ1.out (fun i hi => by have := HP0.out i (by rw [← HQ0.out]; exact hi); omega) (fun i hi => by have := HP1.out i (by rw [← HQ1.out]; exact hi); omega) (i4.up ((Up.refl _).alloc _)) (i5.up ((Up.refl _).alloc _))).mono ?_
    rintro e w5 ⟨rfl, hu5⟩
    go_wp2_with fail
    go_ret2
    exact ⟨by rw [HA2.out]; rfl, ((((Up.refl _).alloc _).trans hu13).trans hu4).trans (((Up.refl _).alloc _).trans hu5)⟩

end Go.Proofs.Ytcjhgbljhpflfaa
