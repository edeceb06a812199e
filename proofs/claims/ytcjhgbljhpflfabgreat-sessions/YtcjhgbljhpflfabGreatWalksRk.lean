/-
  Walks: the reference's Add.
  Walks: the reference's Add, where it goes through.
  Walks: the reference's AddPlain.
  Walks: the reference's MulPlain.
  Walks: the reference's MulPlain, where it goes through.
-/
import Derived.Test.YtcjhgbljhpflfabGreatWalksRg
namespace Go.Proofs.YtcjhgbljhpflfabGreat
open Go.RowKit
set_option linter.unusedVariables false
set_option maxRecDepth 100000

/-- what Told answers -/
def tellL (t q : Int) (e : Nat) (c0 c1 : List Int) : List UInt8 × Int := if fitsB t q e = true then (toldL e c0 c1, 0) else ([], 4)

theorem Told_any (n e : Nat) (t q b : Int) (c0 c1 : List Int) (g0 g1 k0 k1 : Nat) (w : World) (hn : n ≤ 16) (ht : 1 ≤ t) (ht2 : t ≤ 1021) (hq : 0 ≤ q) (hq2 : q ≤ 1073741823) (he : e ≤ 1125899906842624)
    (hl0 : c0.length = n) (hl1 : c1.length = n) (hb0 : ∀ i, i < c0.length → 0 ≤ c0.getD i 0 ∧ c0.getD i 0 ≤ 4611686018427387904) (hb1 : ∀ i, i < c1.length → 0 ≤ c1.getD i 0 ∧ c1.getD i 0 ≤ 4611686018427387904) (i0 : IsI w g0 c0) (i1 : IsI w g1 c1) :
    Calls Tryz.prog 103 #[.agg #[.int .i64 n, .int .i64 t, .int .i64 q, .int .i64 b], .agg #[.int .i64 e, .slice (some ⟨g0, 0, none⟩) n k0, .slice (some ⟨g1, 0, none⟩) n k1]] w fun r w' => r = .returned (.tuple #[.string ⟨(tellL t q e c0 c1).1.toArray⟩, .int .i64 (tellL t q e c0 c1).2]) ∧ Up w w' := by
  cases hf : fitsB t q e with
  | true =>
    have := Told_ok n e t q b c0 c1 g0 g1 k0 k1 w hn ht ht2 hq hq2 he hf hl0 hl1 hb0 hb1 i0 i1
    unfold tellL
    rw [if_pos hf]
    exact this
  | false =>
    have := Told_no n e t q b (.bool true) (.bool true) (some ⟨g0, 0, none⟩) (some ⟨g1, 0, none⟩) n k0 n k1 w ht ht2 hq hq2 he hf
    unfold tellL
    rw [if_neg (by rw [hf]; decide)]
    exact this

theorem Read_any (n : Nat) (t q b : Int) (s : ByteArray) (w : World) (hs : s.size ≤ maxLen) (hn : n ≤ 16) (hn1 : 1 ≤ n) (ht : 1 ≤ t) (ht2 : t ≤ 1021) (hq : 0 ≤ q) (hq2 : q ≤ 1073741823) :
    Calls Tryz.prog 42 #[.agg #[.int .i64 n, .int .i64 t, .int .i64 q, .int .i64 b], .string s] w fun e w' => ∃ (x : Int) (p0 : Option Addr) (x0 y0 : Nat) (p1 : Option Addr) (x1 y1 : Nat), e = .returned (.tuple #[.agg #[.int .i64 x, .slice p0 x0 y0, .slice p1 x1 y1], .bool (ctB s.data.toList n t q)]) ∧ Up w w' := by
  cases h : ctB s.data.toList n t q with
  | false => exact Read_no n t q b s w hs hn hn1 ht ht2 hq hq2 h
  | true =>
    refine (Read_ok n t q b s w hs hn hn1 ht ht2 hq hq2 h).mono ?_
    rintro e w' ⟨g0, c0, g1, c1, rfl, _, _, hu⟩
    exact ⟨_, _, _, _, _, _, _, rfl, hu⟩

theorem keepP {p : Addr} {u : Value} {W W' : World} (hu : Up W W') (hS : W.cell? p = some u) : W'.cell? p = some u :=
  (hu.cell (p := p) (World.block_lt_of_cell? W p hS)).trans hS

set_option maxHeartbeats 400000 in
theorem refAdd_bad (n t q b : Int) (x y : ByteArray) (w : World) (hg : goodB n t q b = false) :
    Calls Tryz.prog 48 #[.agg #[.int .i64 n, .int .i64 t, .int .i64 q, .int .i64 b], .string x, .string y] w fun e w' => e = .returned (.tuple #[.string ⟨#[]⟩, .int .i64 1]) ∧ Up w w' := by
  go_enter Tryz.func48, Tryz.ntmps48
  go_wp2_with (go_at_call 40; refine (refGood_calls _ _ _ _ _).mono ?_; rintro e w' ⟨rfl, hu⟩)
  go_ret2
  exact ⟨rfl, ((Up.refl _).alloc _).trans hu⟩

set_option maxHeartbeats 1000000 in
theorem refAdd_form (n t : Nat) (q b : Int) (x y : ByteArray) (w : World) (hx : x.size ≤ maxLen) (hy : y.size ≤ maxLen) (g : NT n t) (hq : 2 ≤ q) (hq2 : q ≤ 1073741823) (hg : goodB n t q b = true) (o0 o1 : Bool) (h0 : ctB x.data.toList n t q = o0) (h1 : ctB y.data.toList n t q = o1) (h : o0 = false ∨ (o0 = true ∧ o1 = false)) :
    Calls Tryz.prog 48 #[.agg #[.int .i64 n, .int .i64 t, .int .i64 q, .int .i64 b], .string x, .string y] w fun e w' => e = .returned (.tuple #[.string ⟨#[]⟩, .int .i64 2]) ∧ Up w w' := by
  have ht := g.t3
  have ht2 := g.ht
  obtain ⟨hd1, hd2, hd3⟩ := g.half
  have HR0 : Hid (∀ W, Calls Tryz.prog 42 #[.agg #[.int .i64 n, .int .i64 t, .int .i64 q, .int .i64 b], .string x] W fun e w' => ∃ (z : Int) (p0 : Option Addr) (x0 y0 : Nat) (p1 : Option Addr) (x1 y1 : Nat), e = .returned (.tuple #[.agg #[.int .i64 z, .slice p0 x0 y0, .slice p1 x1 y1], .bool o0]) ∧ Up W w') := fun W => by
    rw [← h0]
    exact Read_any n t q b x W hx (by omega) (by omega) (by omega) (by omega) (by omega) hq2
  have HR1 : Hid (∀ W, Calls Tryz.prog 42 #[.agg #[.int .i64 n, .int .i64 t, .int .i64 q, .int .i64 b], .string y] W fun e w' => ∃ (z : Int) (p0 : Option Addr) (x0 y0 : Nat) (p1 : Option Addr) (x1 y1 : Nat), e = .returned (.tuple #[.agg #[.int .i64 z, .slice p0 x0 y0, .slice p1 x1 y1], .bool o1]) ∧ Up W w') := fun W => by
    rw [← h1]
    exact Read_any n t q b y W hy (by omega) (by omega) (by omega) (by omega) (by omega) hq2
  clear h0 h1
  rcases h with rfl | ⟨rfl, rfl⟩
  all_goals
    go_enter Tryz.func48, Tryz.ntmps48
    go_wp2_with fail
    refine (refGood_calls _ _ _ _ _).mono ?_
    rintro e w1 ⟨rfl, hu1⟩
    obtain ⟨hc, hf⟩ := bcell hu1
    go_wp2_with fail
    refine Calls.mono (HR0.out _) ?_
    rintro e w2 ⟨z, p0, x0, y0, p1, x1, y1, rfl, hu2⟩
    clear hc hf
    obtain ⟨hc, hf⟩ := bcell ((hu1.trans hu2).trans ((Up.refl _).alloc (.cells #[.int .i64 z, .slice p0 x0 y0, .slice p1 x1 y1] 98)))
    go_wp2_with fail
    refine Calls.mono (HR1.out _) ?_
    rintro e w3 ⟨z', p0', x0', y0', p1', x1', y1', rfl, hu3⟩
    clear hc hf
    go_wp2_with fail
    go_ret2
    exact ⟨rfl, Up.alloc ((((((Up.refl _).alloc _).trans hu1).trans hu2).alloc _).trans hu3) _⟩

end Go.Proofs.YtcjhgbljhpflfabGreat

namespace Go.Proofs.YtcjhgbljhpflfabGreat
open Go.RowKit
set_option linter.unusedVariables false
set_option maxRecDepth 100000

/-- what Add answers -/
def addL (n t : Nat) (q : Int) (x y : List UInt8) : List UInt8 × Int :=
  tellL t q (ctE x + ctE y + (q % (t : Int)).toNat) (plusI n (ct0 x n) (ct0 y n) q) (plusI n (ct1 x n) (ct1 y n) q)

theorem keep10 {p0 p1 p2 p3 p4 p5 p6 p7 p8 p9 : Addr} {u0 u1 u2 u3 u4 u5 u6 u7 u8 u9 : Value} {W W' : World} (hu : Up W W')
    (hS : W.cell? p0 = some u0 ∧ W.cell? p1 = some u1 ∧ W.cell? p2 = some u2 ∧ W.cell? p3 = some u3 ∧ W.cell? p4 = some u4 ∧ W.cell? p5 = some u5 ∧ W.cell? p6 = some u6 ∧ W.cell? p7 = some u7 ∧ W.cell? p8 = some u8 ∧ W.cell? p9 = some u9) :
    W'.cell? p0 = some u0 ∧ W'.cell? p1 = some u1 ∧ W'.cell? p2 = some u2 ∧ W'.cell? p3 = some u3 ∧ W'.cell? p4 = some u4 ∧ W'.cell? p5 = some u5 ∧ W'.cell? p6 = some u6 ∧ W'.cell? p7 = some u7 ∧ W'.cell? p8 = some u8 ∧ W'.cell? p9 = some u9 := by
  obtain ⟨h0, h1, h2, h3, h4, h5, h6, h7, h8, h9⟩ := hS
  exact ⟨keepP hu h0, keepP hu h1, keepP hu h2, keepP hu h3, keepP hu h4, keepP hu h5, keepP hu h6, keepP hu h7, keepP hu h8, keepP hu h9⟩

theorem ctE_lt (l : List UInt8) (n : Nat) (t q : Int) (ht : 1 ≤ t) (hq : 0 ≤ q) (h : ctB l n t q = true) : (ctE l : Int) < q := by
  obtain ⟨_, _, _, _, h5⟩ := (ctB_iff _ _ _ _).1 h
  rcases Int.lt_or_le (ctE l : Int) q with c | c
  · exact c
  · rw [fitsB_far ht hq c] at h5
    exact absurd h5 (by decide)

set_option maxRecDepth 100000 in
set_option maxHeartbeats 4000000 in
theorem refAdd_ok (n t : Nat) (q b : Int) (x y : ByteArray) (w : World) (hx : x.size ≤ maxLen) (hy : y.size ≤ maxLen) (g : NT n t) (hq : 2 ≤ q) (hq2 : q ≤ 1073741823) (hg : goodB n t q b = true) (h0 : ctB x.data.toList n t q = true) (h1 : ctB y.data.toList n t q = true) :
    Calls Tryz.prog 48 #[.agg #[.int .i64 n, .int .i64 t, .int .i64 q, .int .i64 b], .string x, .string y] w fun e w' => e = .returned (.tuple #[.string ⟨(addL n t q x.data.toList y.data.toList).1.toArray⟩, .int .i64 (addL n t q x.data.toList y.data.toList).2]) ∧ Up w w' := by
  have ht := g.t3
  have ht2 := g.ht
  obtain ⟨hd1, hd2, hd3⟩ := g.half
  have hm := mod_bounds (show (0 : Int) < (t : Int) by omega) q
  have hE0 := ctE_lt _ _ _ _ (by omega) (by omega) h0
  have hE1 := ctE_lt _ _ _ _ (by omega) (by omega) h1
  have HX0 : Hid _ := ct0_bnd x.data.toList n t q h0 hq2 4294967296 (by omega)
  have HX1 : Hid _ := ct1_bnd x.data.toList n t q h0 hq2 4294967296 (by omega)
  have HY0 : Hid _ := ct0_bnd y.data.toList n t q h1 hq2 4294967296 (by omega)
  have HY1 : Hid _ := ct1_bnd y.data.toList n t q h1 hq2 4294967296 (by omega)
  have HA : Hid (addL n t q x.data.toList y.data.toList = tellL t q (ctE x.data.toList + ctE y.data.toList + (q % (t : Int)).toNat) (plusI n (ct0 x.data.toList n) (ct0 y.data.toList n) q) (plusI n (ct1 x.data.toList n) (ct1 y.data.toList n) q)) := rfl
  generalize addL n t q x.data.toList y.data.toList = ans at HA
  go_enter Tryz.func48, Tryz.ntmps48
  go_wp2_with fail
  refine (refGood_calls _ _ _ _ _).mono ?_
  rintro e w1 ⟨rfl, hu1⟩
  obtain ⟨hc, hf⟩ := bcell hu1
  go_wp2_with fail
  refine (Read_ok n t q b x _ hx (by omega) (by omega) (by omega) (by omega) (by omega) hq2 h0).mono ?_
  rintro e w2 ⟨g0, c0, g1, c1, rfl, ho0, ho1, hu2⟩
  have i0 := ho0.isI
  have i1 := ho1.isI
  clear hc hf ho0 ho1
  obtain ⟨hc, hf⟩ := bcell ((hu1.trans hu2).trans ((Up.refl _).alloc (.cells #[.int .i64 (ctE x.data.toList), .slice (some ⟨g0, 0, none⟩) n c0, .slice (some ⟨g1, 0, none⟩) n c1] 98)))
  go_wp2_with fail
  refine (Read_ok n t q b y _ hy (by omega) (by omega) (by omega) (by omega) (by omega) hq2 h1).mono ?_
  rintro e w3 ⟨g2, c2, g3, c3, rfl, ho2, ho3, hu3⟩
  have i2 := ho2.isI
  have i3 := ho3.isI
  clear hc hf ho2 ho3
  obtain ⟨W2, hW2⟩ : ∃ W, W = w2.alloc (.cells #[.int .i64 (ctE x.data.toList), .slice (some ⟨g0, 0, none⟩) n c0, .slice (some ⟨g1, 0, none⟩) n c1] 98) := ⟨_, rfl⟩
  obtain ⟨W, hW⟩ : ∃ W, W = w3.alloc (.cells #[.int .i64 (ctE y.data.toList), .slice (some ⟨g2, 0, none⟩) n c2, .slice (some ⟨g3, 0, none⟩) n c3] 98) := ⟨_, rfl⟩
  rw [← hW2] at hu3
  have huW2 : Up w2 W2 := by rw [hW2]; exact (Up.refl _).alloc _
  have huW : Up w3 W := by rw [hW]; exact (Up.refl _).alloc _
  have hu2W := (huW2.trans hu3).trans huW
  have hu1W := (hu1.trans hu2).trans hu2W
  obtain ⟨hc, hf⟩ := bcell hu1W
  have hS0 : W.cell? ⟨w.heap.size, 0, none⟩ = some (.int .i64 (n : Int)) := by rw [hc _ _ (by simp)]; simp
  have hS1 : W.cell? ⟨w.heap.size, 1, none⟩ = some (.int .i64 (t : Int)) := by rw [hc _ _ (by simp)]; simp
  have hS2 : W.cell? ⟨w.heap.size, 2, none⟩ = some (.int .i64 q) := by rw [hc _ _ (by simp)]; simp
  have hS3 : W.cell? ⟨w.heap.size, 3, none⟩ = some (.int .i64 b) := by rw [hc _ _ (by simp)]; simp
  have hX0 : W.cell? ⟨w2.heap.size, 0, none⟩ = some (.int .i64 (ctE x.data.toList)) := keepU (hu3.trans huW) (by rw [hW2]; simp)
  have hX1 : W.cell? ⟨w2.heap.size, 1, none⟩ = some (.slice (some ⟨g0, 0, none⟩) n c0) := keepU (hu3.trans huW) (by rw [hW2]; simp)
  have hX2 : W.cell? ⟨w2.heap.size, 2, none⟩ = some (.slice (some ⟨g1, 0, none⟩) n c1) := keepU (hu3.trans huW) (by rw [hW2]; simp)
  have hY0 : W.cell? ⟨w3.heap.size, 0, none⟩ = some (.int .i64 (ctE y.data.toList)) := by rw [hW]; simp
  have hY1 : W.cell? ⟨w3.heap.size, 1, none⟩ = some (.slice (some ⟨g2, 0, none⟩) n c2) := by rw [hW]; simp
  have hY2 : W.cell? ⟨w3.heap.size, 2, none⟩ = some (.slice (some ⟨g3, 0, none⟩) n c3) := by rw [hW]; simp
  have j0 := i0.up hu2W
  have j1 := i1.up hu2W
  have j2 := i2.up huW
  have j3 := i3.up huW
  have L0 : Hid _ := ct0_length x.data.toList n
  have L1 : Hid _ := ct1_length x.data.toList n
  have L2 : Hid _ := ct0_length y.data.toList n
  have L3 : Hid _ := ct1_length y.data.toList n
  generalize ct0 x.data.toList n = a0 at j0 HX0 HA L0 i0
  generalize ct1 x.data.toList n = a1 at j1 HX1 HA L1 i1
  generalize ct0 y.data.toList n = b0 at j2 HY0 HA L2 i2
  generalize ct1 y.data.toList n = b1 at j3 HY1 HA L3 i3
  clear hc hf i0 i1 i2 i3
  have hR : q % (t : Int) = ((q % (t : Int)).toNat : Int) := by omega
  have eR : q.tmod (t : Int) = ((q % (t : Int)).toNat : Int) := by rw [Int.tmod_eq_emod_of_nonneg (by omega)]; exact hR
  have hRb : (q % (t : Int)).toNat ≤ 1021 := by omega
  generalize (q % (t : Int)).toNat = R at eR hRb HA
  generalize ctE x.data.toList = E0 at hE0 hX0 HA
  generalize ctE y.data.toList = E1 at hE1 hY0 HA hW
  have e1 : IntKind.i64.wrap ((E0 : Int) + (E1 : Int)) = (E0 : Int) + (E1 : Int) := IntWalk.i64_in _ (by omega)
  have e2 : IntKind.i64.wrap ((E0 : Int) + (E1 : Int) + (R : Int)) = ((E0 + E1 + R : Nat) : Int) := by rw [IntWalk.i64_in _ (by omega)]; omega
  have hSb : E0 + E1 + R ≤ 1125899906842624 := by omega
  generalize E0 + E1 + R = S at e2 hSb HA
  have et1 : ¬ (t : Int) = 0 := by omega
  have et2 : ¬ t = 0 := by omega
  have et0 : ((t : Int) == 0) = false := beq_eq_false_iff_ne.2 et1
  have HP0 : Hid _ := plusI_bounds n a0 b0 q (by omega)
  have HP1 : Hid _ := plusI_bounds n a1 b1 q (by omega)
  clear hR hm
  go_wp2_with fail
  rw [← hW]
  have HW : Hid _ := hW
  clear hW hW2
  go_region_held3 (fun w' => w'.cell? ⟨w.heap.size, 0, none⟩ = some (.int .i64 (n : Int)) ∧ w'.cell? ⟨w.heap.size, 1, none⟩ = some (.int .i64 (t : Int)) ∧ w'.cell? ⟨w.heap.size, 2, none⟩ = some (.int .i64 q) ∧ w'.cell? ⟨w.heap.size, 3, none⟩ = some (.int .i64 b) ∧ w'.cell? ⟨w2.heap.size, 0, none⟩ = some (.int .i64 (E0 : Int)) ∧ w'.cell? ⟨w2.heap.size, 1, none⟩ = some (.slice (some ⟨g0, 0, none⟩) n c0) ∧ w'.cell? ⟨w2.heap.size, 2, none⟩ = some (.slice (some ⟨g1, 0, none⟩) n c1) ∧ w'.cell? ⟨w3.heap.size, 0, none⟩ = some (.int .i64 (E1 : Int)) ∧ w'.cell? ⟨w3.heap.size, 1, none⟩ = some (.slice (some ⟨g2, 0, none⟩) n c2) ∧ w'.cell? ⟨w3.heap.size, 2, none⟩ = some (.slice (some ⟨g3, 0, none⟩) n c3))
    (first | go_keep | exact keep10 hu6 (by assumption) | exact keep10 hu5 (by assumption) | exact keep10 hu4 (by assumption))
    ((first | (go_at_call_of 109 (Value.slice (some ⟨g0, 0, none⟩) n c0); refine (Plus_calls n a0 b0 g0 g2 c0 c2 q _ (by omega) L0.out L2.out (by omega) hq2 HX0.out HY0.out (by exact j0.up (Up.drew (Up.refl _))) (by exact j2.up (Up.drew (Up.refl _)))).mono ?_; rintro e w4 ⟨v4, rfl, ho4, hu4⟩; obtain ⟨g4, c4, rfl, hg4, i4⟩ := ho4.is (ne_nil_of_length (plusI_length _ _ _ _) (by omega)); rw [plusI_length]) | (go_at_call_of 109 (Value.slice (some ⟨g1, 0, none⟩) n c1); refine (Plus_calls n a1 b1 g1 g3 c1 c3 q _ (by omega) L1.out L3.out (by omega) hq2 HX1.out HY1.out (by exact (j1.up (Up.drew (Up.refl _))).up hu4) (by exact (j3.up (Up.drew (Up.refl _))).up hu4)).mono ?_; rintro e w5 ⟨v5, rfl, ho5, hu5⟩; obtain ⟨g5, c5, rfl, hg5, i5⟩ := ho5.is (ne_nil_of_length (plusI_length _ _ _ _) (by omega)); rw [plusI_length]) | (go_at_call 103; refine (Told_any n S t q b (plusI n a0 b0 q) (plusI n a1 b1 q) g4 g5 c4 c5 _ (by omega) (by omega) (by omega) (by omega) hq2 hSb (plusI_length _ _ _ _) (plusI_length _ _ _ _) (fun i hi => by have := HP0.out i hi; omega) (fun i hi => by have := HP1.out i hi; omega) (by exact i4.up hu5) i5).mono ?_; rintro e w6 ⟨rfl, hu6⟩)))
  rw [← HA.out]
  have huW6 : Up W w6 := Up.trans (Up.trans (Up.trans (Up.drew (Up.refl _)) hu4) hu5) hu6
  clear hu4 hu5 hu6 ho4 ho5 i4 i5
  go_wp2_with fail
  go_ret2
  exact ⟨rfl, (((Up.refl _).alloc _).trans hu1W).trans huW6⟩

end Go.Proofs.YtcjhgbljhpflfabGreat

namespace Go.Proofs.YtcjhgbljhpflfabGreat
open Go.RowKit
set_option linter.unusedVariables false
set_option maxRecDepth 100000

/-- what AddPlain answers -/
def addPlainL (n t : Nat) (q : Int) (x v : List UInt8) : List UInt8 × Int :=
  tellL t q (ctE x + (q % (t : Int)).toNat) (plusI n (ct0 x n) (scaledI n (encI n t (numsL v 2 n)) (q / (t : Int)) q) q) (ct1 x n)

theorem keep7 {p0 p1 p2 p3 p4 p5 p6 : Addr} {u0 u1 u2 u3 u4 u5 u6 : Value} {W W' : World} (hu : Up W W')
    (hS : W.cell? p0 = some u0 ∧ W.cell? p1 = some u1 ∧ W.cell? p2 = some u2 ∧ W.cell? p3 = some u3 ∧ W.cell? p4 = some u4 ∧ W.cell? p5 = some u5 ∧ W.cell? p6 = some u6) :
    W'.cell? p0 = some u0 ∧ W'.cell? p1 = some u1 ∧ W'.cell? p2 = some u2 ∧ W'.cell? p3 = some u3 ∧ W'.cell? p4 = some u4 ∧ W'.cell? p5 = some u5 ∧ W'.cell? p6 = some u6 := by
  obtain ⟨h0, h1, h2, h3, h4, h5, h6⟩ := hS
  exact ⟨keepP hu h0, keepP hu h1, keepP hu h2, keepP hu h3, keepP hu h4, keepP hu h5, keepP hu h6⟩

set_option maxHeartbeats 400000 in
theorem refAddPlain_bad (n t q b : Int) (x v : ByteArray) (w : World) (hg : goodB n t q b = false) :
    Calls Tryz.prog 49 #[.agg #[.int .i64 n, .int .i64 t, .int .i64 q, .int .i64 b], .string x, .string v] w fun e w' => e = .returned (.tuple #[.string ⟨#[]⟩, .int .i64 1]) ∧ Up w w' := by
  go_enter Tryz.func49, Tryz.ntmps49
  go_wp2_with (go_at_call 40; refine (refGood_calls _ _ _ _ _).mono ?_; rintro e w' ⟨rfl, hu⟩)
  go_ret2
  exact ⟨rfl, ((Up.refl _).alloc _).trans hu⟩

set_option maxHeartbeats 1000000 in
theorem refAddPlain_form (n t : Nat) (q b : Int) (x v : ByteArray) (w : World) (hx : x.size ≤ maxLen) (g : NT n t) (hq : 2 ≤ q) (hq2 : q ≤ 1073741823) (hg : goodB n t q b = true) (h0 : ctB x.data.toList n t q = false) :
    Calls Tryz.prog 49 #[.agg #[.int .i64 n, .int .i64 t, .int .i64 q, .int .i64 b], .string x, .string v] w fun e w' => e = .returned (.tuple #[.string ⟨#[]⟩, .int .i64 2]) ∧ Up w w' := by
  have ht := g.t3
  have ht2 := g.ht
  obtain ⟨hd1, hd2, hd3⟩ := g.half
  go_enter Tryz.func49, Tryz.ntmps49
  go_wp2_with fail
  refine (refGood_calls _ _ _ _ _).mono ?_
  rintro e w1 ⟨rfl, hu1⟩
  obtain ⟨hc, hf⟩ := bcell hu1
  go_wp2_with fail
  refine Calls.mono (Read_no n t q b x _ hx (by omega) (by omega) (by omega) (by omega) (by omega) hq2 h0) ?_
  rintro e w2 ⟨z, p0, x0, y0, p1, x1, y1, rfl, hu2⟩
  clear hc hf
  go_wp2_with fail
  go_ret2
  exact ⟨rfl, Up.alloc ((((Up.refl _).alloc _).trans hu1).trans hu2) _⟩

set_option maxHeartbeats 1000000 in
theorem refAddPlain_val (n t : Nat) (q b : Int) (x v : ByteArray) (w : World) (hx : x.size ≤ maxLen) (hv : v.size ≤ maxLen) (g : NT n t) (hq : 2 ≤ q) (hq2 : q ≤ 1073741823) (hg : goodB n t q b = true) (h0 : ctB x.data.toList n t q = true) (hok : okL v.data.toList n 2 t = false) :
    Calls Tryz.prog 49 #[.agg #[.int .i64 n, .int .i64 t, .int .i64 q, .int .i64 b], .string x, .string v] w fun e w' => e = .returned (.tuple #[.string ⟨#[]⟩, .int .i64 3]) ∧ Up w w' := by
  have ht := g.t3
  have ht2 := g.ht
  obtain ⟨hd1, hd2, hd3⟩ := g.half
  go_enter Tryz.func49, Tryz.ntmps49
  go_wp2_with fail
  refine (refGood_calls _ _ _ _ _).mono ?_
  rintro e w1 ⟨rfl, hu1⟩
  obtain ⟨hc, hf⟩ := bcell hu1
  go_wp2_with fail
  refine (Read_ok n t q b x _ hx (by omega) (by omega) (by omega) (by omega) (by omega) hq2 h0).mono ?_
  rintro e w2 ⟨g0, c0, g1, c1, rfl, ho0, ho1, hu2⟩
  clear hc hf ho0 ho1
  obtain ⟨hc, hf⟩ := bcell ((hu1.trans hu2).trans ((Up.refl _).alloc (.cells #[.int .i64 (ctE x.data.toList), .slice (some ⟨g0, 0, none⟩) n c0, .slice (some ⟨g1, 0, none⟩) n c1] 98)))
  go_wp2_with fail
  refine (Values_no n t q b v _ hv (by omega) hok).mono ?_
  rintro e w3 ⟨rfl, hu3⟩
  clear hc hf
  go_wp2_with fail
  go_ret2
  exact ⟨rfl, (((((Up.refl _).alloc _).trans hu1).trans hu2).alloc _).trans hu3⟩

theorem ct1_bounds (l : List UInt8) (n : Nat) (t q : Int) (h : ctB l n t q = true) : ∀ i, i < (ct1 l n).length → 0 ≤ (ct1 l n).getD i 0 ∧ (ct1 l n).getD i 0 < q := by
  obtain ⟨_, _, _, h4, _⟩ := (ctB_iff _ _ _ _).1 h
  intro i hi
  rw [ct1_length] at hi
  unfold ct1
  rw [getD_range hi]
  have := ((okL_iff _ _ _ _).1 h4).2 i hi
  rw [numL_drop, Nat.mul_comm i 4] at this
  omega

set_option maxRecDepth 100000 in
set_option maxHeartbeats 4000000 in
theorem refAddPlain_ok (n t : Nat) (q b : Int) (x v : ByteArray) (w : World) (hx : x.size ≤ maxLen) (hv : v.size ≤ maxLen) (g : NT n t) (hq : 2 ≤ q) (hq2 : q ≤ 1073741823) (hg : goodB n t q b = true) (h0 : ctB x.data.toList n t q = true) (hok : okL v.data.toList n 2 t = true) :
    Calls Tryz.prog 49 #[.agg #[.int .i64 n, .int .i64 t, .int .i64 q, .int .i64 b], .string x, .string v] w fun e w' => e = .returned (.tuple #[.string ⟨(addPlainL n t q x.data.toList v.data.toList).1.toArray⟩, .int .i64 (addPlainL n t q x.data.toList v.data.toList).2]) ∧ Up w w' := by
  have ht := g.t3
  have ht2 := g.ht
  obtain ⟨hd1, hd2, hd3⟩ := g.half
  have hm := mod_bounds (show (0 : Int) < (t : Int) by omega) q
  have hE0 := ctE_lt _ _ _ _ (by omega) (by omega) h0
  have HX0 : Hid _ := ct0_bnd x.data.toList n t q h0 hq2 4294967296 (by omega)
  have HX1 : Hid _ := ct1_bounds x.data.toList n t q h0
  have HB : Hid _ := numsL_lt v.data.toList 2 n t hok
  have hdel1 : 0 ≤ q / (t : Int) := Int.ediv_nonneg (by omega) (by omega)
  have hdel2 : q / (t : Int) ≤ 1073741823 := by have := Int.ediv_le_self (t : Int) (a := q) (by omega); omega
  have eq1 : IntKind.i64.wrap (q.tdiv (t : Int)) = q / (t : Int) := IntWalk.i64_quo _ _ (by omega)
  have HA : Hid (addPlainL n t q x.data.toList v.data.toList = tellL t q (ctE x.data.toList + (q % (t : Int)).toNat) (plusI n (ct0 x.data.toList n) (scaledI n (encI n t (numsL v.data.toList 2 n)) (q / (t : Int)) q) q) (ct1 x.data.toList n)) := rfl
  generalize addPlainL n t q x.data.toList v.data.toList = ans at HA
  go_enter Tryz.func49, Tryz.ntmps49
  go_wp2_with fail
  refine (refGood_calls _ _ _ _ _).mono ?_
  rintro e w1 ⟨rfl, hu1⟩
  obtain ⟨hc, hf⟩ := bcell hu1
  go_wp2_with fail
  refine (Read_ok n t q b x _ hx (by omega) (by omega) (by omega) (by omega) (by omega) hq2 h0).mono ?_
  rintro e w2 ⟨g0, c0, g1, c1, rfl, ho0, ho1, hu2⟩
  have i0 := ho0.isI
  have i1 := ho1.isI
  clear hc hf ho0 ho1
  obtain ⟨hc, hf⟩ := bcell ((hu1.trans hu2).trans ((Up.refl _).alloc (.cells #[.int .i64 (ctE x.data.toList), .slice (some ⟨g0, 0, none⟩) n c0, .slice (some ⟨g1, 0, none⟩) n c1] 98)))
  go_wp2_with fail
  refine (Values_ok n t q b v _ hv (by omega) hok).mono ?_
  rintro e W ⟨v3, rfl, ho3, hu3⟩
  obtain ⟨gv, cv, rfl, _, iv⟩ := ho3.is (ne_nil_of_length (numsL_length _ _ _) (by omega))
  rw [numsL_length]
  clear hc hf ho3
  obtain ⟨W2, hW2⟩ : ∃ W, W = w2.alloc (.cells #[.int .i64 (ctE x.data.toList), .slice (some ⟨g0, 0, none⟩) n c0, .slice (some ⟨g1, 0, none⟩) n c1] 98) := ⟨_, rfl⟩
  rw [← hW2] at hu3
  have huW2 : Up w2 W2 := by rw [hW2]; exact (Up.refl _).alloc _
  have hu2W := huW2.trans hu3
  have hu1W := (hu1.trans hu2).trans hu2W
  obtain ⟨hc, hf⟩ := bcell hu1W
  have hS0 : W.cell? ⟨w.heap.size, 0, none⟩ = some (.int .i64 (n : Int)) := by rw [hc _ _ (by simp)]; simp
  have hS1 : W.cell? ⟨w.heap.size, 1, none⟩ = some (.int .i64 (t : Int)) := by rw [hc _ _ (by simp)]; simp
  have hS2 : W.cell? ⟨w.heap.size, 2, none⟩ = some (.int .i64 q) := by rw [hc _ _ (by simp)]; simp
  have hS3 : W.cell? ⟨w.heap.size, 3, none⟩ = some (.int .i64 b) := by rw [hc _ _ (by simp)]; simp
  have hX0 : W.cell? ⟨w2.heap.size, 0, none⟩ = some (.int .i64 (ctE x.data.toList)) := keepU hu3 (by rw [hW2]; simp)
  have hX1 : W.cell? ⟨w2.heap.size, 1, none⟩ = some (.slice (some ⟨g0, 0, none⟩) n c0) := keepU hu3 (by rw [hW2]; simp)
  have hX2 : W.cell? ⟨w2.heap.size, 2, none⟩ = some (.slice (some ⟨g1, 0, none⟩) n c1) := keepU hu3 (by rw [hW2]; simp)
  have j0 := i0.up hu2W
  have j1 := i1.up hu2W
  have L0 : Hid _ := ct0_length x.data.toList n
  have L1 : Hid _ := ct1_length x.data.toList n
  have HVL : Hid _ := numsL_length v.data.toList 2 n
  generalize ct0 x.data.toList n = a0 at j0 HX0 HA L0 i0
  generalize ct1 x.data.toList n = a1 at j1 HX1 HA L1 i1
  generalize numsL v.data.toList 2 n = vs at iv HVL HA HB
  clear hc hf i0 i1 hW2
  have hR : q % (t : Int) = ((q % (t : Int)).toNat : Int) := by omega
  have eR : q.tmod (t : Int) = ((q % (t : Int)).toNat : Int) := by rw [Int.tmod_eq_emod_of_nonneg (by omega)]; exact hR
  have hRb : (q % (t : Int)).toNat ≤ 1021 := by omega
  generalize (q % (t : Int)).toNat = R at eR hRb HA
  generalize ctE x.data.toList = E0 at hE0 hX0 HA
  have e2 : IntKind.i64.wrap ((E0 : Int) + (R : Int)) = ((E0 + R : Nat) : Int) := by rw [IntWalk.i64_in _ (by omega)]; omega
  have hSb : E0 + R ≤ 1125899906842624 := by omega
  generalize E0 + R = S at e2 hSb HA
  have et1 : ¬ (t : Int) = 0 := by omega
  have et2 : ¬ t = 0 := by omega
  have et0 : ((t : Int) == 0) = false := beq_eq_false_iff_ne.2 et1
  have HP0 : Hid _ := plusI_bounds n a0 (scaledI n (encI n t vs) (q / (t : Int)) q) q (by omega)
  clear hR hm
  go_wp2_with fail
  go_region_held3 (fun w' => w'.cell? ⟨w.heap.size, 0, none⟩ = some (.int .i64 (n : Int)) ∧ w'.cell? ⟨w.heap.size, 1, none⟩ = some (.int .i64 (t : Int)) ∧ w'.cell? ⟨w.heap.size, 2, none⟩ = some (.int .i64 q) ∧ w'.cell? ⟨w.heap.size, 3, none⟩ = some (.int .i64 b) ∧ w'.cell? ⟨w2.heap.size, 0, none⟩ = some (.int .i64 (E0 : Int)) ∧ w'.cell? ⟨w2.heap.size, 1, none⟩ = some (.slice (some ⟨g0, 0, none⟩) n c0) ∧ w'.cell? ⟨w2.heap.size, 2, none⟩ = some (.slice (some ⟨g1, 0, none⟩) n c1))
    (first | go_keep | exact keep7 hu7 (by assumption) | exact keep7 hu6 (by assumption) | exact keep7 hu5 (by assumption) | exact keep7 hu4 (by assumption))
    ((first | (go_at_call 101; refine (Poly_calls n t q b vs gv cv _ g HVL.out HB.out (by exact iv.up (Up.drew (Up.refl _)))).mono ?_; rintro e w4 ⟨v4, rfl, ho4, hu4⟩; obtain ⟨g4, c4, rfl, hg4, i4⟩ := ho4.is (ne_nil_of_length (encI_length _ _ _) (by omega)); rw [encI_length]) | (go_at_call 111; refine (Scaled_calls n _ g4 c4 (q / (t : Int)) q _ (by omega) (encI_length _ _ _) (by omega) hq2 (by omega) (by omega) i4).mono ?_; rintro e w5 ⟨v5, rfl, ho5, hu5⟩; obtain ⟨g5, c5, rfl, hg5, i5⟩ := ho5.is (ne_nil_of_length (scaledI_length _ _ _ _) (by omega)); rw [scaledI_length]) | (go_at_call 109; refine (Plus_calls n a0 _ g0 g5 c0 c5 q _ (by omega) L0.out (scaledI_length _ _ _ _) (by omega) hq2 HX0.out (Bnd_mod (by omega) (by omega) (fun i => ⟨_, rfl⟩)) (by exact ((j0.up (Up.drew (Up.refl _))).up hu4).up hu5) i5).mono ?_; rintro e w6 ⟨v6, rfl, ho6, hu6⟩; obtain ⟨g6, c6, rfl, hg6, i6⟩ := ho6.is (ne_nil_of_length (plusI_length _ _ _ _) (by omega)); rw [plusI_length]) | (go_at_call 103; refine (Told_any n S t q b _ a1 g6 g1 c6 c1 _ (by omega) (by omega) (by omega) (by omega) hq2 hSb (plusI_length _ _ _ _) L1.out (fun i hi => by have := HP0.out i hi; omega) (fun i hi => by have := HX1.out i hi; omega) i6 (by exact (((j1.up (Up.drew (Up.refl _))).up hu4).up hu5).up hu6)).mono ?_; rintro e w7 ⟨rfl, hu7⟩)))
  rw [← HA.out]
  have huW7 : Up W w7 := Up.trans (Up.trans (Up.trans (Up.trans (Up.drew (Up.refl _)) hu4) hu5) hu6) hu7
  clear hu4 hu5 hu6 hu7 ho4 ho5 ho6 i4 i5 i6
  go_wp2_with fail
  go_ret2
  exact ⟨rfl, (((Up.refl _).alloc _).trans hu1W).trans huW7⟩

end Go.Proofs.YtcjhgbljhpflfabGreat

namespace Go.Proofs.YtcjhgbljhpflfabGreat
open Go.RowKit
set_option linter.unusedVariables false
set_option maxRecDepth 100000

/-- a number below t, centred -/
def cenC (t x : Int) : Int := if t < 2 * x then x - t else x
def cenI (n : Nat) (t : Int) (ms : List Int) : List Int := (List.range n).map fun i => cenC t (ms.getD i 0)
def absS (t : Int) (ms : List Int) (k : Nat) : Nat := sumN (fun i => (cenC t (ms.getD i 0)).natAbs) k

set_option maxHeartbeats 400000 in
theorem Centred_calls (x t : Int) (w : World) (hx : 0 ≤ x) (hx2 : x < t) (ht : t ≤ 1048576) :
    Calls Tryz.prog 102 #[.int .i64 x, .int .i64 t] w fun e w' => e = .returned (.int .i64 (cenC t x)) ∧ w' = w := by
  by_cases h : t < 2 * x
  · have H : Hid (cenC t x = x - t) := if_pos h
    go_enter Tryz.func102, Tryz.ntmps102
    go_wp2
    go_ret
    exact ⟨ret_int (by rw [H.out]), rfl⟩
  · have H : Hid (cenC t x = x) := if_neg h
    go_enter Tryz.func102, Tryz.ntmps102
    go_wp2
    go_ret
    exact ⟨ret_int (by rw [H.out]), rfl⟩

theorem cenC_bounds (t x : Int) (hx : 0 ≤ x) (hx2 : x < t) : -t < 2 * cenC t x ∧ 2 * cenC t x ≤ t := by
  unfold cenC
  split <;> omega

/-- what MulPlain answers -/
def mulPlainL (n t : Nat) (q : Int) (x v : List UInt8) : List UInt8 × Int :=
  tellL t q (absS t (encI n t (numsL v 2 n)) n * (ctE x + (q % (t : Int)).toNat)) (timesI n (ct0 x n) (cenI n t (encI n t (numsL v 2 n))) q) (timesI n (ct1 x n) (cenI n t (encI n t (numsL v 2 n))) q)

set_option maxHeartbeats 400000 in
theorem refMulPlain_bad (n t q b : Int) (x v : ByteArray) (w : World) (hg : goodB n t q b = false) :
    Calls Tryz.prog 45 #[.agg #[.int .i64 n, .int .i64 t, .int .i64 q, .int .i64 b], .string x, .string v] w fun e w' => e = .returned (.tuple #[.string ⟨#[]⟩, .int .i64 1]) ∧ Up w w' := by
  go_enter Tryz.func45, Tryz.ntmps45
  go_wp2_with (go_at_call 40; refine (refGood_calls _ _ _ _ _).mono ?_; rintro e w' ⟨rfl, hu⟩)
  go_ret2
  exact ⟨rfl, ((Up.refl _).alloc _).trans hu⟩

set_option maxHeartbeats 1000000 in
theorem refMulPlain_form (n t : Nat) (q b : Int) (x v : ByteArray) (w : World) (hx : x.size ≤ maxLen) (g : NT n t) (hq : 2 ≤ q) (hq2 : q ≤ 1073741823) (hg : goodB n t q b = true) (h0 : ctB x.data.toList n t q = false) :
    Calls Tryz.prog 45 #[.agg #[.int .i64 n, .int .i64 t, .int .i64 q, .int .i64 b], .string x, .string v] w fun e w' => e = .returned (.tuple #[.string ⟨#[]⟩, .int .i64 2]) ∧ Up w w' := by
  have ht := g.t3
  have ht2 := g.ht
  obtain ⟨hd1, hd2, hd3⟩ := g.half
  go_enter Tryz.func45, Tryz.ntmps45
  go_wp2_with fail
  refine (refGood_calls _ _ _ _ _).mono ?_
  rintro e w1 ⟨rfl, hu1⟩
  obtain ⟨hc, hf⟩ := bcell hu1
  go_wp2_with fail
  refine Calls.mono (Read_no n t q b x _ hx (by omega) (by omega) (by omega) (by omega) (by omega) hq2 h0) ?_
  rintro e w2 ⟨z, p0, x0, y0, p1, x1, y1, rfl, hu2⟩
  clear hc hf
  go_wp2_with fail
  go_ret2
  exact ⟨rfl, Up.alloc ((((Up.refl _).alloc _).trans hu1).trans hu2) _⟩

set_option maxHeartbeats 1000000 in
theorem refMulPlain_val (n t : Nat) (q b : Int) (x v : ByteArray) (w : World) (hx : x.size ≤ maxLen) (hv : v.size ≤ maxLen) (g : NT n t) (hq : 2 ≤ q) (hq2 : q ≤ 1073741823) (hg : goodB n t q b = true) (h0 : ctB x.data.toList n t q = true) (hok : okL v.data.toList n 2 t = false) :
    Calls Tryz.prog 45 #[.agg #[.int .i64 n, .int .i64 t, .int .i64 q, .int .i64 b], .string x, .string v] w fun e w' => e = .returned (.tuple #[.string ⟨#[]⟩, .int .i64 3]) ∧ Up w w' := by
  have ht := g.t3
  have ht2 := g.ht
  obtain ⟨hd1, hd2, hd3⟩ := g.half
  go_enter Tryz.func45, Tryz.ntmps45
  go_wp2_with fail
  refine (refGood_calls _ _ _ _ _).mono ?_
  rintro e w1 ⟨rfl, hu1⟩
  obtain ⟨hc, hf⟩ := bcell hu1
  go_wp2_with fail
  refine (Read_ok n t q b x _ hx (by omega) (by omega) (by omega) (by omega) (by omega) hq2 h0).mono ?_
  rintro e w2 ⟨g0, c0, g1, c1, rfl, ho0, ho1, hu2⟩
  clear hc hf ho0 ho1
  obtain ⟨hc, hf⟩ := bcell ((hu1.trans hu2).trans ((Up.refl _).alloc (.cells #[.int .i64 (ctE x.data.toList), .slice (some ⟨g0, 0, none⟩) n c0, .slice (some ⟨g1, 0, none⟩) n c1] 98)))
  go_wp2_with fail
  refine (Values_no n t q b v _ hv (by omega) hok).mono ?_
  rintro e w3 ⟨rfl, hu3⟩
  clear hc hf
  go_wp2_with fail
  go_ret2
  exact ⟨rfl, (((((Up.refl _).alloc _).trans hu1).trans hu2).alloc _).trans hu3⟩

end Go.Proofs.YtcjhgbljhpflfabGreat

namespace Go.Proofs.YtcjhgbljhpflfabGreat
open Go.RowKit
set_option linter.unusedVariables false
set_option maxRecDepth 100000

theorem absS_succ (t : Int) (ms : List Int) (k : Nat) : absS t ms (k + 1) = absS t ms k + (cenC t (ms.getD k 0)).natAbs := rfl

theorem absS_le (t : Int) (ms : List Int) (n k : Nat) (hk : k ≤ n) (hm : ∀ i, i < n → 0 ≤ ms.getD i 0 ∧ ms.getD i 0 < t) (ht : t ≤ 1021) : absS t ms k ≤ k * 510 := by
  induction k with
  | zero => exact Nat.le_refl _
  | succ k ih =>
    have h1 := ih (by omega)
    have h2 := hm k (by omega)
    have h3 := cenC_bounds t _ h2.1 h2.2
    rw [absS_succ]
    omega

theorem encI_lt {n t : Nat} (g : NT n t) (xs : List Int) : ∀ i, i < n → 0 ≤ (encI n t xs).getD i 0 ∧ (encI n t xs).getD i 0 < (t : Int) := by
  intro i hi
  unfold encI
  rw [getD_range hi]
  exact encC_bounds g xs i

theorem cenI_length (n : Nat) (t : Int) (ms : List Int) : (cenI n t ms).length = n := by simp [cenI]

theorem timesI_bounds (n : Nat) (xs ys : List Int) (q : Int) (hq : 0 < q) (i : Nat) (hi : i < (timesI n xs ys q).length) : 0 ≤ (timesI n xs ys q).getD i 0 ∧ (timesI n xs ys q).getD i 0 < q := by
  rw [timesI_length] at hi
  unfold timesI
  rw [getD_range hi]
  exact mod_bounds hq _

set_option maxRecDepth 100000 in
set_option maxHeartbeats 4000000 in
theorem refMulPlain_ok (n t : Nat) (q b : Int) (x v : ByteArray) (w : World) (hx : x.size ≤ maxLen) (hv : v.size ≤ maxLen) (g : NT n t) (hq : 2 ≤ q) (hq2 : q ≤ 1073741823) (hg : goodB n t q b = true) (h0 : ctB x.data.toList n t q = true) (hok : okL v.data.toList n 2 t = true) :
    Calls Tryz.prog 45 #[.agg #[.int .i64 n, .int .i64 t, .int .i64 q, .int .i64 b], .string x, .string v] w fun e w' => e = .returned (.tuple #[.string ⟨(mulPlainL n t q x.data.toList v.data.toList).1.toArray⟩, .int .i64 (mulPlainL n t q x.data.toList v.data.toList).2]) ∧ Up w w' := by
  have ht := g.t3
  have ht2 := g.ht
  obtain ⟨hd1, hd2, hd3⟩ := g.half
  have hm := mod_bounds (show (0 : Int) < (t : Int) by omega) q
  have hE0 := ctE_lt _ _ _ _ (by omega) (by omega) h0
  have HX0 : Hid _ := ct0_bnd x.data.toList n t q h0 hq2 1073741824 (by omega)
  have HX1 : Hid _ := ct1_bnd x.data.toList n t q h0 hq2 1073741824 (by omega)
  have HB : Hid _ := numsL_lt v.data.toList 2 n t hok
  have HA : Hid (mulPlainL n t q x.data.toList v.data.toList = tellL t q (absS t (encI n t (numsL v.data.toList 2 n)) n * (ctE x.data.toList + (q % (t : Int)).toNat)) (timesI n (ct0 x.data.toList n) (cenI n t (encI n t (numsL v.data.toList 2 n))) q) (timesI n (ct1 x.data.toList n) (cenI n t (encI n t (numsL v.data.toList 2 n))) q)) := rfl
  generalize mulPlainL n t q x.data.toList v.data.toList = ans at HA
  go_enter Tryz.func45, Tryz.ntmps45
  go_wp2_with fail
  refine (refGood_calls _ _ _ _ _).mono ?_
  rintro e w1 ⟨rfl, hu1⟩
  obtain ⟨hc, hf⟩ := bcell hu1
  go_wp2_with fail
  refine (Read_ok n t q b x _ hx (by omega) (by omega) (by omega) (by omega) (by omega) hq2 h0).mono ?_
  rintro e w2 ⟨g0, c0, g1, c1, rfl, ho0, ho1, hu2⟩
  have i0 := ho0.isI
  have i1 := ho1.isI
  clear hc hf ho0 ho1
  obtain ⟨hc, hf⟩ := bcell ((hu1.trans hu2).trans ((Up.refl _).alloc (.cells #[.int .i64 (ctE x.data.toList), .slice (some ⟨g0, 0, none⟩) n c0, .slice (some ⟨g1, 0, none⟩) n c1] 98)))
  go_wp2_with fail
  refine (Values_ok n t q b v _ hv (by omega) hok).mono ?_
  rintro e w3 ⟨v3, rfl, ho3, hu3⟩
  obtain ⟨gv, cv, rfl, _, iv⟩ := ho3.is (ne_nil_of_length (numsL_length _ _ _) (by omega))
  rw [numsL_length]
  clear hc hf ho3
  obtain ⟨W2, hW2⟩ : ∃ W, W = w2.alloc (.cells #[.int .i64 (ctE x.data.toList), .slice (some ⟨g0, 0, none⟩) n c0, .slice (some ⟨g1, 0, none⟩) n c1] 98) := ⟨_, rfl⟩
  rw [← hW2] at hu3
  have huW2 : Up w2 W2 := by rw [hW2]; exact (Up.refl _).alloc _
  have hu23 := huW2.trans hu3
  have hu13 := (hu1.trans hu2).trans hu23
  obtain ⟨hc, hf⟩ := bcell hu13
  have hX0 : w3.cell? ⟨w2.heap.size, 0, none⟩ = some (.int .i64 (ctE x.data.toList)) := keepU hu3 (by rw [hW2]; simp)
  have hX1 : w3.cell? ⟨w2.heap.size, 1, none⟩ = some (.slice (some ⟨g0, 0, none⟩) n c0) := keepU hu3 (by rw [hW2]; simp)
  have hX2 : w3.cell? ⟨w2.heap.size, 2, none⟩ = some (.slice (some ⟨g1, 0, none⟩) n c1) := keepU hu3 (by rw [hW2]; simp)
  have HX0' : Hid _ := hX0
  have HX1' : Hid _ := hX1
  have HX2' : Hid _ := hX2
  clear hW2 hX0 hX1 hX2
  go_wp2_with fail
  refine (Poly_calls n t q b _ gv cv _ g (numsL_length _ _ _) HB.out iv).mono ?_
  rintro e w4 ⟨v4, rfl, ho4, hu4⟩
  obtain ⟨gm, cm, rfl, _, im⟩ := ho4.is (ne_nil_of_length (encI_length _ _ _) (by omega))
  rw [encI_length]
  have HML : Hid _ := encI_length n t (numsL v.data.toList 2 n)
  have HMB : Hid _ := encI_lt g (numsL v.data.toList 2 n)
  generalize encI n t (numsL v.data.toList 2 n) = ms at im HML HMB HA
  have hu14 := hu13.trans hu4
  have HY0 := keepU hu4 HX0'.out
  have HY1 := keepU hu4 HX1'.out
  have HY2 := keepU hu4 HX2'.out
  have HY0 : Hid _ := HY0
  have HY1 : Hid _ := HY1
  have HY2 : Hid _ := HY2
  have j0 := i0.up (hu23.trans hu4)
  have j1 := i1.up (hu23.trans hu4)
  clear hc hf ho4 HX0' HX1' HX2' iv i0 i1
  go_wp2_with fail
  go_loopw [13, 14, 15] (fun wv s j wr => ∃ k : Nat, k ≤ n ∧ j = .int .i64 (k : Int) ∧ s = .int .i64 (absS t ms k) ∧ OwnI wr w4.heap.size wv ((List.range k).map fun i => cenC t (ms.getD i 0)) ∧ Up w4 wr) (fun _ _ j _ => n - (intOf j).toNat)
  case atStart => exact ⟨0, Nat.zero_le _, rfl, rfl, World.ownsRow_nil _ _ _ _, Up.refl _⟩
  case round =>
    obtain ⟨k, hk, rfl, rfl, hown, hur⟩ := hrel
    obtain ⟨hc, hf⟩ := bcell (hu14.trans hur)
    have hsb := absS_le t ms n k hk HMB.out (by omega)
    by_cases hlt : k < n
    · have hcm := (im.up hur).2 k (by rw [HML.out]; omega)
      have hmb := HMB.out k hlt
      have hcb := cenC_bounds t _ hmb.1 hmb.2
      have HR : Hid ((List.range (k + 1)).map (fun i => cenC t (ms.getD i 0)) = (List.range k).map (fun i => cenC t (ms.getD i 0)) ++ [cenC t (ms.getD k 0)]) := map_range_succ _ _
      have HS : Hid _ := absS_succ t ms k
      have HC : Hid (∀ W, Calls Tryz.prog 102 #[.int .i64 (ms.getD k 0), .int .i64 (t : Int)] W fun e w' => e = .returned (.int .i64 (cenC t (ms.getD k 0))) ∧ w' = W) := fun W => Centred_calls _ _ W hmb.1 hmb.2 (by omega)
      generalize cenC t (ms.getD k 0) = y at hcb HR HS HC
      generalize ms.getD k 0 = z at hcm hmb HC
      generalize absS t ms k = S at hsb HS
      have hi0 : (0 : Int) ≤ (k : Int) := by omega
      have hi1 : (k : Int) < (n : Int) := by omega
      go_wp2_with fail
      go_quiet ((go_at_call 102; exact Calls.quiet_of_same (HC.out _)))
      go_wp2_with (at_builtin; refine append_int _ _ rfl _ _ rfl _ _ _ rfl (hown.up (Up.drewN (Up.refl _))) rfl (by simp; omega) (by have := hur.size; exact this) ?_)
      intro v5 w5 hown5 hg5 hb5 _
      have hS1 := HS.out
      by_cases hy : y < 0
      · have e1 : IntKind.i64.wrap (-y) = -y := IntWalk.i64_in _ (by omega)
        have e2 : IntKind.i64.wrap ((S : Int) + -y) = ((S + y.natAbs : Nat) : Int) := by rw [IntWalk.i64_in _ (by omega)]; omega
        go_wp2_with fail
        go_roundw
        case rel => exact ⟨k + 1, by omega, by go_num, by rw [hS1]; push_cast; rfl, by rw [HR.out]; exact hown5, Below.trans (Up.drewN hur) hb5⟩
        case measure => simp [intOf]; omega
      · have e2 : IntKind.i64.wrap ((S : Int) + y) = ((S + y.natAbs : Nat) : Int) := by rw [IntWalk.i64_in _ (by omega)]; omega
        go_wp2_with fail
        go_roundw
        case rel => exact ⟨k + 1, by omega, by go_num, by rw [hS1]; push_cast; rfl, by rw [HR.out]; exact hown5, Below.trans (Up.drewN hur) hb5⟩
        case measure => simp [intOf]; omega
    · obtain rfl : k = n := by omega
      obtain ⟨gw, cw, rfl, _, iw⟩ := hown.is (ne_nil_of_length (n := k) (by simp) (by omega))
      rw [show ((List.range k).map fun i => cenC t (ms.getD i 0)).length = k by simp] 
      have hS0 : wr.cell? ⟨w.heap.size, 0, none⟩ = some (.int .i64 (k : Int)) := by rw [hc _ _ (by simp)]; simp
      have hS1 : wr.cell? ⟨w.heap.size, 1, none⟩ = some (.int .i64 (t : Int)) := by rw [hc _ _ (by simp)]; simp
      have hS2 : wr.cell? ⟨w.heap.size, 2, none⟩ = some (.int .i64 q) := by rw [hc _ _ (by simp)]; simp
      have hS3 : wr.cell? ⟨w.heap.size, 3, none⟩ = some (.int .i64 b) := by rw [hc _ _ (by simp)]; simp
      have hX0 := keepU hur HY0.out
      have hX1 := keepU hur HY1.out
      have hX2 := keepU hur HY2.out
      have k0 := j0.up hur
      have k1 := j1.up hur
      have L0 : Hid _ := ct0_length x.data.toList k
      have L1 : Hid _ := ct1_length x.data.toList k
      have LW : Hid (_ = k) := cenI_length k t ms
      generalize ct0 x.data.toList k = a0 at k0 HX0 HA L0 j0
      generalize ct1 x.data.toList k = a1 at k1 HX1 HA L1 j1
      have HW : Hid ((List.range k).map (fun i => cenC t (ms.getD i 0)) = cenI k t ms) := rfl
      have iw' : IsI wr gw (cenI k t ms) := iw
      clear iw hown
      generalize cenI k t ms = ws at iw' HA LW HW
      clear HY0 HY1 HY2 j0 j1 hc hf HW
      have hR : q % (t : Int) = ((q % (t : Int)).toNat : Int) := by omega
      have eR : q.tmod (t : Int) = ((q % (t : Int)).toNat : Int) := by rw [Int.tmod_eq_emod_of_nonneg (by omega)]; exact hR
      have hRb : (q % (t : Int)).toNat ≤ 1021 := by omega
      generalize (q % (t : Int)).toNat = R at eR hRb HA
      generalize ctE x.data.toList = E0 at hE0 hX0 HA
      generalize absS t ms k = A at hsb HA
      have e2 : IntKind.i64.wrap ((E0 : Int) + (R : Int)) = ((E0 + R : Nat) : Int) := by rw [IntWalk.i64_in _ (by omega)]; omega
      have hAb : A ≤ 8160 := by omega
      have hSb : A * (E0 + R) ≤ 1125899906842624 := Nat.le_trans (Nat.mul_le_mul hAb (show E0 + R ≤ 1073742844 by omega)) (by decide)
      generalize E0 + R = B at e2 hSb HA
      have e3 : IntKind.i64.wrap ((A : Int) * (B : Int)) = ((A * B : Nat) : Int) := by rw [← Int.natCast_mul, IntWalk.i64_in _ (by omega)]
      generalize A * B = S at e3 hSb HA
      have et1 : ¬ (t : Int) = 0 := by omega
      have et2 : ¬ t = 0 := by omega
      have et0 : ((t : Int) == 0) = false := beq_eq_false_iff_ne.2 et1
      have HP0 : Hid _ := timesI_bounds k a0 ws q (by omega)
      have HP1 : Hid _ := timesI_bounds k a1 ws q (by omega)
      clear hR hm
      go_wp2_with fail
      go_region_held3 (fun w' => w'.cell? ⟨w.heap.size, 0, none⟩ = some (.int .i64 (k : Int)) ∧ w'.cell? ⟨w.heap.size, 1, none⟩ = some (.int .i64 (t : Int)) ∧ w'.cell? ⟨w.heap.size, 2, none⟩ = some (.int .i64 q) ∧ w'.cell? ⟨w.heap.size, 3, none⟩ = some (.int .i64 b) ∧ w'.cell? ⟨w2.heap.size, 0, none⟩ = some (.int .i64 (E0 : Int)) ∧ w'.cell? ⟨w2.heap.size, 1, none⟩ = some (.slice (some ⟨g0, 0, none⟩) k c0) ∧ w'.cell? ⟨w2.heap.size, 2, none⟩ = some (.slice (some ⟨g1, 0, none⟩) k c1))
        (first | go_keep | exact keep7 hu7 (by assumption) | exact keep7 hu6 (by assumption) | exact keep7 hu5 (by assumption))
        ((first | (go_at_call_of 104 (Value.slice (some ⟨g0, 0, none⟩) k c0); refine (Times_calls k a0 ws g0 gw c0 cw q _ (by omega) L0.out LW.out (by omega) hq2 HX0.out (by exact k0.up (Up.drew (Up.refl _))) (by exact iw'.up (Up.drew (Up.refl _)))).mono ?_; rintro e w5 ⟨v5, rfl, ho5, hu5⟩; obtain ⟨g5, c5, rfl, hg5, i5⟩ := ho5.is (ne_nil_of_length (timesI_length _ _ _ _) (by omega)); rw [timesI_length]) | (go_at_call_of 104 (Value.slice (some ⟨g1, 0, none⟩) k c1); refine (Times_calls k a1 ws g1 gw c1 cw q _ (by omega) L1.out LW.out (by omega) hq2 HX1.out (by exact (k1.up (Up.drew (Up.refl _))).up hu5) (by exact (iw'.up (Up.drew (Up.refl _))).up hu5)).mono ?_; rintro e w6 ⟨v6, rfl, ho6, hu6⟩; obtain ⟨g6, c6, rfl, hg6, i6⟩ := ho6.is (ne_nil_of_length (timesI_length _ _ _ _) (by omega)); rw [timesI_length]) | (go_at_call 103; refine (Told_any k S t q b _ _ g5 g6 c5 c6 _ (by omega) (by omega) (by omega) (by omega) hq2 hSb (timesI_length _ _ _ _) (timesI_length _ _ _ _) (fun i hi => by have := HP0.out i hi; omega) (fun i hi => by have := HP1.out i hi; omega) (by exact i5.up hu6) i6).mono ?_; rintro e w7 ⟨rfl, hu7⟩)))
      rw [← HA.out]
      have huW7 : Up wr w7 := Up.trans (Up.trans (Up.trans (Up.drew (Up.refl _)) hu5) hu6) hu7
      clear hu5 hu6 hu7 ho5 ho6 i5 i6
      go_wp2_with fail
      go_ret2
      exact ⟨rfl, (((Up.refl _).alloc _).trans (hu14.trans hur)).trans huW7⟩

end Go.Proofs.YtcjhgbljhpflfabGreat
