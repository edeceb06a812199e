/-
  Walks: the reference's AddPlain.
-/
import Derived.Test.YtjiekfplgmfgiabGreatWalksRk
namespace Go.Proofs.YtjiekfplgmfgiabGreat
open Go.RowKit
set_option linter.unusedVariables false
set_option maxRecDepth 100000

/-- what AddPlain answers -/
def addPlainL (n t : Nat) (q : Int) (x v : List UInt8) : List UInt8 × Int :=
  tellL t q (ctE x + (q % (t : Int)).toNat) (plusI n (ct0 x n) (scaledI n (encI n t (numsL v 2 n)) (q / (t : Int)) q) q) (ct1 x n)

theorem keep7 {p0 p1 p2 p3 p4 p5 p6 : Addr} {u0 u1 u2 u3 u4 u5 u6 : Value} {W W' : World} (hu : Up W W')
    (hS : W.cell? p0 = some u0 ∧ W.cell? p1 = some u1 ∧ W.cell? p2 = some u2 ∧ W.cell? p3 = some u3 ∧ W.cell? p4 = some u4 ∧ W.cell? p5 = some u5 ∧ W.cell? p6 = some u6) :
    W'.cell? p0 = some u0 ∧ W'.cell? p1 = some u1 ∧ W'.cell? p2 = some u2 ∧ W'.cell? p3 = some u3 ∧ W'.cell? p4 = some u4 ∧ W'.cell? p5 = some u5 ∧ W'.cell? p6 = some u6 := by
  obtain ⟨h0, h1, h2, h3, h4, h5, h6⟩ := hS
  exact ⟨keepP hu h0, keepP hu h1, keepP hu h2, keepP hu h3, keepP hu h4, keepP hu h5, keepP hu h6⟩

set_option maxHeartbeats 400000 in
theorem refAddPlain_bad (n t q b : Int) (x v : ByteArray) (w : World) (hg : goodB n t q b = false) :
    Calls Tryz.prog 28 #[.agg #[.int .i64 n, .int .i64 t, .int .i64 q, .int .i64 b], .string x, .string v] w fun e w' => e = .returned (.tuple #[.string ⟨#[]⟩, .int .i64 1]) ∧ Up w w' := by
  go_enter Tryz.func28, Tryz.ntmps28
  go_wp2_with (go_at_call 19; refine (refGood_calls _ _ _ _ _).mono ?_; rintro e w' ⟨rfl, hu⟩)
  go_ret2
  exact ⟨rfl, ((Up.refl _).alloc _).trans hu⟩

set_option maxHeartbeats 1000000 in
theorem refAddPlain_form (n t : Nat) (q b : Int) (x v : ByteArray) (w : World) (hx : x.size ≤ maxLen) (g : NT n t) (hq : 2 ≤ q) (hq2 : q ≤ 1073741823) (hg : goodB n t q b = true) (h0 : ctB x.data.toList n t q = false) :
    Calls Tryz.prog 28 #[.agg #[.int .i64 n, .int .i64 t, .int .i64 q, .int .i64 b], .string x, .string v] w fun e w' => e = .returned (.tuple #[.string ⟨#[]⟩, .int .i64 2]) ∧ Up w w' := by
  have ht := g.t3
  have ht2 := g.ht
  obtain ⟨hd1, hd2, hd3⟩ := g.half
  go_enter Tryz.func28, Tryz.ntmps28
  go_wp2_with fail
  refine (refGood_calls _ _ _ _ _).mono ?_
  rintro e w1 ⟨rfl, hu1⟩
  obtain ⟨hc, hf⟩ := bcell hu1
  go_wp2_with fail
  refine Calls.mono (Read_no n t q b x _ hx (by omega) (by omega) (by omega) (by omega) (by omega) hq2 h0) ?_
  rintro e w2 ⟨z, p0, x0, y0, p1, x1, y1, rfl, hu2⟩
  clear hc hf
  go_wp2_with fail
  go_ret2
  exact ⟨rfl, Up.alloc ((((Up.refl _).alloc _).trans hu1).trans hu2) _⟩

set_option maxHeartbeats 1000000 in
theorem refAddPlain_val (n t : Nat) (q b : Int) (x v : ByteArray) (w : World) (hx : x.size ≤ maxLen) (hv : v.size ≤ maxLen) (g : NT n t) (hq : 2 ≤ q) (hq2 : q ≤ 1073741823) (hg : goodB n t q b = true) (h0 : ctB x.data.toList n t q = true) (hok : okL v.data.toList n 2 t = false) :
    Calls Tryz.prog 28 #[.agg #[.int .i64 n, .int .i64 t, .int .i64 q, .int .i64 b], .string x, .string v] w fun e w' => e = .returned (.tuple #[.string ⟨#[]⟩, .int .i64 3]) ∧ Up w w' := by
  have ht := g.t3
  have ht2 := g.ht
  obtain ⟨hd1, hd2, hd3⟩ := g.half
  go_enter Tryz.func28, Tryz.ntmps28
  go_wp2_with fail
  refine (refGood_calls _ _ _ _ _).mono ?_
  rintro e w1 ⟨rfl, hu1⟩
  obtain ⟨hc, hf⟩ := bcell hu1
  go_wp2_with fail
  refine (Read_ok n t q b x _ hx (by omega) (by omega) (by omega) (by omega) (by omega) hq2 h0).mono ?_
  rintro e w2 ⟨g0, c0, g1, c1, rfl, ho0, ho1, hu2⟩
  clear hc hf ho0 ho1
  obtain ⟨hc, hf⟩ := bcell ((hu1.trans hu2).trans ((Up.refl _).alloc (.cells #[.int .i64 (ctE x.data.toList), .slice (some ⟨g0, 0, none⟩) n c0, .slice (some ⟨g1, 0, none⟩) n c1] 59)))
  go_wp2_with fail
  refine (Values_no n t q b v _ hv (by omega) hok).mono ?_
  rintro e w3 ⟨rfl, hu3⟩
  clear hc hf
  go_wp2_with fail
  go_ret2
  exact ⟨rfl, (((((Up.refl _).alloc _).trans hu1).trans hu2).alloc _).trans hu3⟩

theorem ct1_bounds (l : List UInt8) (n : Nat) (t q : Int) (h : ctB l n t q = true) : ∀ i, i < (ct1 l n).length → 0 ≤ (ct1 l n).getD i 0 ∧ (ct1 l n).getD i 0 < q := by
  obtain ⟨_, _, _, h4, _⟩ := (ctB_iff _ _ _ _).1 h
  intro i hi
  rw [ct1_length] at hi
  unfold ct1
  rw [getD_range hi]
  have := ((okL_iff _ _ _ _).1 h4).2 i hi
  rw [numL_drop, Nat.mul_comm i 4] at this
  omega

set_option maxRecDepth 100000 in
set_option maxHeartbeats 4000000 in
theorem refAddPlain_ok (n t : Nat) (q b : Int) (x v : ByteArray) (w : World) (hx : x.size ≤ maxLen) (hv : v.size ≤ maxLen) (g : NT n t) (hq : 2 ≤ q) (hq2 : q ≤ 1073741823) (hg : goodB n t q b = true) (h0 : ctB x.data.toList n t q = true) (hok : okL v.data.toList n 2 t = true) :
    Calls Tryz.prog 28 #[.agg #[.int .i64 n, .int .i64 t, .int .i64 q, .int .i64 b], .string x, .string v] w fun e w' => e = .returned (.tuple #[.string ⟨(addPlainL n t q x.data.toList v.data.toList).1.toArray⟩, .int .i64 (addPlainL n t q x.data.toList v.data.toList).2]) ∧ Up w w' := by
  have ht := g.t3
  have ht2 := g.ht
  obtain ⟨hd1, hd2, hd3⟩ := g.half
  have hm := mod_bounds (show (0 : Int) < (t : Int) by omega) q
  have hE0 := ctE_lt _ _ _ _ (by omega) (by omega) h0
  have HX0 : Hid _ := ct0_bnd x.data.toList n t q h0 hq2 4294967296 (by omega)
  have HX1 : Hid _ := ct1_bounds x.data.toList n t q h0
  have HB : Hid _ := numsL_lt v.data.toList 2 n t hok
  have hdel1 : 0 ≤ q / (t : Int) := Int.ediv_nonneg (by omega) (by omega)
  have hdel2 : q / (t : Int) ≤ 1073741823 := by have := Int.ediv_le_self (t : Int) (a := q) (by omega); omega
  have eq1 : IntKind.i64.wrap (q.tdiv (t : Int)) = q / (t : Int) := IntWalk.i64_quo _ _ (by omega)
  have HA : Hid (addPlainL n t q x.data.toList v.data.toList = tellL t q (ctE x.data.toList + (q % (t : Int)).toNat) (plusI n (ct0 x.data.toList n) (scaledI n (encI n t (numsL v.data.toList 2 n)) (q / (t : Int)) q) q) (ct1 x.data.toList n)) := rfl
  generalize addPlainL n t q x.data.toList v.data.toList = ans at HA
  go_enter Tryz.func28, Tryz.ntmps28
  go_wp2_with fail
  refine (refGood_calls _ _ _ _ _).mono ?_
  rintro e w1 ⟨rfl, hu1⟩
  obtain ⟨hc, hf⟩ := bcell hu1
  go_wp2_with fail
  refine (Read_ok n t q b x _ hx (by omega) (by omega) (by omega) (by omega) (by omega) hq2 h0).mono ?_
  rintro e w2 ⟨g0, c0, g1, c1, rfl, ho0, ho1, hu2⟩
  have i0 := ho0.isI
  have i1 := ho1.isI
  clear hc hf ho0 ho1
  obtain ⟨hc, hf⟩ := bcell ((hu1.trans hu2).trans ((Up.refl _).alloc (.cells #[.int .i64 (ctE x.data.toList), .slice (some ⟨g0, 0, none⟩) n c0, .slice (some ⟨g1, 0, none⟩) n c1] 59)))
  go_wp2_with fail
  refine (Values_ok n t q b v _ hv (by omega) hok).mono ?_
  rintro e W ⟨v3, rfl, ho3, hu3⟩
  obtain ⟨gv, cv, rfl, _, iv⟩ := ho3.is (ne_nil_of_length (numsL_length _ _ _) (by omega))
  rw [numsL_length]
  clear hc hf ho3
  obtain ⟨W2, hW2⟩ : ∃ W, W = w2.alloc (.cells #[.int .i64 (ctE x.data.toList), .slice (some ⟨g0, 0, none⟩) n c0, .slice (some ⟨g1, 0, none⟩) n c1] 59) := ⟨_, rfl⟩
  rw [← hW2] at hu3
  have huW2 : Up w2 W2 := by rw [hW2]; exact (Up.refl _).alloc _
  have hu2W := huW2.trans hu3
  have hu1W := (hu1.trans hu2).trans hu2W
  obtain ⟨hc, hf⟩ := bcell hu1W
  have hS0 : W.cell? ⟨w.heap.size, 0, none⟩ = some (.int .i64 (n : Int)) := by rw [hc _ _ (by simp)]; simp
  have hS1 : W.cell? ⟨w.heap.size, 1, none⟩ = some (.int .i64 (t : Int)) := by rw [hc _ _ (by simp)]; simp
  have hS2 : W.cell? ⟨w.heap.size, 2, none⟩ = some (.int .i64 q) := by rw [hc _ _ (by simp)]; simp
  have hS3 : W.cell? ⟨w.heap.size, 3, none⟩ = some (.int .i64 b) := by rw [hc _ _ (by simp)]; simp
  have hX0 : W.cell? ⟨w2.heap.size, 0, none⟩ = some (.int .i64 (ctE x.data.toList)) := keepU hu3 (by rw [hW2]; simp)
  have hX1 : W.cell? ⟨w2.heap.size, 1, none⟩ = some (.slice (some ⟨g0, 0, none⟩) n c0) := keepU hu3 (by rw [hW2]; simp)
  have hX2 : W.cell? ⟨w2.heap.size, 2, none⟩ = some (.slice (some ⟨g1, 0, none⟩) n c1) := keepU hu3 (by rw [hW2]; simp)
  have j0 := i0.up hu2W
  have j1 := i1.up hu2W
  have L0 : Hid _ := ct0_length x.data.toList n
  have L1 : Hid _ := ct1_length x.data.toList n
  have HVL : Hid _ := numsL_length v.data.toList 2 n
  generalize ct0 x.data.toList n = a0 at j0 HX0 HA L0 i0
  generalize ct1 x.data.toList n = a1 at j1 HX1 HA L1 i1
  generalize numsL v.data.toList 2 n = vs at iv HVL HA HB
  clear hc hf i0 i1 hW2
  have hR : q % (t : Int) = ((q % (t : Int)).toNat : Int) := by omega
  have eR : q.tmod (t : Int) = ((q % (t : Int)).toNat : Int) := by rw [Int.tmod_eq_emod_of_nonneg (by omega)]; exact hR
  have hRb : (q % (t : Int)).toNat ≤ 1021 := by omega
  generalize (q % (t : Int)).toNat = R at eR hRb HA
  generalize ctE x.data.toList = E0 at hE0 hX0 HA
  have e2 : IntKind.i64.wrap ((E0 : Int) + (R : Int)) = ((E0 + R : Nat) : Int) := by rw [IntWalk.i64_in _ (by omega)]; omega
  have hSb : E0 + R ≤ 1125899906842624 := by omega
  generalize E0 + R = S at e2 hSb HA
  have et1 : ¬ (t : Int) = 0 := by omega
  have et2 : ¬ t = 0 := by omega
  have et0 : ((t : Int) == 0) = false := beq_eq_false_iff_ne.2 et1
  have HP0 : Hid _ := plusI_bounds n a0 (scaledI n (encI n t vs) (q / (t : Int)) q) q (by omega)
  clear hR hm
  go_wp2_with fail
  go_region_held3 (fun w' => w'.cell? ⟨w.heap.size, 0, none⟩ = some (.int .i64 (n : Int)) ∧ w'.cell? ⟨w.heap.size, 1, none⟩ = some (.int .i64 (t : Int)) ∧ w'.cell? ⟨w.heap.size, 2, none⟩ = some (.int .i64 q) ∧ w'.cell? ⟨w.heap.size, 3, none⟩ = some (.int .i64 b) ∧ w'.cell? ⟨w2.heap.size, 0, none⟩ = some (.int .i64 (E0 : Int)) ∧ w'.cell? ⟨w2.heap.size, 1, none⟩ = some (.slice (some ⟨g0, 0, none⟩) n c0) ∧ w'.cell? ⟨w2.heap.size, 2, none⟩ = some (.slice (some ⟨g1, 0, none⟩) n c1))
    (first | go_keep | exact keep7 hu7 (by assumption) | exact keep7 hu6 (by assumption) | exact keep7 hu5 (by assumption) | exact keep7 hu4 (by assumption))
    ((first | (go_at_call 54; refine (Poly_calls n t q b vs gv cv _ g HVL.out HB.out (by exact iv.up (Up.drew (Up.refl _)))).mono ?_; rintro e w4 ⟨v4, rfl, ho4, hu4⟩; obtain ⟨g4, c4, rfl, hg4, i4⟩ := ho4.is (ne_nil_of_length (encI_length _ _ _) (by omega)); rw [encI_length]) | (go_at_call 64; refine (Scaled_calls n _ g4 c4 (q / (t : Int)) q _ (by omega) (encI_length _ _ _) (by omega) hq2 (by omega) (by omega) i4).mono ?_; rintro e w5 ⟨v5, rfl, ho5, hu5⟩; obtain ⟨g5, c5, rfl, hg5, i5⟩ := ho5.is (ne_nil_of_length (scaledI_length _ _ _ _) (by omega)); rw [scaledI_length]) | (go_at_call 62; refine (Plus_calls n a0 _ g0 g5 c0 c5 q _ (by omega) L0.out (scaledI_length _ _ _ _) (by omega) hq2 HX0.out (Bnd_mod (by omega) (by omega) (fun i => ⟨_, rfl⟩)) (by exact ((j0.up (Up.drew (Up.refl _))).up hu4).up hu5) i5).mono ?_; rintro e w6 ⟨v6, rfl, ho6, hu6⟩; obtain ⟨g6, c6, rfl, hg6, i6⟩ := ho6.is (ne_nil_of_length (plusI_length _ _ _ _) (by omega)); rw [plusI_length]) | (go_at_call 56; refine (Told_any n S t q b _ a1 g6 g1 c6 c1 _ (by omega) (by omega) (by omega) (by omega) hq2 hSb (plusI_length _ _ _ _) L1.out (fun i hi => by have := HP0.out i hi; omega) (fun i hi => by have := HX1.out i hi; omega) i6 (by exact (((j1.up (Up.drew (Up.refl _))).up hu4).up hu5).up hu6)).mono ?_; rintro e w7 ⟨rfl, hu7⟩)))
  rw [← HA.out]
  have huW7 : Up W w7 := Up.trans (Up.trans (Up.trans (Up.trans (Up.drew (Up.refl _)) hu4) hu5) hu6) hu7
  clear hu4 hu5 hu6 hu7 ho4 ho5 ho6 i4 i5 i6
  go_wp2_with fail
  go_ret2
  exact ⟨rfl, (((Up.refl _).alloc _).trans hu1W).trans huW7⟩

end Go.Proofs.YtjiekfplgmfgiabGreat
