/-
  Walks: the reference's MulPlain.
  Walks: the reference's MulPlain, where it goes through.
-/
import Derived.Test.YtjiekfplgmfgiabGreatWalksRm
namespace Go.Proofs.YtjiekfplgmfgiabGreat
open Go.RowKit
set_option linter.unusedVariables false
set_option maxRecDepth 100000

/-- a number below t, centred -/
def cenC (t x : Int) : Int := if t < 2 * x then x - t else x
def cenI (n : Nat) (t : Int) (ms : List Int) : List Int := (List.range n).map fun i => cenC t (ms.getD i 0)
def absS (t : Int) (ms : List Int) (k : Nat) : Nat := sumN (fun i => (cenC t (ms.getD i 0)).natAbs) k

set_option maxHeartbeats 400000 in
theorem Centred_calls (x t : Int) (w : World) (hx : 0 ≤ x) (hx2 : x < t) (ht : t ≤ 1048576) :
    Calls Tryz.prog 55 #[.int .i64 x, .int .i64 t] w fun e w' => e = .returned (.int .i64 (cenC t x)) ∧ w' = w := by
  by_cases h : t < 2 * x
  · have H : Hid (cenC t x = x - t) := if_pos h
    go_enter Tryz.func55, Tryz.ntmps55
    go_wp2
    go_ret
    exact ⟨ret_int (by rw [H.out]), rfl⟩
  · have H : Hid (cenC t x = x) := if_neg h
    go_enter Tryz.func55, Tryz.ntmps55
    go_wp2
    go_ret
    exact ⟨ret_int (by rw [H.out]), rfl⟩

theorem cenC_bounds (t x : Int) (hx : 0 ≤ x) (hx2 : x < t) : -t < 2 * cenC t x ∧ 2 * cenC t x ≤ t := by
  unfold cenC
  split <;> omega

/-- what MulPlain answers -/
def mulPlainL (n t : Nat) (q : Int) (x v : List UInt8) : List UInt8 × Int :=
  tellL t q (absS t (encI n t (numsL v 2 n)) n * (ctE x + (q % (t : Int)).toNat)) (timesI n (ct0 x n) (cenI n t (encI n t (numsL v 2 n))) q) (timesI n (ct1 x n) (cenI n t (encI n t (numsL v 2 n))) q)

set_option maxHeartbeats 400000 in
theorem refMulPlain_bad (n t q b : Int) (x v : ByteArray) (w : World) (hg : goodB n t q b = false) :
    Calls Tryz.prog 24 #[.agg #[.int .i64 n, .int .i64 t, .int .i64 q, .int .i64 b], .string x, .string v] w fun e w' => e = .returned (.tuple #[.string ⟨#[]⟩, .int .i64 1]) ∧ Up w w' := by
  go_enter Tryz.func24, Tryz.ntmps24
  go_wp2_with (go_at_call 19; refine (refGood_calls _ _ _ _ _).mono ?_; rintro e w' ⟨rfl, hu⟩)
  go_ret2
  exact ⟨rfl, ((Up.refl _).alloc _).trans hu⟩

set_option maxHeartbeats 1000000 in
theorem refMulPlain_form (n t : Nat) (q b : Int) (x v : ByteArray) (w : World) (hx : x.size ≤ maxLen) (g : NT n t) (hq : 2 ≤ q) (hq2 : q ≤ 1073741823) (hg : goodB n t q b = true) (h0 : ctB x.data.toList n t q = false) :
    Calls Tryz.prog 24 #[.agg #[.int .i64 n, .int .i64 t, .int .i64 q, .int .i64 b], .string x, .string v] w fun e w' => e = .returned (.tuple #[.string ⟨#[]⟩, .int .i64 2]) ∧ Up w w' := by
  have ht := g.t3
  have ht2 := g.ht
  obtain ⟨hd1, hd2, hd3⟩ := g.half
  go_enter Tryz.func24, Tryz.ntmps24
  go_wp2_with fail
  refine (refGood_calls _ _ _ _ _).mono ?_
  rintro e w1 ⟨rfl, hu1⟩
  obtain ⟨hc, hf⟩ := bcell hu1
  go_wp2_with fail
  refine Calls.mono (Read_no n t q b x _ hx (by omega) (by omega) (by omega) (by omega) (by omega) hq2 h0) ?_
  rintro e w2 ⟨z, p0, x0, y0, p1, x1, y1, rfl, hu2⟩
  clear hc hf
  go_wp2_with fail
  go_ret2
  exact ⟨rfl, Up.alloc ((((Up.refl _).alloc _).trans hu1).trans hu2) _⟩

set_option maxHeartbeats 1000000 in
theorem refMulPlain_val (n t : Nat) (q b : Int) (x v : ByteArray) (w : World) (hx : x.size ≤ maxLen) (hv : v.size ≤ maxLen) (g : NT n t) (hq : 2 ≤ q) (hq2 : q ≤ 1073741823) (hg : goodB n t q b = true) (h0 : ctB x.data.toList n t q = true) (hok : okL v.data.toList n 2 t = false) :
    Calls Tryz.prog 24 #[.agg #[.int .i64 n, .int .i64 t, .int .i64 q, .int .i64 b], .string x, .string v] w fun e w' => e = .returned (.tuple #[.string ⟨#[]⟩, .int .i64 3]) ∧ Up w w' := by
  have ht := g.t3
  have ht2 := g.ht
  obtain ⟨hd1, hd2, hd3⟩ := g.half
  go_enter Tryz.func24, Tryz.ntmps24
  go_wp2_with fail
  refine (refGood_calls _ _ _ _ _).mono ?_
  rintro e w1 ⟨rfl, hu1⟩
  obtain ⟨hc, hf⟩ := bcell hu1
  go_wp2_with fail
  refine (Read_ok n t q b x _ hx (by omega) (by omega) (by omega) (by omega) (by omega) hq2 h0).mono ?_
  rintro e w2 ⟨g0, c0, g1, c1, rfl, ho0, ho1, hu2⟩
  clear hc hf ho0 ho1
  obtain ⟨hc, hf⟩ := bcell ((hu1.trans hu2).trans ((Up.refl _).alloc (.cells #[.int .i64 (ctE x.data.toList), .slice (some ⟨g0, 0, none⟩) n c0, .slice (some ⟨g1, 0, none⟩) n c1] 59)))
  go_wp2_with fail
  refine (Values_no n t q b v _ hv (by omega) hok).mono ?_
  rintro e w3 ⟨rfl, hu3⟩
  clear hc hf
  go_wp2_with fail
  go_ret2
  exact ⟨rfl, (((((Up.refl _).alloc _).trans hu1).trans hu2).alloc _).trans hu3⟩

end Go.Proofs.YtjiekfplgmfgiabGreat

namespace Go.Proofs.YtjiekfplgmfgiabGreat
open Go.RowKit
set_option linter.unusedVariables false
set_option maxRecDepth 100000

theorem absS_succ (t : Int) (ms : List Int) (k : Nat) : absS t ms (k + 1) = absS t ms k + (cenC t (ms.getD k 0)).natAbs := rfl

theorem absS_le (t : Int) (ms : List Int) (n k : Nat) (hk : k ≤ n) (hm : ∀ i, i < n → 0 ≤ ms.getD i 0 ∧ ms.getD i 0 < t) (ht : t ≤ 1021) : absS t ms k ≤ k * 510 := by
  induction k with
  | zero => exact Nat.le_refl _
  | succ k ih =>
    have h1 := ih (by omega)
    have h2 := hm k (by omega)
    have h3 := cenC_bounds t _ h2.1 h2.2
    rw [absS_succ]
    omega

theorem encI_lt {n t : Nat} (g : NT n t) (xs : List Int) : ∀ i, i < n → 0 ≤ (encI n t xs).getD i 0 ∧ (encI n t xs).getD i 0 < (t : Int) := by
  intro i hi
  unfold encI
  rw [getD_range hi]
  exact encC_bounds g xs i

theorem cenI_length (n : Nat) (t : Int) (ms : List Int) : (cenI n t ms).length = n := by simp [cenI]

theorem timesI_bounds (n : Nat) (xs ys : List Int) (q : Int) (hq : 0 < q) (i : Nat) (hi : i < (timesI n xs ys q).length) : 0 ≤ (timesI n xs ys q).getD i 0 ∧ (timesI n xs ys q).getD i 0 < q := by
  rw [timesI_length] at hi
  unfold timesI
  rw [getD_range hi]
  exact mod_bounds hq _

set_option maxRecDepth 100000 in
set_option maxHeartbeats 4000000 in
theorem refMulPlain_ok (n t : Nat) (q b : Int) (x v : ByteArray) (w : World) (hx : x.size ≤ maxLen) (hv : v.size ≤ maxLen) (g : NT n t) (hq : 2 ≤ q) (hq2 : q ≤ 1073741823) (hg : goodB n t q b = true) (h0 : ctB x.data.toList n t q = true) (hok : okL v.data.toList n 2 t = true) :
    Calls Tryz.prog 24 #[.agg #[.int .i64 n, .int .i64 t, .int .i64 q, .int .i64 b], .string x, .string v] w fun e w' => e = .returned (.tuple #[.string ⟨(mulPlainL n t q x.data.toList v.data.toList).1.toArray⟩, .int .i64 (mulPlainL n t q x.data.toList v.data.toList).2]) ∧ Up w w' := by
  have ht := g.t3
  have ht2 := g.ht
  obtain ⟨hd1, hd2, hd3⟩ := g.half
  have hm := mod_bounds (show (0 : Int) < (t : Int) by omega) q
  have hE0 := ctE_lt _ _ _ _ (by omega) (by omega) h0
  have HX0 : Hid _ := ct0_bnd x.data.toList n t q h0 hq2 1073741824 (by omega)
  have HX1 : Hid _ := ct1_bnd x.data.toList n t q h0 hq2 1073741824 (by omega)
  have HB : Hid _ := numsL_lt v.data.toList 2 n t hok
  have HA : Hid (mulPlainL n t q x.data.toList v.data.toList = tellL t q (absS t (encI n t (numsL v.data.toList 2 n)) n * (ctE x.data.toList + (q % (t : Int)).toNat)) (timesI n (ct0 x.data.toList n) (cenI n t (encI n t (numsL v.data.toList 2 n))) q) (timesI n (ct1 x.data.toList n) (cenI n t (encI n t (numsL v.data.toList 2 n))) q)) := rfl
  generalize mulPlainL n t q x.data.toList v.data.toList = ans at HA
  go_enter Tryz.func24, Tryz.ntmps24
  go_wp2_with fail
  refine (refGood_calls _ _ _ _ _).mono ?_
  rintro e w1 ⟨rfl, hu1⟩
  obtain ⟨hc, hf⟩ := bcell hu1
  go_wp2_with fail
  refine (Read_ok n t q b x _ hx (by omega) (by omega) (by omega) (by omega) (by omega) hq2 h0).mono ?_
  rintro e w2 ⟨g0, c0, g1, c1, rfl, ho0, ho1, hu2⟩
  have i0 := ho0.isI
  have i1 := ho1.isI
  clear hc hf ho0 ho1
  obtain ⟨hc, hf⟩ := bcell ((hu1.trans hu2).trans ((Up.refl _).alloc (.cells #[.int .i64 (ctE x.data.toList), .slice (some ⟨g0, 0, none⟩) n c0, .slice (some ⟨g1, 0, none⟩) n c1] 59)))
  go_wp2_with fail
  refine (Values_ok n t q b v _ hv (by omega) hok).mono ?_
  rintro e w3 ⟨v3, rfl, ho3, hu3⟩
  obtain ⟨gv, cv, rfl, _, iv⟩ := ho3.is (ne_nil_of_length (numsL_length _ _ _) (by omega))
  rw [numsL_length]
  clear hc hf ho3
  obtain ⟨W2, hW2⟩ : ∃ W, W = w2.alloc (.cells #[.int .i64 (ctE x.data.toList), .slice (some ⟨g0, 0, none⟩) n c0, .slice (some ⟨g1, 0, none⟩) n c1] 59) := ⟨_, rfl⟩
  rw [← hW2] at hu3
  have huW2 : Up w2 W2 := by rw [hW2]; exact (Up.refl _).alloc _
  have hu23 := huW2.trans hu3
  have hu13 := (hu1.trans hu2).trans hu23
  obtain ⟨hc, hf⟩ := bcell hu13
  have hX0 : w3.cell? ⟨w2.heap.size, 0, none⟩ = some (.int .i64 (ctE x.data.toList)) := keepU hu3 (by rw [hW2]; simp)
  have hX1 : w3.cell? ⟨w2.heap.size, 1, none⟩ = some (.slice (some ⟨g0, 0, none⟩) n c0) := keepU hu3 (by rw [hW2]; simp)
  have hX2 : w3.cell? ⟨w2.heap.size, 2, none⟩ = some (.slice (some ⟨g1, 0, none⟩) n c1) := keepU hu3 (by rw [hW2]; simp)
  have HX0' : Hid _ := hX0
  have HX1' : Hid _ := hX1
  have HX2' : Hid _ := hX2
  clear hW2 hX0 hX1 hX2
  go_wp2_with fail
  refine (Poly_calls n t q b _ gv cv _ g (numsL_length _ _ _) HB.out iv).mono ?_
  rintro e w4 ⟨v4, rfl, ho4, hu4⟩
  obtain ⟨gm, cm, rfl, _, im⟩ := ho4.is (ne_nil_of_length (encI_length _ _ _) (by omega))
  rw [encI_length]
  have HML : Hid _ := encI_length n t (numsL v.data.toList 2 n)
  have HMB : Hid _ := encI_lt g (numsL v.data.toList 2 n)
  generalize encI n t (numsL v.data.toList 2 n) = ms at im HML HMB HA
  have hu14 := hu13.trans hu4
  have HY0 := keepU hu4 HX0'.out
  have HY1 := keepU hu4 HX1'.out
  have HY2 := keepU hu4 HX2'.out
  have HY0 : Hid _ := HY0
  have HY1 : Hid _ := HY1
  have HY2 : Hid _ := HY2
  have j0 := i0.up (hu23.trans hu4)
  have j1 := i1.up (hu23.trans hu4)
  clear hc hf ho4 HX0' HX1' HX2' iv i0 i1
  go_wp2_with fail
  go_loopw [13, 14, 15] (fun wv s j wr => ∃ k : Nat, k ≤ n ∧ j = .int .i64 (k : Int) ∧ s = .int .i64 (absS t ms k) ∧ OwnI wr w4.heap.size wv ((List.range k).map fun i => cenC t (ms.getD i 0)) ∧ Up w4 wr) (fun _ _ j _ => n - (intOf j).toNat)
  case atStart => exact ⟨0, Nat.zero_le _, rfl, rfl, World.ownsRow_nil _ _ _ _, Up.refl _⟩
  case round =>
    obtain ⟨k, hk, rfl, rfl, hown, hur⟩ := hrel
    obtain ⟨hc, hf⟩ := bcell (hu14.trans hur)
    have hsb := absS_le t ms n k hk HMB.out (by omega)
    by_cases hlt : k < n
    · have hcm := (im.up hur).2 k (by rw [HML.out]; omega)
      have hmb := HMB.out k hlt
      have hcb := cenC_bounds t _ hmb.1 hmb.2
      have HR : Hid ((List.range (k + 1)).map (fun i => cenC t (ms.getD i 0)) = (List.range k).map (fun i => cenC t (ms.getD i 0)) ++ [cenC t (ms.getD k 0)]) := map_range_succ _ _
      have HS : Hid _ := absS_succ t ms k
      have HC : Hid (∀ W, Calls Tryz.prog 55 #[.int .i64 (ms.getD k 0), .int .i64 (t : Int)] W fun e w' => e = .returned (.int .i64 (cenC t (ms.getD k 0))) ∧ w' = W) := fun W => Centred_calls _ _ W hmb.1 hmb.2 (by omega)
      generalize cenC t (ms.getD k 0) = y at hcb HR HS HC
      generalize ms.getD k 0 = z at hcm hmb HC
      generalize absS t ms k = S at hsb HS
      have hi0 : (0 : Int) ≤ (k : Int) := by omega
      have hi1 : (k : Int) < (n : Int) := by omega
      go_wp2_with fail
      go_quiet ((go_at_call 55; exact Calls.quiet_of_same (HC.out _)))
      go_wp2_with (at_builtin; refine append_int _ _ rfl _ _ rfl _ _ _ rfl (hown.up (Up.drewN (Up.refl _))) rfl (by simp; omega) (by have := hur.size; exact this) ?_)
      intro v5 w5 hown5 hg5 hb5 _
      have hS1 := HS.out
      by_cases hy : y < 0
      · have e1 : IntKind.i64.wrap (-y) = -y := IntWalk.i64_in _ (by omega)
        have e2 : IntKind.i64.wrap ((S : Int) + -y) = ((S + y.natAbs : Nat) : Int) := by rw [IntWalk.i64_in _ (by omega)]; omega
        go_wp2_with fail
        go_roundw
        case rel => exact ⟨k + 1, by omega, by go_num, by rw [hS1]; push_cast; rfl, by rw [HR.out]; exact hown5, Below.trans (Up.drewN hur) hb5⟩
        case measure => simp [intOf]; omega
      · have e2 : IntKind.i64.wrap ((S : Int) + y) = ((S + y.natAbs : Nat) : Int) := by rw [IntWalk.i64_in _ (by omega)]; omega
        go_wp2_with fail
        go_roundw
        case rel => exact ⟨k + 1, by omega, by go_num, by rw [hS1]; push_cast; rfl, by rw [HR.out]; exact hown5, Below.trans (Up.drewN hur) hb5⟩
        case measure => simp [intOf]; omega
    · obtain rfl : k = n := by omega
      obtain ⟨gw, cw, rfl, _, iw⟩ := hown.is (ne_nil_of_length (n := k) (by simp) (by omega))
      rw [show ((List.range k).map fun i => cenC t (ms.getD i 0)).length = k by simp] 
      have hS0 : wr.cell? ⟨w.heap.size, 0, none⟩ = some (.int .i64 (k : Int)) := by rw [hc _ _ (by simp)]; simp
      have hS1 : wr.cell? ⟨w.heap.size, 1, none⟩ = some (.int .i64 (t : Int)) := by rw [hc _ _ (by simp)]; simp
      have hS2 : wr.cell? ⟨w.heap.size, 2, none⟩ = some (.int .i64 q) := by rw [hc _ _ (by simp)]; simp
      have hS3 : wr.cell? ⟨w.heap.size, 3, none⟩ = some (.int .i64 b) := by rw [hc _ _ (by simp)]; simp
      have hX0 := keepU hur HY0.out
      have hX1 := keepU hur HY1.out
      have hX2 := keepU hur HY2.out
      have k0 := j0.up hur
      have k1 := j1.up hur
      have L0 : Hid _ := ct0_length x.data.toList k
      have L1 : Hid _ := ct1_length x.data.toList k
      have LW : Hid (_ = k) := cenI_length k t ms
      generalize ct0 x.data.toList k = a0 at k0 HX0 HA L0 j0
      generalize ct1 x.data.toList k = a1 at k1 HX1 HA L1 j1
      have HW : Hid ((List.range k).map (fun i => cenC t (ms.getD i 0)) = cenI k t ms) := rfl
      have iw' : IsI wr gw (cenI k t ms) := iw
      clear iw hown
      generalize cenI k t ms = ws at iw' HA LW HW
      clear HY0 HY1 HY2 j0 j1 hc hf HW
      have hR : q % (t : Int) = ((q % (t : Int)).toNat : Int) := by omega
      have eR : q.tmod (t : Int) = ((q % (t : Int)).toNat : Int) := by rw [Int.tmod_eq_emod_of_nonneg (by omega)]; exact hR
      have hRb : (q % (t : Int)).toNat ≤ 1021 := by omega
      generalize (q % (t : Int)).toNat = R at eR hRb HA
      generalize ctE x.data.toList = E0 at hE0 hX0 HA
      generalize absS t ms k = A at hsb HA
      have e2 : IntKind.i64.wrap ((E0 : Int) + (R : Int)) = ((E0 + R : Nat) : Int) := by rw [IntWalk.i64_in _ (by omega)]; omega
      have hAb : A ≤ 8160 := by omega
      have hSb : A * (E0 + R) ≤ 1125899906842624 := Nat.le_trans (Nat.mul_le_mul hAb (show E0 + R ≤ 1073742844 by omega)) (by decide)
      generalize E0 + R = B at e2 hSb HA
      have e3 : IntKind.i64.wrap ((A : Int) * (B : Int)) = ((A * B : Nat) : Int) := by rw [← Int.natCast_mul, IntWalk.i64_in _ (by omega)]
      generalize A * B = S at e3 hSb HA
      have et1 : ¬ (t : Int) = 0 := by omega
      have et2 : ¬ t = 0 := by omega
      have et0 : ((t : Int) == 0) = false := beq_eq_false_iff_ne.2 et1
      have HP0 : Hid _ := timesI_bounds k a0 ws q (by omega)
      have HP1 : Hid _ := timesI_bounds k a1 ws q (by omega)
      clear hR hm
      go_wp2_with fail
      go_region_held3 (fun w' => w'.cell? ⟨w.heap.size, 0, none⟩ = some (.int .i64 (k : Int)) ∧ w'.cell? ⟨w.heap.size, 1, none⟩ = some (.int .i64 (t : Int)) ∧ w'.cell? ⟨w.heap.size, 2, none⟩ = some (.int .i64 q) ∧ w'.cell? ⟨w.heap.size, 3, none⟩ = some (.int .i64 b) ∧ w'.cell? ⟨w2.heap.size, 0, none⟩ = some (.int .i64 (E0 : Int)) ∧ w'.cell? ⟨w2.heap.size, 1, none⟩ = some (.slice (some ⟨g0, 0, none⟩) k c0) ∧ w'.cell? ⟨w2.heap.size, 2, none⟩ = some (.slice (some ⟨g1, 0, none⟩) k c1))
        (first | go_keep | exact keep7 hu7 (by assumption) | exact keep7 hu6 (by assumption) | exact keep7 hu5 (by assumption))
        ((first | (go_at_call_of 57 (Value.slice (some ⟨g0, 0, none⟩) k c0); refine (Times_calls k a0 ws g0 gw c0 cw q _ (by omega) L0.out LW.out (by omega) hq2 HX0.out (by exact k0.up (Up.drew (Up.refl _))) (by exact iw'.up (Up.drew (Up.refl _)))).mono ?_; rintro e w5 ⟨v5, rfl, ho5, hu5⟩; obtain ⟨g5, c5, rfl, hg5, i5⟩ := ho5.is (ne_nil_of_length (timesI_length _ _ _ _) (by omega)); rw [timesI_length]) | (go_at_call_of 57 (Value.slice (some ⟨g1, 0, none⟩) k c1); refine (Times_calls k a1 ws g1 gw c1 cw q _ (by omega) L1.out LW.out (by omega) hq2 HX1.out (by exact (k1.up (Up.drew (Up.refl _))).up hu5) (by exact (iw'.up (Up.drew (Up.refl _))).up hu5)).mono ?_; rintro e w6 ⟨v6, rfl, ho6, hu6⟩; obtain ⟨g6, c6, rfl, hg6, i6⟩ := ho6.is (ne_nil_of_length (timesI_length _ _ _ _) (by omega)); rw [timesI_length]) | (go_at_call 56; refine (Told_any k S t q b _ _ g5 g6 c5 c6 _ (by omega) (by omega) (by omega) (by omega) hq2 hSb (timesI_length _ _ _ _) (timesI_length _ _ _ _) (fun i hi => by have := HP0.out i hi; omega) (fun i hi => by have := HP1.out i hi; omega) (by exact i5.up hu6) i6).mono ?_; rintro e w7 ⟨rfl, hu7⟩)))
      rw [← HA.out]
      have huW7 : Up wr w7 := Up.trans (Up.trans (Up.trans (Up.drew (Up.refl _)) hu5) hu6) hu7
      clear hu5 hu6 hu7 ho5 ho6 i5 i6
      go_wp2_with fail
      go_ret2
      exact ⟨rfl, (((Up.refl _).alloc _).trans (hu14.trans hur)).trans huW7⟩

end Go.Proofs.YtjiekfplgmfgiabGreat
