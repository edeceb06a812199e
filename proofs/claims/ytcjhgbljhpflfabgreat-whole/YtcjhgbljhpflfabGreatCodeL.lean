/-
  Walks: the program's Decrypt and Bound.
-/
import Derived.Test.YtcjhgbljhpflfabGreatCodeJ
namespace Go.Proofs.YtcjhgbljhpflfabGreat
open Go.RowKit
set_option linter.unusedVariables false
set_option maxRecDepth 100000

set_option maxHeartbeats 4000000 in
theorem cipherDecrypt_calls (n t e : Nat) (q b : Int) (ss a0 a1 : List Int) (gs cs g0 c0 g1 c1 : Nat) (w : World) (g : NT n t) (hq : 2 ≤ q) (hq2 : q ≤ 1073741823) (hls : ss.length = n) (hl0 : a0.length = n) (hl1 : a1.length = n) (hbs : Bnd ss 1073741824) (hb0 : Bnd a0 4294967296) (hb1 : Bnd a1 1073741824) (is : IsI w gs ss) (i0 : IsI w g0 a0) (i1 : IsI w g1 a1) :
    Calls Tryz.prog 85 #[.agg #[.int .i64 n, .int .i64 t, .int .i64 q, .int .i64 b], .slice (some ⟨gs, 0, none⟩) n cs, .agg #[.int .i64 e, .slice (some ⟨g0, 0, none⟩) n c0, .slice (some ⟨g1, 0, none⟩) n c1]] w fun r w' => ∃ v, r = .returned v ∧ OwnI w' w.heap.size v (decI n t (openI n t q (plusI n a0 (timesI n a1 ss q) q))) ∧ Up w w' := by
  have ht := g.t3
  have ht2 := g.ht
  obtain ⟨hd1, hd2, hd3⟩ := g.half
  have HLS : Hid _ := hls
  have HL0 : Hid _ := hl0
  have HL1 : Hid _ := hl1
  have HBS : Hid _ := hbs
  have HB0 : Hid _ := hb0
  have HB1 : Hid _ := hb1
  have HA : Hid (openI n t q (plusI n a0 (timesI n a1 ss q) q) = (List.range n).map (openC t q (plusI n a0 (timesI n a1 ss q) q))) := rfl
  generalize openI n t q (plusI n a0 (timesI n a1 ss q) q) = ans at HA
  clear hls hl0 hl1 hbs hb0 hb1
  go_enter Tryz.func85, Tryz.ntmps85
  go_wp2_with fail
  refine (ringMul_calls n a1 ss g1 gs c1 cs q _ (by omega) HL1.out HLS.out (by omega) hq2 HB1.out HBS.out (i1.up (((Up.refl _).alloc _).alloc _)) (is.up (((Up.refl _).alloc _).alloc _))).mono ?_
  rintro r w1 ⟨g2, rfl, ho2, hu1⟩
  have i2 := ho2.isI
  clear ho2
  obtain ⟨hc, hf⟩ := bcell hu1
  have i0' := (i0.up (((Up.refl _).alloc _).alloc _)).up hu1
  go_wp2_with fail
  refine (ringAdd_calls n a0 (timesI n a1 ss q) g0 g2 c0 n q _ (by omega) HL0.out (timesI_length _ _ _ _) (by omega) hq2 HB0.out (timesI_bnd _ _ _ _ _ (by omega) (by omega)) i0' i2).mono ?_
  rintro r w2 ⟨v3, rfl, ho3, hu2⟩
  obtain ⟨g3, c3, rfl, _, i3⟩ := ho3.is (ne_nil_of_length (plusI_length _ _ _ _) (by omega))
  rw [plusI_length]
  have HVb : Hid _ := plusI_bounds n a0 (timesI n a1 ss q) q (by omega)
  have HVL : Hid _ := plusI_length n a0 (timesI n a1 ss q) q
  generalize plusI n a0 (timesI n a1 ss q) q = vs at i3 HVb HVL HA
  have hu12 := hu1.trans hu2
  have hsz : w.heap.size < w2.heap.size := by have := hu12.size; simp at this; omega
  clear hc hf ho3 hu1 hu2 i0' i2
  go_wp2_with fail
  go_loopw [9, 34] (fun m j wr => ∃ i : Nat, i ≤ n ∧ j = .int .i64 (i : Int) ∧ OwnI wr w2.heap.size m ((List.range i).map (openC t q vs)) ∧ Up w2 wr) (fun _ j _ => n - (intOf j).toNat)
  case atStart => exact ⟨0, Nat.zero_le _, rfl, World.ownsRow_nil _ _ _ _, Up.refl _⟩
  case round =>
    obtain ⟨i, hi, rfl, hown, hur⟩ := hrel
    obtain ⟨hc, hf⟩ := bcell (hu12.trans hur)
    by_cases hin : i < n
    · have hcx := (i3.up hur).2 i (by rw [HVL.out]; omega)
      have hxb := HVb.out i (by rw [HVL.out]; omega)
      have HR : Hid ((List.range (i + 1)).map (openC t q vs) = (List.range i).map (openC t q vs) ++ [(2 * (t : Int) * vs.getD i 0 + q) / (2 * q) % (t : Int)]) := map_range_succ _ _
      generalize vs.getD i 0 = x at hcx hxb HR
      have hx1 := hxb.1
      have hx2 := hxb.2
      have h3 : 0 ≤ 2 * (t : Int) * x := Int.mul_nonneg (by omega) hx1
      have h4 : 2 * (t : Int) * x ≤ 2 * 1021 * 1073741823 := Int.mul_le_mul (by omega) (by omega) hx1 (by omega)
      have e1 : IntKind.i64.wrap (2 * (t : Int)) = 2 * (t : Int) := IntWalk.i64_in _ (by omega)
      have e2 : IntKind.i64.wrap (2 * (t : Int) * x) = 2 * (t : Int) * x := IntWalk.i64_in _ (by omega)
      have e3 : IntKind.i64.wrap (2 * (t : Int) * x + q) = 2 * (t : Int) * x + q := IntWalk.i64_in _ (by omega)
      have hz1 : 0 ≤ 2 * (t : Int) * x + q := by omega
      have e4 : IntKind.i64.wrap (2 * q) = 2 * q := IntWalk.i64_in _ (by omega)
      have e5 : IntKind.i64.wrap ((2 * (t : Int) * x + q).tdiv (2 * q)) = (2 * (t : Int) * x + q) / (2 * q) := IntWalk.i64_quo _ _ (by omega)
      have hd0 : 0 ≤ (2 * (t : Int) * x + q) / (2 * q) := Int.ediv_nonneg hz1 (by omega)
      have e6 : ((2 * (t : Int) * x + q) / (2 * q)).tmod (t : Int) = (2 * (t : Int) * x + q) / (2 * q) % (t : Int) := Int.tmod_eq_emod_of_nonneg hd0
      generalize (2 * (t : Int) * x + q) / (2 * q) % (t : Int) = y at e6 HR
      generalize (2 * (t : Int) * x + q) / (2 * q) = D at e5 e6 hd0
      have et1 : ¬ (t : Int) = 0 := by omega
      have et2 : ¬ t = 0 := by omega
      have et0 : ((t : Int) == 0) = false := beq_eq_false_iff_ne.2 et1
      have eq1 : ¬ (2 * q = 0) := by omega
      have eq0 : (2 * q == 0) = false := beq_eq_false_iff_ne.2 eq1
      have eq2 : ¬ (q = 0) := by omega
      have hT1 : wr.cell? ⟨w.heap.size, 1, none⟩ = some (.int .i64 (t : Int)) := by rw [hc _ _ (by simp; omega)]; simp
      have hT2 : wr.cell? ⟨w.heap.size, 2, none⟩ = some (.int .i64 q) := by rw [hc _ _ (by simp; omega)]; simp
      clear hc hf
      have hcn : (wr.alloc (.cells #[.int .i64 y] 3)).drew.cell? ⟨wr.heap.size, 0, none⟩ = some (.int .i64 y) := by simp
      have hbs := Nat.le_trans hur.size (Up.drew (Up.alloc (Up.refl wr) (.cells #[.int .i64 y] 3))).size
      go_wp2_with fail
      go_region_held3 (fun w' => w'.cell? ⟨w.heap.size, 1, none⟩ = some (.int .i64 (t : Int)) ∧ w'.cell? ⟨w.heap.size, 2, none⟩ = some (.int .i64 q))
        (first | go_keep | exact keepS hb4 hsz hsz (by assumption))
        ((first | (refine step_append_int (wr.alloc (.cells #[.int .i64 y] 3)).drew y wr.heap.size rfl (.tmp 38) (.tmp 54) rfl _ u9 ((List.range i).map (openC t q vs)) rfl (hown.up (Up.drew (Up.alloc (Up.refl _) _))) rfl hcn (by simp; omega) hbs ?_; intro v6 w6 hown6 hg4 hb4)))
      clear hcn hbs hT1 hT2
      go_wp2_with fail
      go_roundw
      case rel => exact ⟨i + 1, by omega, by go_num, by rw [HR.out]; exact hown6, Below.trans (Up.drew (Below.alloc hur hur.size _)) hb4⟩
      case measure => simp [intOf]; omega
    · obtain rfl : i = n := by omega
      obtain ⟨gm, cm, rfl, _, im⟩ := hown.is (ne_nil_of_length (openI_length i t q vs) (by omega))
      have hob := openI_bounds i t q vs (by omega) (by omega)
      have HOB : Hid _ := hob
      have HOL : Hid (((List.range i).map (openC t q vs)).length = i) := openI_length i t q vs
      clear hob
      rw [show ((List.range i).map (openC t q vs)).length = i from HOL.out]
      generalize (List.range i).map (openC t q vs) = ms at im HOB HA HOL
      go_wp2_with fail
      refine (slotDecode_calls i t q b ms gm cm _ g HOL.out HOB.out im).mono ?_
      rintro r w6 ⟨v6, rfl, ho6, hu6⟩
      clear hc hf
      have hsz6 := Nat.le_trans (Nat.le_of_lt hsz) hur.size
      go_wp2_with fail
      go_ret
      exact ⟨_, rfl, by rw [HA.out]; exact ho6.base hsz6, (((((Up.refl _).alloc _).alloc _).trans hu12).trans hur).trans hu6⟩

set_option maxHeartbeats 4000000 in
theorem Decrypt_ok (n t : Nat) (q b : Int) (k c : ByteArray) (w : World) (hk : k.size ≤ maxLen) (hcl : c.size ≤ maxLen) (g : NT n t) (hq : 2 ≤ q) (hq2 : q ≤ 1073741823) (hg : goodB n t q b = true) (h : secB k.data.toList n = true) (h2 : ctB c.data.toList n t q = true) :
    Calls Tryz.prog 32 #[.agg #[.int .i64 n, .int .i64 t, .int .i64 q, .int .i64 b], .string k, .string c] w fun e w' => e = .returned (.tuple #[.string ⟨(openL n t q k.data.toList c.data.toList).toArray⟩, .int .i64 0]) ∧ Up w w' := by
  have ht := g.t3
  have ht2 := g.ht
  obtain ⟨hd1, hd2, hd3⟩ := g.half
  have HB0 : Hid _ := ct0_bnd c.data.toList n t q h2 hq2 4294967296 (by omega)
  have HB1 : Hid _ := ct1_bnd c.data.toList n t q h2 hq2 1073741824 (by omega)
  have HA : Hid (openL n t q k.data.toList c.data.toList = textsL 2 (decI n t (openI n t q (plusI n (ct0 c.data.toList n) (timesI n (ct1 c.data.toList n) (secI k.data.toList n) q) q)))) := rfl
  generalize openL n t q k.data.toList c.data.toList = ans at HA
  have HSB : Hid _ := secI_bnd2 k.data.toList n 1073741824 (by omega)
  have HSL : Hid _ := secI_length k.data.toList n
  have HL0 : Hid _ := ct0_length c.data.toList n
  have HL1 : Hid _ := ct1_length c.data.toList n
  go_enter Tryz.func32, Tryz.ntmps32
  go_wp2_with fail
  refine (Good_calls _ _ _ _ _).mono ?_
  rintro e w1 ⟨rfl, hu1⟩
  obtain ⟨hc, hf⟩ := bcell hu1
  go_wp2_with fail
  refine (keysRead_ok n k _ hk (by omega) h).mono ?_
  rintro e w2 ⟨v2, rfl, ho2, hu2⟩
  obtain ⟨gs, cs, rfl, _, is2⟩ := ho2.is (ne_nil_of_length (secI_length _ _) (by omega))
  rw [secI_length]
  clear hc hf ho2
  have hu12 := hu1.trans hu2
  obtain ⟨hc, hf⟩ := bcell hu12
  go_wp2_with fail
  refine (cipherRead_ok n t q b c _ hcl (by omega) (by omega) (by omega) (by omega) (by omega) hq2 h2).mono ?_
  rintro e w3 ⟨g0, c0, g1, c1, rfl, i0, i1, hu3⟩
  have hu13 := hu12.trans hu3
  have is3 := is2.up hu3
  generalize secI k.data.toList n = ss at is3 HSL HSB HA
  generalize ct0 c.data.toList n = a0 at i0 HL0 HB0 HA
  generalize ct1 c.data.toList n = a1 at i1 HL1 HB1 HA
  generalize ctE c.data.toList = E
  clear hc hf is2 hu1 hu2 hu3
  have huA : Up w3 (w3.alloc (.cells #[.int .i64 E, .slice (some ⟨g0, 0, none⟩) n c0, .slice (some ⟨g1, 0, none⟩) n c1] 84)) := (Up.refl _).alloc _
  obtain ⟨hc, hf⟩ := bcell (hu13.trans huA)
  go_wp2_with fail
  refine (cipherDecrypt_calls n t E q b ss a0 a1 gs cs g0 c0 g1 c1 _ g hq hq2 HSL.out HL0.out HL1.out HSB.out HB0.out HB1.out (is3.up ((Up.refl _).alloc _)) (i0.up ((Up.refl _).alloc _)) (i1.up ((Up.refl _).alloc _))).mono ?_
  rintro e w4 ⟨v4, rfl, ho4, hu4⟩
  obtain ⟨g4, c4, rfl, _, i4⟩ := ho4.is (ne_nil_of_length (decI_length _ _ _) (by omega))
  clear hc hf ho4
  go_wp2_with fail
  refine (writeValues_calls _ g4 c4 _ (by rw [decI_length]; omega) (decI_bounds g _) i4).mono ?_
  rintro e w5 ⟨rfl, hu5⟩
  rw [← HA.out]
  go_wp2_with fail
  go_ret2
  exact ⟨rfl, ((((Up.refl _).alloc _).trans hu13).trans huA).trans (hu4.trans hu5)⟩

end Go.Proofs.YtcjhgbljhpflfabGreat
