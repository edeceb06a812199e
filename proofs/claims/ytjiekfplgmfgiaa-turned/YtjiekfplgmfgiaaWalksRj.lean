/-
  Walks: the reference's Decrypt.
-/
import Derived.Test.YtjiekfplgmfgiaaWalksRh
namespace Go.Proofs.Ytjiekfplgmfgiaa
open Go.RowKit
set_option linter.unusedVariables false
set_option maxRecDepth 100000

/-- what is opened: coefficient i -/
def openC (t q : Int) (vs : List Int) (i : Nat) : Int := (2 * t * vs.getD i 0 + q) / (2 * q) % t
def openI (n : Nat) (t q : Int) (vs : List Int) : List Int := (List.range n).map (openC t q vs)

/-- c0 and c1 times s -/
def mixI (n : Nat) (q : Int) (c s : List UInt8) : List Int := plusI n (ct0 c n) (timesI n (ct1 c n) (secI s n) q) q

def openL (n t : Nat) (q : Int) (k c : List UInt8) : List UInt8 := textsL 2 (decI n t (openI n t q (mixI n q c k)))

set_option maxHeartbeats 400000 in
theorem refDecrypt_bad (n t q b : Int) (k c : ByteArray) (w : World) (hg : goodB n t q b = false) :
    Calls Try.prog 32 #[.agg #[.int .i64 n, .int .i64 t, .int .i64 q, .int .i64 b], .string k, .string c] w fun e w' => e = .returned (.tuple #[.string ⟨#[]⟩, .int .i64 1]) ∧ Up w w' := by
  go_enter Try.func32, Try.ntmps32
  go_wp2_with (go_at_call 18; refine (refGood_calls _ _ _ _ _).mono ?_; rintro e w' ⟨rfl, hu⟩)
  go_ret2
  exact ⟨rfl, ((Up.refl _).alloc _).trans hu⟩

set_option maxHeartbeats 1000000 in
theorem refDecrypt_key (n : Nat) (t q b : Int) (k c : ByteArray) (w : World) (hk : k.size ≤ maxLen) (hn : n ≤ 16) (hg : goodB n t q b = true) (h : secB k.data.toList n = false) :
    Calls Try.prog 32 #[.agg #[.int .i64 n, .int .i64 t, .int .i64 q, .int .i64 b], .string k, .string c] w fun e w' => e = .returned (.tuple #[.string ⟨#[]⟩, .int .i64 2]) ∧ Up w w' := by
  go_enter Try.func32, Try.ntmps32
  go_wp2_with fail
  refine (refGood_calls _ _ _ _ _).mono ?_
  rintro e w1 ⟨rfl, hu1⟩
  obtain ⟨hc, hf⟩ := bcell hu1
  go_wp2_with fail
  refine (Secret_no n t q b k _ hk hn h).mono ?_
  rintro e w2 ⟨rfl, hu2⟩
  go_wp2_with fail
  go_ret2
  exact ⟨rfl, (((Up.refl _).alloc _).trans hu1).trans hu2⟩

set_option maxHeartbeats 1000000 in
theorem refDecrypt_form (n t : Nat) (q b : Int) (k c : ByteArray) (w : World) (hk : k.size ≤ maxLen) (hcl : c.size ≤ maxLen) (g : NT n t) (hq : 2 ≤ q) (hq2 : q ≤ 1073741823) (hg : goodB n t q b = true) (h : secB k.data.toList n = true) (h2 : ctB c.data.toList n t q = false) :
    Calls Try.prog 32 #[.agg #[.int .i64 n, .int .i64 t, .int .i64 q, .int .i64 b], .string k, .string c] w fun e w' => e = .returned (.tuple #[.string ⟨#[]⟩, .int .i64 2]) ∧ Up w w' := by
  have ht := g.t3
  have ht2 := g.ht
  obtain ⟨hd1, hd2, hd3⟩ := g.half
  go_enter Try.func32, Try.ntmps32
  go_wp2_with fail
  refine (refGood_calls _ _ _ _ _).mono ?_
  rintro e w1 ⟨rfl, hu1⟩
  obtain ⟨hc, hf⟩ := bcell hu1
  go_wp2_with fail
  refine (Secret_ok n t q b k _ hk (by omega) (by omega) h).mono ?_
  rintro e w2 ⟨v2, rfl, ho2, hu2⟩
  clear hc hf
  obtain ⟨hc, hf⟩ := bcell (hu1.trans hu2)
  go_wp2_with fail
  refine Calls.mono (Read_no n t q b c _ hcl (by omega) (by omega) (by omega) (by omega) (by omega) hq2 h2) ?_
  rintro e w3 ⟨x, p0, x0, y0, p1, x1, y1, rfl, hu3⟩
  clear hc hf
  go_wp2_with fail
  go_ret2
  exact ⟨rfl, Up.alloc (((((Up.refl _).alloc _).trans hu1).trans hu2).trans hu3) _⟩

theorem openI_length (n : Nat) (t q : Int) (vs : List Int) : ((List.range n).map (openC t q vs)).length = n := by simp

theorem openI_bounds (n : Nat) (t q : Int) (vs : List Int) (ht : 0 < t) (ht2 : t ≤ 1021) : ∀ i, i < ((List.range n).map (openC t q vs)).length → 0 ≤ ((List.range n).map (openC t q vs)).getD i 0 ∧ ((List.range n).map (openC t q vs)).getD i 0 < 65536 := by
  intro i hi
  rw [openI_length] at hi
  rw [getD_range hi]
  have := mod_bounds ht ((2 * t * vs.getD i 0 + q) / (2 * q))
  unfold openC
  omega

theorem OwnI.isI {w : World} {base g cap n : Nat} {xs : List Int} (h : OwnI w base (.slice (some ⟨g, 0, none⟩) n cap) xs) : IsI w g xs := by
  have h1 := h.block_lt
  refine ⟨h1.2, fun i hi => ?_⟩
  rcases h.2 with ⟨c, _⟩ | ⟨g', cap', cur, he, _, h5, _, _, _, h9⟩
  · simp at c
  · simp only [Value.slice.injEq, Option.some.injEq, Addr.mk.injEq, and_true] at he
    obtain ⟨rfl, _, _⟩ := he
    have hc : w.cell? ⟨g, i, none⟩ = cur.toList[i]? := by
      simp [World.cell?, h5]
    rw [hc]
    have h10 : (cur.toList.take (xs.length * 1))[i]? = (xs.map (Value.int .i64))[i]? := by rw [h9]
    rw [List.getElem?_take, if_pos (by omega)] at h10
    rw [h10, List.getElem?_map, List.getD_eq_getElem?_getD, List.getElem?_eq_getElem hi]
    rfl

theorem ct0_bnd (l : List UInt8) (n : Nat) (t q : Int) (h : ctB l n t q = true) (hq2 : q ≤ 1073741823) (m : Int) (hm : 1073741823 ≤ m) : Bnd (ct0 l n) m := by
  obtain ⟨_, _, h3, _, _⟩ := (ctB_iff _ _ _ _).1 h
  refine Bnd_map (by omega) fun i hi => ?_
  have := ((okL_iff _ _ _ _).1 h3).2 i hi
  rw [numL_drop, numL_take _ _ _ _ (by omega), Nat.mul_comm i 4] at this
  omega

theorem ct1_bnd (l : List UInt8) (n : Nat) (t q : Int) (h : ctB l n t q = true) (hq2 : q ≤ 1073741823) (m : Int) (hm : 1073741823 ≤ m) : Bnd (ct1 l n) m := by
  obtain ⟨_, _, _, h4, _⟩ := (ctB_iff _ _ _ _).1 h
  refine Bnd_map (by omega) fun i hi => ?_
  have := ((okL_iff _ _ _ _).1 h4).2 i hi
  rw [numL_drop, Nat.mul_comm i 4] at this
  omega

set_option maxRecDepth 100000 in
set_option maxHeartbeats 4000000 in
theorem refDecrypt_ok (n t : Nat) (q b : Int) (k c : ByteArray) (w : World) (hk : k.size ≤ maxLen) (hcl : c.size ≤ maxLen) (g : NT n t) (hq : 2 ≤ q) (hq2 : q ≤ 1073741823) (hg : goodB n t q b = true) (h : secB k.data.toList n = true) (h2 : ctB c.data.toList n t q = true) :
    Calls Try.prog 32 #[.agg #[.int .i64 n, .int .i64 t, .int .i64 q, .int .i64 b], .string k, .string c] w fun e w' => e = .returned (.tuple #[.string ⟨(openL n t q k.data.toList c.data.toList).toArray⟩, .int .i64 0]) ∧ Up w w' := by
  have ht := g.t3
  have ht2 := g.ht
  obtain ⟨hd1, hd2, hd3⟩ := g.half
  have HB0 : Hid _ := ct0_bnd c.data.toList n t q h2 hq2 4294967296 (by omega)
  have HB1 : Hid _ := ct1_bnd c.data.toList n t q h2 hq2 1073741824 (by omega)
  have HA : Hid (openL n t q k.data.toList c.data.toList = textsL 2 (decI n t (openI n t q (plusI n (ct0 c.data.toList n) (timesI n (ct1 c.data.toList n) (secI k.data.toList n) q) q)))) := rfl
  generalize openL n t q k.data.toList c.data.toList = ans at HA
  go_enter Try.func32, Try.ntmps32
  go_wp2_with fail
  refine (refGood_calls _ _ _ _ _).mono ?_
  rintro e w1 ⟨rfl, hu1⟩
  obtain ⟨hc, hf⟩ := bcell hu1
  go_wp2_with fail
  refine (Secret_ok n t q b k _ hk (by omega) (by omega) h).mono ?_
  rintro e w2 ⟨v2, rfl, ho2, hu2⟩
  obtain ⟨gs, cs, rfl, _, is2⟩ := ho2.is (ne_nil_of_length (secI_length _ _) (by omega))
  rw [secI_length]
  clear hc hf ho2
  obtain ⟨hc, hf⟩ := bcell (hu1.trans hu2)
  go_wp2_with fail
  refine (Read_ok n t q b c _ hcl (by omega) (by omega) (by omega) (by omega) (by omega) hq2 h2).mono ?_
  rintro e w3 ⟨g0, c0, g1, c1, rfl, ho0, ho1, hu3⟩
  have i0 := ho0.isI
  have i1 := ho1.isI
  have hu13 := (hu1.trans hu2).trans hu3
  have is3 := is2.up hu3
  have HSL : Hid _ := secI_length k.data.toList n
  have HL0 : Hid _ := ct0_length c.data.toList n
  have HL1 : Hid _ := ct1_length c.data.toList n
  generalize secI k.data.toList n = ss at is3 HSL HA
  generalize ct0 c.data.toList n = a0 at i0 HL0 HB0 HA
  generalize ct1 c.data.toList n = a1 at i1 HL1 HB1 HA
  clear hc hf is2 hu1 hu2 hu3 ho0 ho1
  obtain ⟨hc, hf⟩ := bcell hu13
  have hS0 : w3.cell? ⟨w.heap.size, 2, none⟩ = some (.int .i64 q) := by rw [hc _ _ (by simp)]; simp
  have hlt3 : w.heap.size < w3.heap.size := by have := hu13.size; simp at this; omega
  clear hc hf
  obtain ⟨W, hW⟩ : ∃ W, W = w3.alloc (.cells #[.int .i64 (ctE c.data.toList), .slice (some ⟨g0, 0, none⟩) n c0, .slice (some ⟨g1, 0, none⟩) n c1] 94) := ⟨_, rfl⟩
  have huW : Up w3 W := by rw [hW]; exact (Up.refl _).alloc _
  have hT0 : W.cell? ⟨w.heap.size, 2, none⟩ = some (.int .i64 q) := keepU huW hS0
  have hT1 : W.cell? ⟨w3.heap.size, 1, none⟩ = some (.slice (some ⟨g0, 0, none⟩) n c0) := by rw [hW]; simp
  have hT2 : W.cell? ⟨w3.heap.size, 2, none⟩ = some (.slice (some ⟨g1, 0, none⟩) n c1) := by rw [hW]; simp
  have is4 := is3.up huW
  have i04 := i0.up huW
  have i14 := i1.up huW
  go_wp2_with fail
  rw [← hW]
  have HW : Hid _ := hW
  clear hW hS0
  go_region_held3 (fun w' => w'.cell? ⟨w.heap.size, 2, none⟩ = some (.int .i64 q) ∧ w'.cell? ⟨w3.heap.size, 1, none⟩ = some (.slice (some ⟨g0, 0, none⟩) n c0) ∧ w'.cell? ⟨w3.heap.size, 2, none⟩ = some (.slice (some ⟨g1, 0, none⟩) n c1))
    (first | go_keep | exact ⟨keepU hu5 (And.left (by assumption)), keepU hu5 (And.left (And.right (by assumption))), keepU hu5 (And.right (And.right (by assumption)))⟩ | exact ⟨keepU hu4 (And.left (by assumption)), keepU hu4 (And.left (And.right (by assumption))), keepU hu4 (And.right (And.right (by assumption)))⟩)
    ((first | (go_at_call 84; refine (Times_calls n a1 ss g1 gs c1 cs q _ (by omega) HL1.out HSL.out (by omega) hq2 HB1.out (by exact i14.up (Up.drew (Up.refl _))) (by exact is4.up (Up.drew (Up.refl _)))).mono ?_; rintro e w4 ⟨v4, rfl, ho4, hu4⟩; obtain ⟨g4, c4, rfl, hg4, i4⟩ := ho4.is (ne_nil_of_length (timesI_length _ _ _ _) (by omega)); rw [timesI_length]) | (go_at_call 83; refine (Plus_calls n a0 _ g0 g4 c0 c4 q _ (by omega) HL0.out (timesI_length _ _ _ _) (by omega) hq2 HB0.out (Bnd_mod (by omega) (by omega) (fun i => ⟨_, rfl⟩)) (by exact (i04.up (Up.drew (Up.refl _))).up hu4) i4).mono ?_; rintro e w5 ⟨v5, rfl, ho5, hu5⟩; obtain ⟨g5, c5, rfl, hg5, i5⟩ := ho5.is (ne_nil_of_length (plusI_length _ _ _ _) (by omega)); rw [plusI_length])))
  have huW5 : Up W w5 := Up.trans (Up.trans (Up.drew (Up.refl _)) hu4) hu5
  have hu15 := (hu13.trans huW).trans huW5
  have HVb : Hid _ := plusI_bounds n a0 (timesI n a1 ss q) q (by omega)
  have HVL : Hid _ := plusI_length n a0 (timesI n a1 ss q) q
  generalize plusI n a0 (timesI n a1 ss q) q = vs at i5 HVb HVL HA
  have hsz5 : w.heap.size < w5.heap.size := by have := hu15.size; simp at this; omega
  clear hT0 hT1 hT2 is4 i04 i14 hu4 hu5 ho4 ho5 i4 huW huW5 hu13
  go_wp2_with fail
  go_loopw [13, 14] (fun m j wr => ∃ i : Nat, i ≤ n ∧ j = .int .i64 (i : Int) ∧ OwnI wr w5.heap.size m ((List.range i).map (openC t q vs)) ∧ Up w5 wr) (fun _ j _ => n - (intOf j).toNat)
  case atStart => exact ⟨0, Nat.zero_le _, rfl, World.ownsRow_nil _ _ _ _, Up.refl _⟩
  case round =>
    obtain ⟨i, hi, rfl, hown, hur⟩ := hrel
    obtain ⟨hc, hf⟩ := bcell (hu15.trans hur)
    by_cases hin : i < n
    · have hcx := (i5.up hur).2 i (by rw [HVL.out]; omega)
      have hxb := HVb.out i (by rw [HVL.out]; omega)
      have HR : Hid ((List.range (i + 1)).map (openC t q vs) = (List.range i).map (openC t q vs) ++ [(2 * (t : Int) * vs.getD i 0 + q) / (2 * q) % (t : Int)]) := map_range_succ _ _
      generalize vs.getD i 0 = x at hcx hxb HR
      have hx1 := hxb.1
      have hx2 := hxb.2
      have h3 : 0 ≤ 2 * (t : Int) * x := Int.mul_nonneg (by omega) hx1
      have h4 : 2 * (t : Int) * x ≤ 2 * 1021 * 1073741823 := Int.mul_le_mul (by omega) (by omega) hx1 (by omega)
      have e1 : IntKind.i64.wrap (2 * (t : Int)) = 2 * (t : Int) := IntWalk.i64_in _ (by omega)
      have e2 : IntKind.i64.wrap (2 * (t : Int) * x) = 2 * (t : Int) * x := IntWalk.i64_in _ (by omega)
      have e3 : IntKind.i64.wrap (2 * (t : Int) * x + q) = 2 * (t : Int) * x + q := IntWalk.i64_in _ (by omega)
      have hi0 : (0 : Int) ≤ (i : Int) := by omega
      have hi1 : (i : Int) < (n : Int) := by omega
      go_wp2_with fail
      go_quiet (fail)
      have hz1 : 0 ≤ 2 * (t : Int) * x + q := by omega
      have hz2 : 2 * (t : Int) * x + q ≤ 4611686018427387904 := by omega
      clear e1 e2 e3
      generalize 2 * (t : Int) * x + q = z at hz1 hz2 HR
      have hd0 : 0 ≤ z / (2 * q) := Int.ediv_nonneg hz1 (by omega)
      have e4 : IntKind.i64.wrap (2 * q) = 2 * q := IntWalk.i64_in _ (by omega)
      have e5 : IntKind.i64.wrap (z.tdiv (2 * q)) = z / (2 * q) := IntWalk.i64_quo _ _ (by omega)
      have e6 : (z / (2 * q)).tmod (t : Int) = z / (2 * q) % (t : Int) := Int.tmod_eq_emod_of_nonneg hd0
      have et1 : ¬ (t : Int) = 0 := by omega
      have et2 : ¬ t = 0 := by omega
      have et0 : ((t : Int) == 0) = false := beq_eq_false_iff_ne.2 et1
      have eq1 : ¬ (2 * q = 0) := by omega
      have eq0 : (2 * q == 0) = false := beq_eq_false_iff_ne.2 eq1
      have eq2 : ¬ (q = 0) := by omega
      have hT1 : wr.cell? ⟨w.heap.size, 1, none⟩ = some (.int .i64 (t : Int)) := by rw [hc _ _ (by simp)]; simp
      have hT2 : wr.cell? ⟨w.heap.size, 2, none⟩ = some (.int .i64 q) := by rw [hc _ _ (by simp)]; simp
      have hT1' : (wr.drewN nq).cell? ⟨w.heap.size, 1, none⟩ = some (.int .i64 (t : Int)) := hT1
      have hT2' : (wr.drewN nq).cell? ⟨w.heap.size, 2, none⟩ = some (.int .i64 q) := hT2
      have hown' := hown.up (Up.drewN (n := nq) (Up.refl wr))
      have hur' := Up.drewN (n := nq) hur
      clear hT1 hT2 hown hur hc hf hcx
      generalize wr.drewN nq = W2 at hT1' hT2' hown' hur' ⊢
      generalize z / (2 * q) % (t : Int) = y at e6 HR
      have hcn : (W2.alloc (.cells #[.int .i64 y] 3)).drew.cell? ⟨W2.heap.size, 0, none⟩ = some (.int .i64 y) := by simp
      have hbs := Nat.le_trans hur'.size (Up.drew (Up.alloc (Up.refl W2) (.cells #[.int .i64 y] 3))).size
      go_wp2_with fail
      go_region_held3 (fun w' => w'.cell? ⟨w.heap.size, 1, none⟩ = some (.int .i64 (t : Int)) ∧ w'.cell? ⟨w.heap.size, 2, none⟩ = some (.int .i64 q))
        (first | go_keep | exact keepS hb4 hsz5 hsz5 (by assumption))
        ((first | (refine step_append_int (W2.alloc (.cells #[.int .i64 y] 3)).drew y W2.heap.size rfl (.tmp 64) (.tmp 73) rfl _ u13 ((List.range i).map (openC t q vs)) rfl (hown'.up (Up.drew (Up.alloc (Up.refl _) _))) rfl hcn (by simp; omega) hbs ?_; intro v6 w6 hown6 hg4 hb4)))
      clear hcn hbs hT1' hT2'
      go_wp2_with fail
      go_roundw
      case rel => exact ⟨i + 1, by omega, by go_num, by rw [HR.out]; exact hown6, Below.trans (Up.drew (Below.alloc hur' hur'.size _)) hb4⟩
      case measure => simp [intOf]; omega
    · obtain rfl : i = n := by omega
      obtain ⟨gm, cm, rfl, _, im⟩ := hown.is (ne_nil_of_length (openI_length i t q vs) (by omega))
      have hob := openI_bounds i t q vs (by omega) (by omega)
      have HOB : Hid _ := hob
      have HA2 : Hid (ans = textsL 2 (decI i t ((List.range i).map (openC t q vs)))) := HA.out
      have HOL : Hid (((List.range i).map (openC t q vs)).length = i) := openI_length i t q vs
      clear hob HA
      rw [show ((List.range i).map (openC t q vs)).length = i from HOL.out]
      generalize (List.range i).map (openC t q vs) = ms at im HOB HA2 HOL
      go_wp2_with fail
      refine (refSlots_calls i t q b ms gm cm _ g HOL.out HOB.out im).mono ?_
      rintro e w6 ⟨v6, rfl, ho6, hu6⟩
      obtain ⟨g6, c6, rfl, _, i6⟩ := ho6.is (ne_nil_of_length (decI_length _ _ _) (by omega))
      clear hc hf ho6
      go_wp2_with fail
      refine (Texts_calls _ g6 c6 2 _ (by omega) (by rw [decI_length]; omega) (fun j hj => by have := decI_bounds g _ j hj; omega) i6).mono ?_
      rintro e w7 ⟨rfl, hu7⟩
      rw [← HA2.out]
      go_wp2_with fail
      go_ret2
      exact ⟨rfl, ((((Up.refl _).alloc _).trans hu15).trans hur).trans (hu6.trans hu7)⟩

end Go.Proofs.Ytjiekfplgmfgiaa
