/-
  Walks: the program's hiding of a polynomial, and its writing of a ciphertext.
  Walks: the program's writing and reading of a ciphertext.
  Walks: the program's Encrypt.
-/
import Derived.Test.YtcjhgbljhpflfabGreatCodeR
import Derived.Test.YtcjhgbljhpflfabGreatCodeK
import Derived.Test.YtcjhgbljhpflfabGreatCodeQ
namespace Go.Proofs.YtcjhgbljhpflfabGreat
open Go.RowKit
set_option linter.unusedVariables false
set_option maxRecDepth 100000

theorem Up.le {a b : World} (h : Up a b) : a.heap.size ≤ b.heap.size := Below.size h

theorem encI_bnd {n t : Nat} (g : NT n t) (xs : List Int) (m : Int) (hm : 1021 ≤ m) : Bnd (encI n t xs) m := by
  have ht := g.ht
  exact Bnd_map (by omega) fun i _ => by have := encC_bounds g xs i; omega

/-- DELTA times the polynomial with these slots -/
def liftI (n t : Nat) (q : Int) (xs : List Int) : List Int := scaledI n (encI n t xs) (q / (t : Int)) q

theorem liftI_length (n t : Nat) (q : Int) (xs : List Int) : (liftI n t q xs).length = n := scaledI_length _ _ _ _

theorem liftI_bnd (n t : Nat) (q : Int) (xs : List Int) (m : Int) (hq : 0 < q) (hm : q ≤ m) : Bnd (liftI n t q xs) m := Bnd_mod hq hm fun i => ⟨_, rfl⟩
theorem plusI_bnd (n : Nat) (xs ys : List Int) (q m : Int) (hq : 0 < q) (hm : q ≤ m) : Bnd (plusI n xs ys q) m := Bnd_mod hq hm fun i => ⟨_, rfl⟩
theorem scaledI_bnd (n : Nat) (xs : List Int) (k q m : Int) (hq : 0 < q) (hm : q ≤ m) : Bnd (scaledI n xs k q) m := Bnd_mod hq hm fun i => ⟨_, rfl⟩
theorem timesI_bnd (n : Nat) (xs ys : List Int) (q m : Int) (hq : 0 < q) (hm : q ≤ m) : Bnd (timesI n xs ys q) m := Bnd_mod hq hm fun i => ⟨_, rfl⟩
theorem pairA_bnd (l : List UInt8) (q : Int) (n at0 : Nat) (m : Int) (hq : 0 < q) (hm : q ≤ m) : Bnd (pairA l q n at0) m := Bnd_mod hq hm fun i => ⟨_, rfl⟩

theorem delta_bounds {t q : Int} (ht : 1 ≤ t) (hq : 0 ≤ q) (hq2 : q ≤ 1073741823) : 0 ≤ q / t ∧ q / t ≤ 1073741823 := by
  have h1 : 0 ≤ q / t := Int.ediv_nonneg (by omega) (by omega)
  have h2 : q / t ≤ q := Int.ediv_le_self t (a := q) (by omega)
  omega

set_option maxHeartbeats 2000000 in
theorem lift_calls (n t : Nat) (q b : Int) (ss : List Int) (gs cap : Nat) (w : World) (g : NT n t) (hq : 2 ≤ q) (hq2 : q ≤ 1073741823) (hl : ss.length = n) (hx : ∀ i, i < ss.length → 0 ≤ ss.getD i 0 ∧ ss.getD i 0 < 65536) (hi : IsI w gs ss) :
    Calls Tryz.prog 129 #[.agg #[.int .i64 n, .int .i64 t, .int .i64 q, .int .i64 b], .slice (some ⟨gs, 0, none⟩) n cap] w fun e w' => ∃ v, e = .returned v ∧ OwnI w' w.heap.size v (liftI n t q ss) ∧ Up w w' := by
  have ht := g.t3
  have ht2 := g.ht
  obtain ⟨hd1, hd2, hd3⟩ := g.half
  obtain ⟨hD1, hD2⟩ := delta_bounds (t := (t : Int)) (q := q) (by omega) (by omega) hq2
  have HX : Hid _ := hx
  have HL : Hid _ := hl
  have HEB : Hid _ := encI_bnd g ss 1073741824 (by omega)
  have HA : Hid (liftI n t q ss = scaledI n (encI n t ss) (q / (t : Int)) q) := rfl
  generalize liftI n t q ss = ans at HA
  clear hx hl
  go_enter Tryz.func129, Tryz.ntmps129
  go_wp2_with fail
  refine (slotEncode_calls n t q b ss gs cap _ g HL.out HX.out (hi.up ((Up.refl _).alloc _))).mono ?_
  rintro e w1 ⟨v1, rfl, ho1, hu1⟩
  obtain ⟨g1, c1, rfl, _, i1⟩ := ho1.is (ne_nil_of_length (encI_length _ _ _) (by omega))
  rw [encI_length]
  clear ho1
  have HEL : Hid _ := encI_length n t ss
  generalize encI n t ss = es at i1 HEB HA HEL
  obtain ⟨hc, hf⟩ := bcell hu1
  have hS0 : w1.cell? ⟨w.heap.size, 0, none⟩ = some (.int .i64 (n : Int)) := by rw [hc _ _ (by simp)]; simp
  have hS1 : w1.cell? ⟨w.heap.size, 1, none⟩ = some (.int .i64 (t : Int)) := by rw [hc _ _ (by simp)]; simp
  have hS2 : w1.cell? ⟨w.heap.size, 2, none⟩ = some (.int .i64 q) := by rw [hc _ _ (by simp)]; simp
  have hS3 : w1.cell? ⟨w.heap.size, 3, none⟩ = some (.int .i64 b) := by rw [hc _ _ (by simp)]; simp
  clear hc hf
  go_wp2_with fail
  go_region_held3 (fun w' => w'.cell? ⟨w.heap.size, 0, none⟩ = some (.int .i64 (n : Int)) ∧ w'.cell? ⟨w.heap.size, 1, none⟩ = some (.int .i64 (t : Int)) ∧ w'.cell? ⟨w.heap.size, 2, none⟩ = some (.int .i64 q) ∧ w'.cell? ⟨w.heap.size, 3, none⟩ = some (.int .i64 b))
    (first | go_keep | exact keepC4 hu3 (by assumption) | exact keepC4 hu2 (by assumption))
    ((first | (go_at_call 153; refine (Delta_calls n t q b _ (by omega) (by omega) (by omega) hq2).mono ?_; rintro e w2 ⟨rfl, hu2⟩) | (go_at_call 121; refine (ringScale_calls n es g1 c1 (q / (t : Int)) q _ (by omega) HEL.out (by omega) hq2 (by omega) (by omega) HEB.out (by exact (i1.up (Up.drew (Up.refl _))).up hu2)).mono ?_; rintro e w3 ⟨v3, rfl, ho3, hu3⟩)))
  have hu13 : Up w1 w3 := Up.trans (Up.trans (Up.drew (Up.refl _)) hu2) hu3
  have hsz : w.heap.size ≤ w2.heap.size := Nat.le_trans (Up.le (((Up.refl w).alloc _).trans hu1)) (Up.le (Up.trans (Up.drew (Up.refl _)) hu2))
  go_wp2_with fail
  go_ret
  exact ⟨_, rfl, by rw [HA.out]; exact ho3.base hsz, (((Up.refl _).alloc _).trans hu1).trans hu13⟩

/-- a polynomial, hidden by a drawn pair -/
def coverI (n : Nat) (s xs : List Int) (q : Int) (l : List UInt8) (at0 : Nat) : List Int := plusI n (plusI n (pairE l n at0) xs q) (scaledI n (timesI n (pairA l q n at0) s q) (-1) q) q

set_option maxHeartbeats 4000000 in
theorem hide_calls (n wh at0 : Nat) (t q b : Int) (ss xs : List Int) (gs cs gx cx : Nat) (d : ByteArray) (w : World) (hd : d.size ≤ maxLen) (hn : n ≤ 16) (hn1 : 1 ≤ n) (hq : 0 < q) (hq2 : q ≤ 1073741823) (hls : ss.length = n) (hlx : xs.length = n) (hbs : Bnd ss 1073741824) (hbx : Bnd xs 4294967296) (hat : 5 * n * wh = at0) (hat2 : at0 ≤ 65536) (is : IsI w gs ss) (ix : IsI w gx xs) :
    Calls Tryz.prog 120 #[.agg #[.int .i64 n, .int .i64 t, .int .i64 q, .int .i64 b], .slice (some ⟨gs, 0, none⟩) n cs, .slice (some ⟨gx, 0, none⟩) n cx, .string d, .int .i64 wh] w fun e w' => ∃ g0 c0 g1 c1, e = .returned (.tuple #[.slice (some ⟨g0, 0, none⟩) n c0, .slice (some ⟨g1, 0, none⟩) n c1]) ∧
      OwnI w' w.heap.size (.slice (some ⟨g0, 0, none⟩) n c0) (coverI n ss xs q d.data.toList at0) ∧ OwnI w' w.heap.size (.slice (some ⟨g1, 0, none⟩) n c1) (pairA d.data.toList q n at0) ∧ Up w w' := by
  have HLS : Hid _ := hls
  have HLX : Hid _ := hlx
  have HBS : Hid _ := hbs
  have HBX : Hid _ := hbx
  have HPA : Hid _ := pairA_bnd d.data.toList q n at0 1073741824 hq (by omega)
  have HPE : Hid _ := pairE_bnd d.data.toList n at0 4294967296 (by omega)
  have HLA : Hid _ := pairA_length d.data.toList q n at0
  have HLE : Hid _ := pairE_length d.data.toList n at0
  have HA : Hid (coverI n ss xs q d.data.toList at0 = plusI n (plusI n (pairE d.data.toList n at0) xs q) (scaledI n (timesI n (pairA d.data.toList q n at0) ss q) (-1) q) q) := rfl
  generalize coverI n ss xs q d.data.toList at0 = ans at HA
  clear hls hlx hbs hbx
  go_enter Tryz.func120, Tryz.ntmps120
  go_wp2_with fail
  refine (drawPair_calls n wh at0 t q b d _ hd hn hq hq2 hat hat2).mono ?_
  rintro e w1 ⟨va, ve, rfl, hoa, hoe, hu1⟩
  obtain ⟨g1, c1, rfl, _, ia⟩ := hoa.is (ne_nil_of_length HLA.out (by omega))
  obtain ⟨ge, ce, rfl, _, ie⟩ := hoe.is (ne_nil_of_length HLE.out (by omega))
  rw [HLA.out, HLE.out]
  rw [HLA.out] at hoa
  clear hoe
  generalize hA' : pairA d.data.toList q n at0 = A at hoa ia HPA HLA HA
  have HAe : Hid _ := hA'
  clear hA'
  generalize pairE d.data.toList n at0 = E at ie HPE HLE HA
  have is1 := (is.up ((Up.refl _).alloc _)).up hu1
  have ix1 := (ix.up ((Up.refl _).alloc _)).up hu1
  obtain ⟨hc, hf⟩ := bcell hu1
  clear is ix
  go_wp2_with fail
  refine (ringMul_calls n A ss g1 gs c1 cs q _ hn HLA.out HLS.out hq hq2 HPA.out HBS.out ia is1).mono ?_
  rintro e w2 ⟨g2, rfl, ho2, hu2⟩
  have i2 := ho2.isI
  clear hc hf ho2
  have hu12 := hu1.trans hu2
  obtain ⟨hc, hf⟩ := bcell hu12
  go_wp2_with fail
  refine (ringAdd_calls n E xs ge gx ce cx q _ hn HLE.out HLX.out hq hq2 HPE.out HBX.out (ie.up hu2) (ix1.up hu2)).mono ?_
  rintro e w4 ⟨v4, rfl, ho4, hu4⟩
  obtain ⟨g4, c4, rfl, _, i4⟩ := ho4.is (ne_nil_of_length (plusI_length _ _ _ _) (by omega))
  rw [plusI_length]
  clear hc hf ho4
  have hu14 := hu12.trans hu4
  obtain ⟨hc, hf⟩ := bcell hu14
  go_wp2_with fail
  refine (ringSub_calls n (plusI n E xs q) (timesI n A ss q) g4 g2 c4 n q _ hn (by omega) (plusI_length _ _ _ _) (timesI_length _ _ _ _) hq hq2 (plusI_bnd _ _ _ _ _ hq (by omega)) (timesI_bnd _ _ _ _ _ hq (by omega)) i4 (i2.up hu4)).mono ?_
  rintro e w5 ⟨v5, rfl, ho5, hu5⟩
  obtain ⟨g5, c5, rfl, _, _⟩ := ho5.is (ne_nil_of_length (plusI_length _ _ _ _) (by omega))
  rw [plusI_length] at ho5 ⊢
  clear hc hf
  have hsz : w.heap.size ≤ w4.heap.size := Up.le (((Up.refl w).alloc _).trans hu14)
  have hoa5 := hoa.up ((hu2.trans hu4).trans hu5)
  go_wp2_with fail
  go_ret2
  refine ⟨_, _, _, _, rfl, ?_, ?_, ((Up.refl _).alloc _).trans (hu14.trans hu5)⟩
  · rw [HA.out]; exact ho5.base hsz
  · rw [HAe.out]; exact hoa5.base (by simp)

end Go.Proofs.YtcjhgbljhpflfabGreat

namespace Go.Proofs.YtcjhgbljhpflfabGreat
open Go.RowKit
set_option linter.unusedVariables false
set_option maxRecDepth 100000

theorem textsL_one (e k : Nat) : textsL k [(e : Int)] = textL e k := by
  show textL ((e : Int)).toNat k ++ [] = _
  rw [Int.toNat_natCast, List.append_nil]

set_option maxHeartbeats 4000000 in
theorem cipherWrite_calls (n e : Nat) (c0 c1 : List Int) (g0 g1 k0 k1 : Nat) (w : World) (hn : n ≤ 16) (he : e ≤ 1125899906842624)
    (hl0 : c0.length = n) (hl1 : c1.length = n) (hb0 : ∀ i, i < c0.length → 0 ≤ c0.getD i 0 ∧ c0.getD i 0 ≤ 4611686018427387904) (hb1 : ∀ i, i < c1.length → 0 ≤ c1.getD i 0 ∧ c1.getD i 0 ≤ 4611686018427387904) (i0 : IsI w g0 c0) (i1 : IsI w g1 c1) :
    Calls Tryz.prog 83 #[.agg #[.int .i64 e, .slice (some ⟨g0, 0, none⟩) n k0, .slice (some ⟨g1, 0, none⟩) n k1]] w fun r w' => r = .returned (.string ⟨(toldL e c0 c1).toArray⟩) ∧ Up w w' := by
  have hadd1 : ∀ W, (Op.stringOp .add ⟨#[67]⟩ ⟨(textL e 5).toArray⟩).run Tryz.prog W = .ok (.string ⟨([67] ++ textL e 5).toArray⟩) W := add_str [67] (textL e 5) (by simp) (by rw [textL_length]; omega)
  have hadd2 := add_str ([67] ++ textL e 5) (textsL 4 c0) (by rw [List.length_append, textL_length]; simp) (by rw [textsL_length]; omega)
  have hadd3 := add_str ([67] ++ textL e 5 ++ textsL 4 c0) (textsL 4 c1) (by rw [List.length_append, List.length_append, textL_length, textsL_length]; simp; omega) (by rw [textsL_length]; omega)
  generalize hT : toldL e c0 c1 = T
  have hT' : [67] ++ textL e 5 ++ textsL 4 c0 ++ textsL 4 c1 = T := hT
  rw [hT'] at hadd3
  have H0 : Hid _ := hb0
  have H1 : Hid _ := hb1
  have HL0 : Hid _ := hl0
  have HL1 : Hid _ := hl1
  have HTx : Hid (∀ W g, W.cell? ⟨g, 0, none⟩ = some (.int .i64 (e : Int)) → Calls Tryz.prog 123 #[.slice (some ⟨g, 0, none⟩) 1 1, .int .i64 5] W fun r w' => r = .returned (.string ⟨(textL e 5).toArray⟩) ∧ Up W w') := fun W g hW => by
    have := Write_calls [(e : Int)] g 1 5 W (by omega) (by omega) (by simp) (fun i hi => by
      have : i = 0 := by simp at hi; exact hi
      subst this; simp; omega) ⟨World.block_lt_of_cell? W ⟨g, 0, none⟩ hW, fun i hi => by
      have : i = 0 := by simp at hi; exact hi
      subst this; simpa using hW⟩
    rw [textsL_one] at this
    exact this
  have HT0 : Hid (∀ W, IsI W g0 c0 → Calls Tryz.prog 123 #[.slice (some ⟨g0, 0, none⟩) n k0, .int .i64 4] W fun r w' => r = .returned (.string ⟨(textsL 4 c0).toArray⟩) ∧ Up W w') := fun W hi => by
    have := Write_calls c0 g0 k0 4 W (by omega) (by omega) (by omega) H0.out hi
    rw [HL0.out] at this
    exact this
  have HT1 : Hid (∀ W, IsI W g1 c1 → Calls Tryz.prog 123 #[.slice (some ⟨g1, 0, none⟩) n k1, .int .i64 4] W fun r w' => r = .returned (.string ⟨(textsL 4 c1).toArray⟩) ∧ Up W w') := fun W hi => by
    have := Write_calls c1 g1 k1 4 W (by omega) (by omega) (by omega) H1.out hi
    rw [HL1.out] at this
    exact this
  clear hb0 hb1 hl0 hl1 hT hT' H0 H1
  generalize [67] ++ textL e 5 ++ textsL 4 c0 = t3 at hadd2 hadd3
  generalize [67] ++ textL e 5 = t2 at hadd1 hadd2
  generalize textL e 5 = t1 at hadd1 HTx
  generalize textsL 4 c0 = s0 at hadd2 HT0
  generalize textsL 4 c1 = s1 at hadd3 HT1
  go_enter Tryz.func83, Tryz.ntmps83
  go_wp2_with fail
  refine Calls.mono (HTx.out _ _ (by simp)) ?_
  rintro r w1 ⟨rfl, hu1⟩
  have hu1' : Up (w.alloc (.cells #[.int .i64 e, .slice (some ⟨g0, 0, none⟩) n k0, .slice (some ⟨g1, 0, none⟩) n k1] 84)) w1 := Up.trans ((Up.refl _).alloc _) hu1
  have i0' := (i0.up ((Up.refl _).alloc _)).up hu1'
  have i1' := (i1.up ((Up.refl _).alloc _)).up hu1'
  clear i0 i1 hu1
  obtain ⟨hc, hf⟩ := bcell hu1'
  go_wp2_with fail
  refine Calls.mono (HT0.out _ i0') ?_
  rintro r w2 ⟨rfl, hu2⟩
  clear hc hf
  have hu2' := hu1'.trans hu2
  obtain ⟨hc, hf⟩ := bcell hu2'
  go_wp2_with fail
  refine Calls.mono (HT1.out _ (i1'.up hu2)) ?_
  rintro r w3 ⟨rfl, hu3⟩
  go_wp2_with fail
  go_ret
  exact ⟨rfl, ((Up.refl _).alloc _).trans (hu2'.trans hu3)⟩


end Go.Proofs.YtcjhgbljhpflfabGreat

namespace Go.Proofs.YtcjhgbljhpflfabGreat
open Go.RowKit
set_option linter.unusedVariables false
set_option maxRecDepth 100000

theorem secI_bnd2 (l : List UInt8) (n : Nat) (m : Int) (hm : 255 ≤ m) : Bnd (secI l n) m := Bnd_map (by omega) fun i _ => by have := byteL_lt l (i + 1); omega

set_option maxHeartbeats 4000000 in
theorem cipherEncrypt_calls (n t : Nat) (q b : Int) (ss vs : List Int) (gs cs gv cv : Nat) (d : ByteArray) (w : World) (hd : d.size ≤ maxLen) (g : NT n t) (hq : 2 ≤ q) (hq2 : q ≤ 1073741823) (hls : ss.length = n) (hlv : vs.length = n) (hbs : Bnd ss 1073741824) (hbv : ∀ i, i < vs.length → 0 ≤ vs.getD i 0 ∧ vs.getD i 0 < 65536) (is : IsI w gs ss) (iv : IsI w gv vs) :
    Calls Tryz.prog 82 #[.agg #[.int .i64 n, .int .i64 t, .int .i64 q, .int .i64 b], .slice (some ⟨gs, 0, none⟩) n cs, .slice (some ⟨gv, 0, none⟩) n cv, .string d] w fun e w' => ∃ g0 c0 g1 c1, e = .returned (.agg #[.int .i64 2, .slice (some ⟨g0, 0, none⟩) n c0, .slice (some ⟨g1, 0, none⟩) n c1]) ∧
      IsI w' g0 (coverI n ss (liftI n t q vs) q d.data.toList 0) ∧ IsI w' g1 (pairA d.data.toList q n 0) ∧ Up w w' := by
  have ht := g.t3
  have ht2 := g.ht
  obtain ⟨hd1, hd2, hd3⟩ := g.half
  have HLS : Hid _ := hls
  have HLV : Hid _ := hlv
  have HBS : Hid _ := hbs
  have HBV : Hid _ := hbv
  clear hls hlv hbs hbv
  go_enter Tryz.func82, Tryz.ntmps82
  go_wp2_with fail
  refine (lift_calls n t q b vs gv cv _ g hq hq2 HLV.out HBV.out (iv.up (((Up.refl _).alloc _).alloc _))).mono ?_
  rintro e w1 ⟨v1, rfl, ho1, hu1⟩
  obtain ⟨g1, c1, rfl, _, i1⟩ := ho1.is (ne_nil_of_length (liftI_length _ _ _ _) (by omega))
  rw [liftI_length]
  clear ho1
  have is1 := (is.up (((Up.refl _).alloc _).alloc _)).up hu1
  obtain ⟨hc, hf⟩ := bcell hu1
  go_wp2_with fail
  refine (hide_calls n 0 0 t q b ss (liftI n t q vs) gs cs g1 c1 d _ hd (by omega) (by omega) (by omega) hq2 HLS.out (liftI_length _ _ _ _) HBS.out (liftI_bnd _ _ _ _ _ (by omega) (by omega)) rfl (by omega) is1 i1).mono ?_
  rintro e w2 ⟨g3, c3, g4, c4, rfl, ho3, ho4, hu2⟩
  have hu02 := hu1.trans hu2
  clear hc hf
  obtain ⟨hc, hf⟩ := bcell hu02
  have hk0 : w2.cell? ⟨w.heap.size + 1, 0, none⟩ = some (.int .i64 0) := by rw [hc _ _ (by simp)]; simp
  have hk1 : w2.cell? ⟨w.heap.size + 1, 1, none⟩ = some (.slice none 0 0) := by rw [hc _ _ (by simp)]; simp
  have hk2 : w2.cell? ⟨w.heap.size + 1, 2, none⟩ = some (.slice none 0 0) := by rw [hc _ _ (by simp)]; simp
  go_wp2_with fail
  clear hc hf
  have hsz : w.heap.size + 2 ≤ w1.heap.size := by have := hu1.size; simp at this; omega
  have hb0 := ho3.base (base' := w.heap.size + 2) hsz
  have hb1 := ho4.base (base' := w.heap.size + 2) hsz
  have hall : Below w.heap.size w w2 := (((Up.refl w).alloc _).alloc _).trans hu02
  clear ho3 ho4 hu02 hu1 hu2
  refine bodyPost_ret (v := .agg #[.int .i64 2, .slice (some ⟨g3, 0, none⟩) n c3, .slice (some ⟨g4, 0, none⟩) n c4]) (by simp [results, Tryz.results82, go_sem, hk0, hk1, hk2]) rfl ⟨g3, c3, g4, c4, rfl, ?_, ?_, ?_⟩
  · exact OwnI.isI (ownsRow_setCell_below (ownsRow_setCell_below (ownsRow_setCell_below hb0 (by simp) _) (by simp) _) (by simp) _)
  · exact OwnI.isI (ownsRow_setCell_below (ownsRow_setCell_below (ownsRow_setCell_below hb1 (by simp) _) (by simp) _) (by simp) _)
  · exact ((hall.setCell (by simp) _).setCell (by simp) _).setCell (by simp) _

theorem hideL_cover (n t : Nat) (q : Int) (k v d : List UInt8) : hideL n t q k v d = toldL 2 (coverI n (secI k n) (liftI n t q (numsL v 2 n)) q d 0) (pairA d q n 0) := rfl

theorem coverI_length (n : Nat) (s xs : List Int) (q : Int) (l : List UInt8) (at0 : Nat) : (coverI n s xs q l at0).length = n := plusI_length _ _ _ _

set_option maxHeartbeats 4000000 in
theorem Encrypt_ok (n t : Nat) (q b : Int) (k v s : ByteArray) (w : World) (hk : k.size ≤ maxLen) (hv : v.size ≤ maxLen) (hs : s.size ≤ maxLen) (g : NT n t) (hq : 2 ≤ q) (hq2 : q ≤ 1073741823) (hg : goodB n t q b = true) (h : secB k.data.toList n = true) (hok : okL v.data.toList n 2 t = true) :
    Calls Tryz.prog 30 #[.agg #[.int .i64 n, .int .i64 t, .int .i64 q, .int .i64 b], .string k, .string v, .string s] w fun e w' => e = .returned (.tuple #[.string ⟨(hideL n t q k.data.toList v.data.toList s.data.toList).toArray⟩, .int .i64 0]) ∧ Up w w' := by
  have ht := g.t3
  have ht2 := g.ht
  obtain ⟨hd1, hd2, hd3⟩ := g.half
  have HB : Hid _ := numsL_bounds v.data.toList 2 n t hok (by omega)
  have HA : Hid _ := hideL_cover n t q k.data.toList v.data.toList s.data.toList
  generalize hideL n t q k.data.toList v.data.toList s.data.toList = ans at HA
  have HSB : Hid _ := secI_bnd2 k.data.toList n 1073741824 (by omega)
  have HSL : Hid _ := secI_length k.data.toList n
  have HVL : Hid _ := numsL_length v.data.toList 2 n
  go_enter Tryz.func30, Tryz.ntmps30
  go_wp2_with fail
  refine (Good_calls _ _ _ _ _).mono ?_
  rintro e w1 ⟨rfl, hu1⟩
  obtain ⟨hc, hf⟩ := bcell hu1
  go_wp2_with fail
  refine (keysRead_ok n k _ hk (by omega) h).mono ?_
  rintro e w2 ⟨v2, rfl, ho2, hu2⟩
  obtain ⟨gs, cs, rfl, _, is2⟩ := ho2.is (ne_nil_of_length (secI_length _ _) (by omega))
  rw [secI_length]
  clear hc hf ho2
  have hu12 := hu1.trans hu2
  obtain ⟨hc, hf⟩ := bcell hu12
  go_wp2_with fail
  refine (readValues_ok n t q b v _ hv (by omega) hok).mono ?_
  rintro e w3 ⟨v3, rfl, ho3, hu3⟩
  obtain ⟨gv, cv, rfl, _, iv3⟩ := ho3.is (ne_nil_of_length (numsL_length _ _ _) (by omega))
  rw [numsL_length]
  clear hc hf ho3
  have hu13 := hu12.trans hu3
  have is3 := is2.up hu3
  generalize secI k.data.toList n = ss at is3 HSB HSL HA
  generalize numsL v.data.toList 2 n = vs at iv3 HVL HA HB
  obtain ⟨hc, hf⟩ := bcell hu13
  go_wp2_with fail
  refine (cipherEncrypt_calls n t q b ss vs gs cs gv cv s _ hs g hq hq2 HSL.out HVL.out HSB.out HB.out is3 iv3).mono ?_
  rintro e w4 ⟨g0, c0, g1, c1, rfl, i0, i1, hu4⟩
  clear hc hf
  have HBC : Hid _ := plusI_bounds n (plusI n (pairE s.data.toList n 0) (liftI n t q vs) q) (scaledI n (timesI n (pairA s.data.toList q n 0) ss q) (-1) q) q (by omega)
  have HBA : Hid _ := pairA_bounds s.data.toList q n 0 (by omega)
  have HLC : Hid _ := coverI_length n ss (liftI n t q vs) q s.data.toList 0
  have HLA : Hid _ := pairA_length s.data.toList q n 0
  have HBC : Hid (∀ i, i < (coverI n ss (liftI n t q vs) q s.data.toList 0).length → 0 ≤ (coverI n ss (liftI n t q vs) q s.data.toList 0).getD i 0 ∧ (coverI n ss (liftI n t q vs) q s.data.toList 0).getD i 0 < q) := HBC
  generalize coverI n ss (liftI n t q vs) q s.data.toList 0 = cs0 at i0 HBC HLC HA
  generalize pairA s.data.toList q n 0 = as0 at i1 HBA HLA HA
  go_wp2_with fail
  refine (cipherWrite_calls n 2 cs0 as0 g0 g1 c0 c1 _ (by omega) (by omega) HLC.out HLA.out (fun i hi => by have := HBC.out i hi; omega) (fun i hi => by have := HBA.out i hi; omega) (i0.up ((Up.refl _).alloc _)) (i1.up ((Up.refl _).alloc _))).mono ?_
  rintro e w5 ⟨rfl, hu5⟩
  rw [← HA.out]
  go_wp2_with fail
  go_ret2
  exact ⟨rfl, (((Up.refl _).alloc _).trans (hu13.trans hu4)).trans (((Up.refl _).alloc _).trans hu5)⟩

end Go.Proofs.YtcjhgbljhpflfabGreat
