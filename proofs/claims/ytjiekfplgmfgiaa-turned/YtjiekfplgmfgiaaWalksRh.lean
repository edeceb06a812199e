/-
  Walks: the reference's Told, Bound, Encrypt.
  Walks: the reference's Encrypt.
-/
import Derived.Test.YtjiekfplgmfgiaaWalksRg
namespace Go.Proofs.Ytjiekfplgmfgiaa
open Go.RowKit
set_option linter.unusedVariables false
set_option maxRecDepth 100000

/-- a ciphertext as bytes -/
def toldL (e : Nat) (c0 c1 : List Int) : List UInt8 := [67] ++ textL e 5 ++ textsL 4 c0 ++ textsL 4 c1

theorem keep3 {a : Nat} {u0 u1 u2 : Value} {W W' : World} (hu : Up W W') (hS : W.cell? ⟨a, 0, none⟩ = some u0 ∧ W.cell? ⟨a, 1, none⟩ = some u1 ∧ W.cell? ⟨a, 2, none⟩ = some u2) :
    W'.cell? ⟨a, 0, none⟩ = some u0 ∧ W'.cell? ⟨a, 1, none⟩ = some u1 ∧ W'.cell? ⟨a, 2, none⟩ = some u2 :=
  ⟨keepU hu hS.1, keepU hu hS.2.1, keepU hu hS.2.2⟩

set_option maxHeartbeats 1000000 in
theorem Told_no (n e : Nat) (t q b : Int) (v0 v1 : Value) (p0 p1 : Option Addr) (x0 y0 x1 y1 : Nat) (w : World) (ht : 1 ≤ t) (ht2 : t ≤ 1021) (hq : 0 ≤ q) (hq2 : q ≤ 1073741823) (he : e ≤ 1125899906842624) (hf : fitsB t q e = false) :
    Calls Try.prog 79 #[.agg #[.int .i64 n, .int .i64 t, .int .i64 q, .int .i64 b], .agg #[.int .i64 e, .slice p0 x0 y0, .slice p1 x1 y1]] w fun r w' => r = .returned (.tuple #[.string ⟨#[]⟩, .int .i64 4]) ∧ Up w w' := by
  go_enter Try.func79, Try.ntmps79
  go_wp2_with fail
  refine (refFits_calls _ _ _ _ _ _ ht ht2 hq hq2 (by omega) (by omega)).mono ?_
  rintro r w1 ⟨rfl, hu1⟩
  go_wp2_with fail
  go_ret2
  exact ⟨rfl, (((Up.refl _).alloc _).alloc _).trans hu1⟩

set_option maxRecDepth 100000 in
set_option maxHeartbeats 4000000 in
theorem Told_ok (n e : Nat) (t q b : Int) (c0 c1 : List Int) (g0 g1 k0 k1 : Nat) (w : World) (hn : n ≤ 16) (ht : 1 ≤ t) (ht2 : t ≤ 1021) (hq : 0 ≤ q) (hq2 : q ≤ 1073741823) (he : e ≤ 1125899906842624) (hf : fitsB t q e = true)
    (hl0 : c0.length = n) (hl1 : c1.length = n) (hb0 : ∀ i, i < c0.length → 0 ≤ c0.getD i 0 ∧ c0.getD i 0 ≤ 4611686018427387904) (hb1 : ∀ i, i < c1.length → 0 ≤ c1.getD i 0 ∧ c1.getD i 0 ≤ 4611686018427387904) (i0 : IsI w g0 c0) (i1 : IsI w g1 c1) :
    Calls Try.prog 79 #[.agg #[.int .i64 n, .int .i64 t, .int .i64 q, .int .i64 b], .agg #[.int .i64 e, .slice (some ⟨g0, 0, none⟩) n k0, .slice (some ⟨g1, 0, none⟩) n k1]] w fun r w' => r = .returned (.tuple #[.string ⟨(toldL e c0 c1).toArray⟩, .int .i64 0]) ∧ Up w w' := by
  have hadd1 : ∀ W, (Op.stringOp .add ⟨#[67]⟩ ⟨(textL e 5).toArray⟩).run Try.prog W = .ok (.string ⟨([67] ++ textL e 5).toArray⟩) W := add_str [67] (textL e 5) (by simp) (by rw [textL_length]; omega)
  have hadd2 := add_str ([67] ++ textL e 5) (textsL 4 c0) (by rw [List.length_append, textL_length]; simp) (by rw [textsL_length]; omega)
  have hadd3 := add_str ([67] ++ textL e 5 ++ textsL 4 c0) (textsL 4 c1) (by rw [List.length_append, List.length_append, textL_length, textsL_length]; simp; omega) (by rw [textsL_length]; omega)
  generalize hT : toldL e c0 c1 = T
  have hT' : [67] ++ textL e 5 ++ textsL 4 c0 ++ textsL 4 c1 = T := hT
  rw [hT'] at hadd3
  have H0 : Hid _ := hb0
  have H1 : Hid _ := hb1
  have HL0 : Hid _ := hl0
  have HL1 : Hid _ := hl1
  have HTx : Hid (∀ W, Calls Try.prog 67 #[.int .i64 (e : Int), .int .i64 5] W fun r w' => r = .returned (.string ⟨(textL e 5).toArray⟩) ∧ Up W w') := fun W => by
    have := Text_calls 5 (by omega) (e : Int) 5 W (by omega) (by omega) rfl
    rw [Int.toNat_natCast] at this
    exact this
  have HT0 : Hid (∀ W, IsI W g0 c0 → Calls Try.prog 62 #[.slice (some ⟨g0, 0, none⟩) n k0, .int .i64 4] W fun r w' => r = .returned (.string ⟨(textsL 4 c0).toArray⟩) ∧ Up W w') := fun W hi => by
    have := Texts_calls c0 g0 k0 4 W (by omega) (by omega) H0.out hi
    rw [HL0.out] at this
    exact this
  have HT1 : Hid (∀ W, IsI W g1 c1 → Calls Try.prog 62 #[.slice (some ⟨g1, 0, none⟩) n k1, .int .i64 4] W fun r w' => r = .returned (.string ⟨(textsL 4 c1).toArray⟩) ∧ Up W w') := fun W hi => by
    have := Texts_calls c1 g1 k1 4 W (by omega) (by omega) H1.out hi
    rw [HL1.out] at this
    exact this
  clear hb0 hb1 hl0 hl1 hT hT' H0 H1
  generalize [67] ++ textL e 5 ++ textsL 4 c0 = t3 at hadd2 hadd3
  generalize [67] ++ textL e 5 = t2 at hadd1 hadd2
  generalize textL e 5 = t1 at hadd1 HTx
  generalize textsL 4 c0 = s0 at hadd2 HT0
  generalize textsL 4 c1 = s1 at hadd3 HT1
  go_enter Try.func79, Try.ntmps79
  go_wp2_with fail
  refine (refFits_calls _ _ _ _ _ _ ht ht2 hq hq2 (by omega) (by omega)).mono ?_
  rintro r w1 ⟨rfl, hu1⟩
  obtain ⟨hc, hf'⟩ := bcell hu1
  have hS0 : w1.cell? ⟨w.heap.size + 1, 0, none⟩ = some (.int .i64 (e : Int)) := by rw [hc _ _ (by simp)]; simp
  have hS1 : w1.cell? ⟨w.heap.size + 1, 1, none⟩ = some (.slice (some ⟨g0, 0, none⟩) n k0) := by rw [hc _ _ (by simp)]; simp
  have hS2 : w1.cell? ⟨w.heap.size + 1, 2, none⟩ = some (.slice (some ⟨g1, 0, none⟩) n k1) := by rw [hc _ _ (by simp)]; simp
  have i0' := (i0.up (((Up.refl _).alloc _).alloc _)).up hu1
  have i1' := (i1.up (((Up.refl _).alloc _).alloc _)).up hu1
  clear hc hf' i0 i1
  go_wp2_with fail
  go_region_held3 (fun w' => w'.cell? ⟨w.heap.size + 1, 0, none⟩ = some (.int .i64 (e : Int)) ∧ w'.cell? ⟨w.heap.size + 1, 1, none⟩ = some (.slice (some ⟨g0, 0, none⟩) n k0) ∧ w'.cell? ⟨w.heap.size + 1, 2, none⟩ = some (.slice (some ⟨g1, 0, none⟩) n k1))
    (first | go_keep | exact keep3 hu4 (by assumption) | exact keep3 hu3 (by assumption) | exact keep3 hu2 (by assumption))
    ((first | (go_at_call 67; refine Calls.mono (HTx.out _) ?_; rintro r w2 ⟨rfl, hu2⟩) | (go_at_call_of 62 (Value.slice (some ⟨g0, 0, none⟩) n k0); refine Calls.mono (HT0.out _ (by exact (i0'.up (Up.drew (Up.refl _))).up hu2)) ?_; rintro r w3 ⟨rfl, hu3⟩) | (go_at_call_of 62 (Value.slice (some ⟨g1, 0, none⟩) n k1); refine Calls.mono (HT1.out _ (by exact ((i1'.up (Up.drew (Up.refl _))).up hu2).up hu3)) ?_; rintro r w4 ⟨rfl, hu4⟩)))
  go_wp2_with fail
  go_ret2
  exact ⟨rfl, ((((Up.refl _).alloc _).alloc _).trans hu1).trans (Up.trans (Up.trans (Up.trans (Up.drew (Up.refl _)) hu2) hu3) hu4)⟩

set_option maxHeartbeats 400000 in
theorem refBound_bad (n t q b : Int) (s : ByteArray) (w : World) (hg : goodB n t q b = false) :
    Calls Try.prog 34 #[.agg #[.int .i64 n, .int .i64 t, .int .i64 q, .int .i64 b], .string s] w fun e w' => e = .returned (.tuple #[.int .i64 0, .int .i64 1]) ∧ Up w w' := by
  go_enter Try.func34, Try.ntmps34
  go_wp2_with (go_at_call 18; refine (refGood_calls _ _ _ _ _).mono ?_; rintro e w' ⟨rfl, hu⟩)
  go_ret2
  exact ⟨rfl, ((Up.refl _).alloc _).trans hu⟩

set_option maxHeartbeats 1000000 in
theorem refBound_form (n t : Nat) (q b : Int) (s : ByteArray) (w : World) (hs : s.size ≤ maxLen) (g : NT n t) (hq : 2 ≤ q) (hq2 : q ≤ 1073741823) (hg : goodB n t q b = true) (h : ctB s.data.toList n t q = false) :
    Calls Try.prog 34 #[.agg #[.int .i64 n, .int .i64 t, .int .i64 q, .int .i64 b], .string s] w fun e w' => e = .returned (.tuple #[.int .i64 0, .int .i64 2]) ∧ Up w w' := by
  have ht := g.t3
  have ht2 := g.ht
  obtain ⟨hd1, hd2, hd3⟩ := g.half
  go_enter Try.func34, Try.ntmps34
  go_wp2_with fail
  refine (refGood_calls _ _ _ _ _).mono ?_
  rintro e w1 ⟨rfl, hu1⟩
  obtain ⟨hc, hf⟩ := bcell hu1
  go_wp2_with fail
  refine Calls.mono (Read_no n t q b s _ hs (by omega) (by omega) (by omega) (by omega) (by omega) hq2 h) ?_
  rintro e w2 ⟨x, p0, x0, y0, p1, x1, y1, rfl, hu2⟩
  clear hc hf
  go_wp2_with fail
  go_ret2
  exact ⟨rfl, Up.alloc ((((Up.refl _).alloc _).trans hu1).trans hu2) _⟩

set_option maxHeartbeats 1000000 in
theorem refBound_ok (n t : Nat) (q b : Int) (s : ByteArray) (w : World) (hs : s.size ≤ maxLen) (g : NT n t) (hq : 2 ≤ q) (hq2 : q ≤ 1073741823) (hg : goodB n t q b = true) (h : ctB s.data.toList n t q = true) :
    Calls Try.prog 34 #[.agg #[.int .i64 n, .int .i64 t, .int .i64 q, .int .i64 b], .string s] w fun e w' => e = .returned (.tuple #[.int .i64 (ctE s.data.toList), .int .i64 0]) ∧ Up w w' := by
  have ht := g.t3
  have ht2 := g.ht
  obtain ⟨hd1, hd2, hd3⟩ := g.half
  go_enter Try.func34, Try.ntmps34
  go_wp2_with fail
  refine (refGood_calls _ _ _ _ _).mono ?_
  rintro e w1 ⟨rfl, hu1⟩
  obtain ⟨hc, hf⟩ := bcell hu1
  go_wp2_with fail
  refine (Read_ok n t q b s _ hs (by omega) (by omega) (by omega) (by omega) (by omega) hq2 h).mono ?_
  rintro e w2 ⟨g0, c0, g1, c1, rfl, ho0, ho1, hu2⟩
  clear hc hf
  go_wp2_with fail
  go_ret2
  exact ⟨rfl, Up.alloc ((((Up.refl _).alloc _).trans hu1).trans hu2) _⟩

set_option maxHeartbeats 400000 in
theorem refEncrypt_bad (n t q b : Int) (k v s : ByteArray) (w : World) (hg : goodB n t q b = false) :
    Calls Try.prog 30 #[.agg #[.int .i64 n, .int .i64 t, .int .i64 q, .int .i64 b], .string k, .string v, .string s] w fun e w' => e = .returned (.tuple #[.string ⟨#[]⟩, .int .i64 1]) ∧ Up w w' := by
  go_enter Try.func30, Try.ntmps30
  go_wp2_with (go_at_call 18; refine (refGood_calls _ _ _ _ _).mono ?_; rintro e w' ⟨rfl, hu⟩)
  go_ret2
  exact ⟨rfl, ((Up.refl _).alloc _).trans hu⟩

set_option maxHeartbeats 1000000 in
theorem refEncrypt_form (n : Nat) (t q b : Int) (k v s : ByteArray) (w : World) (hk : k.size ≤ maxLen) (hn : n ≤ 16) (hg : goodB n t q b = true) (h : secB k.data.toList n = false) :
    Calls Try.prog 30 #[.agg #[.int .i64 n, .int .i64 t, .int .i64 q, .int .i64 b], .string k, .string v, .string s] w fun e w' => e = .returned (.tuple #[.string ⟨#[]⟩, .int .i64 2]) ∧ Up w w' := by
  go_enter Try.func30, Try.ntmps30
  go_wp2_with fail
  refine (refGood_calls _ _ _ _ _).mono ?_
  rintro e w1 ⟨rfl, hu1⟩
  obtain ⟨hc, hf⟩ := bcell hu1
  go_wp2_with fail
  refine (Secret_no n t q b k _ hk hn h).mono ?_
  rintro e w2 ⟨rfl, hu2⟩
  go_wp2_with fail
  go_ret2
  exact ⟨rfl, (((Up.refl _).alloc _).trans hu1).trans hu2⟩

set_option maxHeartbeats 1000000 in
theorem refEncrypt_val (n : Nat) (t q b : Int) (k v s : ByteArray) (w : World) (hk : k.size ≤ maxLen) (hv : v.size ≤ maxLen) (hn : n ≤ 16) (hn1 : 1 ≤ n) (hg : goodB n t q b = true) (h : secB k.data.toList n = true) (hok : okL v.data.toList n 2 t = false) :
    Calls Try.prog 30 #[.agg #[.int .i64 n, .int .i64 t, .int .i64 q, .int .i64 b], .string k, .string v, .string s] w fun e w' => e = .returned (.tuple #[.string ⟨#[]⟩, .int .i64 3]) ∧ Up w w' := by
  go_enter Try.func30, Try.ntmps30
  go_wp2_with fail
  refine (refGood_calls _ _ _ _ _).mono ?_
  rintro e w1 ⟨rfl, hu1⟩
  obtain ⟨hc, hf⟩ := bcell hu1
  go_wp2_with fail
  refine (Secret_ok n t q b k _ hk hn hn1 h).mono ?_
  rintro e w2 ⟨v2, rfl, ho2, hu2⟩
  clear hc hf
  obtain ⟨hc, hf⟩ := bcell (hu1.trans hu2)
  go_wp2_with fail
  refine (Values_no n t q b v _ hv hn hok).mono ?_
  rintro e w3 ⟨rfl, hu3⟩
  clear hc hf
  go_wp2_with fail
  go_ret2
  exact ⟨rfl, ((((Up.refl _).alloc _).trans hu1).trans hu2).trans hu3⟩

end Go.Proofs.Ytjiekfplgmfgiaa

namespace Go.Proofs.Ytjiekfplgmfgiaa
open Go.RowKit
set_option linter.unusedVariables false
set_option maxRecDepth 100000

/-- what Encrypt answers -/
def hideL (n t : Nat) (q : Int) (k v d : List UInt8) : List UInt8 :=
  toldL 2 (hidI n (secI k n) (encI n t (numsL v 2 n)) (q / (t : Int)) q d 0) (pairA d q n 0)

set_option maxRecDepth 100000 in
set_option maxHeartbeats 4000000 in
theorem refEncrypt_ok (n t : Nat) (q b : Int) (k v s : ByteArray) (w : World) (hk : k.size ≤ maxLen) (hv : v.size ≤ maxLen) (hs : s.size ≤ maxLen) (g : NT n t) (hq : 2 ≤ q) (hq2 : q ≤ 1073741823) (hg : goodB n t q b = true) (hfit : fitsB t q 2 = true) (h : secB k.data.toList n = true) (hok : okL v.data.toList n 2 t = true) :
    Calls Try.prog 30 #[.agg #[.int .i64 n, .int .i64 t, .int .i64 q, .int .i64 b], .string k, .string v, .string s] w fun e w' => e = .returned (.tuple #[.string ⟨(hideL n t q k.data.toList v.data.toList s.data.toList).toArray⟩, .int .i64 0]) ∧ Up w w' := by
  have ht := g.t3
  have ht2 := g.ht
  obtain ⟨hd1, hd2, hd3⟩ := g.half
  have HB : Hid _ := numsL_lt v.data.toList 2 n t hok
  have hdel1 : 0 ≤ q / (t : Int) := Int.ediv_nonneg (by omega) (by omega)
  have hdel2 : q / (t : Int) ≤ 1073741823 := by have := Int.ediv_le_self (t : Int) (a := q) (by omega); omega
  have eq1 : IntKind.i64.wrap (q.tdiv (t : Int)) = q / (t : Int) := IntWalk.i64_quo _ _ (by omega)
  have et0 : ((t : Int) == 0) = false := beq_eq_false_iff_ne.2 (by omega)
  have et1 : ¬ (t : Int) = 0 := by omega
  have et2 : ¬ t = 0 := by omega
  have HA : Hid (hideL n t q k.data.toList v.data.toList s.data.toList = toldL 2 (hidI n (secI k.data.toList n) (encI n t (numsL v.data.toList 2 n)) (q / (t : Int)) q s.data.toList 0) (pairA s.data.toList q n 0)) := rfl
  generalize hideL n t q k.data.toList v.data.toList s.data.toList = ans at HA
  go_enter Try.func30, Try.ntmps30
  go_wp2_with fail
  refine (refGood_calls _ _ _ _ _).mono ?_
  rintro e w1 ⟨rfl, hu1⟩
  obtain ⟨hc, hf⟩ := bcell hu1
  go_wp2_with fail
  refine (Secret_ok n t q b k _ hk (by omega) (by omega) h).mono ?_
  rintro e w2 ⟨v2, rfl, ho2, hu2⟩
  obtain ⟨gs, cs, rfl, _, is2⟩ := ho2.is (ne_nil_of_length (secI_length _ _) (by omega))
  rw [secI_length]
  clear hc hf ho2
  obtain ⟨hc, hf⟩ := bcell (hu1.trans hu2)
  go_wp2_with fail
  refine (Values_ok n t q b v _ hv (by omega) hok).mono ?_
  rintro e w3 ⟨v3, rfl, ho3, hu3⟩
  obtain ⟨gv, cv, rfl, _, iv3⟩ := ho3.is (ne_nil_of_length (numsL_length _ _ _) (by omega))
  rw [numsL_length]
  clear hc hf ho3
  have hu13 := (hu1.trans hu2).trans hu3
  have is3 := is2.up hu3
  obtain ⟨hc, hf⟩ := bcell hu13
  have hS0 : w3.cell? ⟨w.heap.size, 0, none⟩ = some (.int .i64 (n : Int)) := by rw [hc _ _ (by simp)]; simp
  have hS1 : w3.cell? ⟨w.heap.size, 1, none⟩ = some (.int .i64 (t : Int)) := by rw [hc _ _ (by simp)]; simp
  have hS2 : w3.cell? ⟨w.heap.size, 2, none⟩ = some (.int .i64 q) := by rw [hc _ _ (by simp)]; simp
  have hS3 : w3.cell? ⟨w.heap.size, 3, none⟩ = some (.int .i64 b) := by rw [hc _ _ (by simp)]; simp
  have HSL : Hid _ := secI_length k.data.toList n
  have HVL : Hid _ := numsL_length v.data.toList 2 n
  generalize secI k.data.toList n = ss at is3 HSL HA
  generalize numsL v.data.toList 2 n = vs at iv3 HVL HA HB
  clear hc hf is2 hu1 hu2 hu3
  go_wp2_with fail
  go_region_held3 (fun w' => w'.cell? ⟨w.heap.size, 0, none⟩ = some (.int .i64 (n : Int)) ∧ w'.cell? ⟨w.heap.size, 1, none⟩ = some (.int .i64 (t : Int)) ∧ w'.cell? ⟨w.heap.size, 2, none⟩ = some (.int .i64 q) ∧ w'.cell? ⟨w.heap.size, 3, none⟩ = some (.int .i64 b))
    (first | go_keep | exact keep4 hu5 (by assumption) | exact keep4 hu4 (by assumption))
    ((first | (go_at_call 65; refine (Poly_calls n t q b vs gv cv _ g HVL.out HB.out (by exact iv3.up (Up.drew (Up.refl _)))).mono ?_; rintro e w4 ⟨v4, rfl, ho4, hu4⟩; obtain ⟨g4, c4, rfl, hg4, i4⟩ := ho4.is (ne_nil_of_length (encI_length _ _ _) (by omega)); rw [encI_length]) | (go_at_call 74; refine (hidden_calls n 0 t q b (q / (t : Int)) ss (encI n t vs) gs g4 cs c4 s _ hs (by omega) (by omega) (by omega) (by omega) hq2 (by omega) (by omega) HSL.out (encI_length _ _ _) (by exact (is3.up (Up.drew (Up.refl _))).up hu4) i4).mono ?_; rintro e w5 ⟨vc, va, rfl, hoc, hoa, hu5⟩)))
  obtain ⟨gc, cc, rfl, _, ic⟩ := hoc.is (ne_nil_of_length (hidI_length _ _ _ _ _ _ _) (by omega))
  obtain ⟨ga, ca, rfl, _, ia⟩ := hoa.is (ne_nil_of_length (pairA_length _ _ _ _) (by omega))
  rw [hidI_length, pairA_length]
  have hu15 := hu13.trans (Up.trans (Up.trans (Up.drew (Up.refl _)) hu4) hu5)
  have HBC : Hid _ := hidI_bounds n ss (encI n t vs) (q / (t : Int)) q s.data.toList 0 (by omega)
  have HBA : Hid _ := pairA_bounds s.data.toList q n 0 (by omega)
  have HLC : Hid _ := hidI_length n ss (encI n t vs) (q / (t : Int)) q s.data.toList 0
  have HLA : Hid _ := pairA_length s.data.toList q n 0
  generalize hidI n ss (encI n t vs) (q / (t : Int)) q s.data.toList 0 = cs0 at ic HBC HLC HA
  generalize pairA s.data.toList q n 0 = as0 at ia HBA HLA HA
  clear hoc hoa ho4 i4 hu4 hu5 hS0 hS1 hS2 hS3
  obtain ⟨hc, hf⟩ := bcell hu15
  go_wp2_with fail
  refine (Told_ok n 2 t q b cs0 as0 gc ga cc ca _ (by omega) (by omega) (by omega) (by omega) hq2 (by omega) hfit HLC.out HLA.out (fun i hi => by have := HBC.out i hi; omega) (fun i hi => by have := HBA.out i hi; omega) ic ia).mono ?_
  rintro e w6 ⟨rfl, hu6⟩
  rw [← HA.out]
  clear hc hf
  go_wp2_with fail
  go_ret2
  exact ⟨rfl, (((Up.refl _).alloc _).trans hu15).trans hu6⟩

end Go.Proofs.Ytjiekfplgmfgiaa
