/-
  Walks: the reference's Told, Bound, Encrypt.
  Walks: the reference's Encrypt.
-/
import Derived.Test.YtjiekfplgmfgiabGreatWalksRg
namespace Go.Proofs.YtjiekfplgmfgiabGreat
open Go.RowKit
set_option linter.unusedVariables false
set_option maxRecDepth 100000

/-- a ciphertext as bytes -/
def toldL (e : Nat) (c0 c1 : List Int) : List UInt8 := [67] ++ textL e 5 ++ textsL 4 c0 ++ textsL 4 c1

theorem keep3 {a : Nat} {u0 u1 u2 : Value} {W W' : World} (hu : Up W W') (hS : W.cell? ⟨a, 0, none⟩ = some u0 ∧ W.cell? ⟨a, 1, none⟩ = some u1 ∧ W.cell? ⟨a, 2, none⟩ = some u2) :
    W'.cell? ⟨a, 0, none⟩ = some u0 ∧ W'.cell? ⟨a, 1, none⟩ = some u1 ∧ W'.cell? ⟨a, 2, none⟩ = some u2 :=
  ⟨keepU hu hS.1, keepU hu hS.2.1, keepU hu hS.2.2⟩

set_option maxHeartbeats 1000000 in
theorem Told_no (n e : Nat) (t q b : Int) (v0 v1 : Value) (p0 p1 : Option Addr) (x0 y0 x1 y1 : Nat) (w : World) (ht : 1 ≤ t) (ht2 : t ≤ 1021) (hq : 0 ≤ q) (hq2 : q ≤ 1073741823) (he : e ≤ 1125899906842624) (hf : fitsB t q e = false) :
    Calls Tryz.prog 56 #[.agg #[.int .i64 n, .int .i64 t, .int .i64 q, .int .i64 b], .agg #[.int .i64 e, .slice p0 x0 y0, .slice p1 x1 y1]] w fun r w' => r = .returned (.tuple #[.string ⟨#[]⟩, .int .i64 4]) ∧ Up w w' := by
  go_enter Tryz.func56, Tryz.ntmps56
  go_wp2_with fail
  refine (refFits_calls _ _ _ _ _ _ ht ht2 hq hq2 (by omega) (by omega)).mono ?_
  rintro r w1 ⟨rfl, hu1⟩
  go_wp2_with fail
  go_ret2
  exact ⟨rfl, (((Up.refl _).alloc _).alloc _).trans hu1⟩

set_option maxRecDepth 100000 in
set_option maxHeartbeats 4000000 in
theorem Told_ok (n e : Nat) (t q b : Int) (c0 c1 : List Int) (g0 g1 k0 k1 : Nat) (w : World) (hn : n ≤ 16) (ht : 1 ≤ t) (ht2 : t ≤ 1021) (hq : 0 ≤ q) (hq2 : q ≤ 1073741823) (he : e ≤ 1125899906842624) (hf : fitsB t q e = true)
    (hl0 : c0.length = n) (hl1 : c1.length = n) (hb0 : ∀ i, i < c0.length → 0 ≤ c0.getD i 0 ∧ c0.getD i 0 ≤ 4611686018427387904) (hb1 : ∀ i, i < c1.length → 0 ≤ c1.getD i 0 ∧ c1.getD i 0 ≤ 4611686018427387904) (i0 : IsI w g0 c0) (i1 : IsI w g1 c1) :
    Calls Tryz.prog 56 #[.agg #[.int .i64 n, .int .i64 t, .int .i64 q, .int .i64 b], .agg #[.int .i64 e, .slice (some ⟨g0, 0, none⟩) n k0, .slice (some ⟨g1, 0, none⟩) n k1]] w fun r w' => r = .returned (.tuple #[.string ⟨(toldL e c0 c1).toArray⟩, .int .i64 0]) ∧ Up w w' := by
  have hadd1 : ∀ W, (Op.stringOp .add ⟨#[67]⟩ ⟨(textL e 5).toArray⟩).run Tryz.prog W = .ok (.string ⟨([67] ++ textL e 5).toArray⟩) W := add_str [67] (textL e 5) (by simp) (by rw [textL_length]; omega)
  have hadd2 := add_str ([67] ++ textL e 5) (textsL 4 c0) (by rw [List.length_append, textL_length]; simp) (by rw [textsL_length]; omega)
  have hadd3 := add_str ([67] ++ textL e 5 ++ textsL 4 c0) (textsL 4 c1) (by rw [List.length_append, List.length_append, textL_length, textsL_length]; simp; omega) (by rw [textsL_length]; omega)
  generalize hT : toldL e c0 c1 = T
  have hT' : [67] ++ textL e 5 ++ textsL 4 c0 ++ textsL 4 c1 = T := hT
  rw [hT'] at hadd3
  have H0 : Hid _ := hb0
  have H1 : Hid _ := hb1
  have HL0 : Hid _ := hl0
  have HL1 : Hid _ := hl1
  have HTx : Hid (∀ W, Calls Tryz.prog 58 #[.int .i64 (e : Int), .int .i64 5] W fun r w' => r = .returned (.string ⟨(textL e 5).toArray⟩) ∧ Up W w') := fun W => by
    have := Text_calls 5 (by omega) (e : Int) 5 W (by omega) (by omega) rfl
    rw [Int.toNat_natCast] at this
    exact this
  have HT0 : Hid (∀ W, IsI W g0 c0 → Calls Tryz.prog 29 #[.slice (some ⟨g0, 0, none⟩) n k0, .int .i64 4] W fun r w' => r = .returned (.string ⟨(textsL 4 c0).toArray⟩) ∧ Up W w') := fun W hi => by
    have := Texts_calls c0 g0 k0 4 W (by omega) (by omega) H0.out hi
    rw [HL0.out] at this
    exact this
  have HT1 : Hid (∀ W, IsI W g1 c1 → Calls Tryz.prog 29 #[.slice (some ⟨g1, 0, none⟩) n k1, .int .i64 4] W fun r w' => r = .returned (.string ⟨(textsL 4 c1).toArray⟩) ∧ Up W w') := fun W hi => by
    have := Texts_calls c1 g1 k1 4 W (by omega) (by omega) H1.out hi
    rw [HL1.out] at this
    exact this
  clear hb0 hb1 hl0 hl1 hT hT' H0 H1
  generalize [67] ++ textL e 5 ++ textsL 4 c0 = t3 at hadd2 hadd3
  generalize [67] ++ textL e 5 = t2 at hadd1 hadd2
  generalize textL e 5 = t1 at hadd1 HTx
  generalize textsL 4 c0 = s0 at hadd2 HT0
  generalize textsL 4 c1 = s1 at hadd3 HT1
  go_enter Tryz.func56, Tryz.ntmps56
  go_wp2_with fail
  refine (refFits_calls _ _ _ _ _ _ ht ht2 hq hq2 (by omega) (by omega)).mono ?_
  rintro r w1 ⟨rfl, hu1⟩
  obtain ⟨hc, hf'⟩ := bcell hu1
  have hS0 : w1.cell? ⟨w.heap.size + 1, 0, none⟩ = some (.int .i64 (e : Int)) := by rw [hc _ _ (by simp)]; simp
  have hS1 : w1.cell? ⟨w.heap.size + 1, 1, none⟩ = some (.slice (some ⟨g0, 0, none⟩) n k0) := by rw [hc _ _ (by simp)]; simp
  have hS2 : w1.cell? ⟨w.heap.size + 1, 2, none⟩ = some (.slice (some ⟨g1, 0, none⟩) n k1) := by rw [hc _ _ (by simp)]; simp
  have i0' := (i0.up (((Up.refl _).alloc _).alloc _)).up hu1
  have i1' := (i1.up (((Up.refl _).alloc _).alloc _)).up hu1
  clear hc hf' i0 i1
  go_wp2_with fail
  go_region_held3 (fun w' => w'.cell? ⟨w.heap.size + 1, 0, none⟩ = some (.int .i64 (e : Int)) ∧ w'.cell? ⟨w.heap.size + 1, 1, none⟩ = some (.slice (some ⟨g0, 0, none⟩) n k0) ∧ w'.cell? ⟨w.heap.size + 1, 2, none⟩ = some (.slice (some ⟨g1, 0, none⟩) n k1))
    (first | go_keep | exact keep3 hu4 (by assumption) | exact keep3 hu3 (by assumption) | exact keep3 hu2 (by assumption))
    ((first | (go_at_call 58; refine Calls.mono (HTx.out _) ?_; rintro r w2 ⟨rfl, hu2⟩) | (go_at_call_of 29 (Value.slice (some ⟨g0, 0, none⟩) n k0); refine Calls.mono (HT0.out _ (by exact (i0'.up (Up.drew (Up.refl _))).up hu2)) ?_; rintro r w3 ⟨rfl, hu3⟩) | (go_at_call_of 29 (Value.slice (some ⟨g1, 0, none⟩) n k1); refine Calls.mono (HT1.out _ (by exact ((i1'.up (Up.drew (Up.refl _))).up hu2).up hu3)) ?_; rintro r w4 ⟨rfl, hu4⟩)))
  go_wp2_with fail
  go_ret2
  exact ⟨rfl, ((((Up.refl _).alloc _).alloc _).trans hu1).trans (Up.trans (Up.trans (Up.trans (Up.drew (Up.refl _)) hu2) hu3) hu4)⟩

end Go.Proofs.YtjiekfplgmfgiabGreat

namespace Go.Proofs.YtjiekfplgmfgiabGreat
open Go.RowKit
set_option linter.unusedVariables false
set_option maxRecDepth 100000

/-- what Encrypt answers -/
def hideL (n t : Nat) (q : Int) (k v d : List UInt8) : List UInt8 :=
  toldL 2 (hidI n (secI k n) (encI n t (numsL v 2 n)) (q / (t : Int)) q d 0) (pairA d q n 0)

end Go.Proofs.YtjiekfplgmfgiabGreat
