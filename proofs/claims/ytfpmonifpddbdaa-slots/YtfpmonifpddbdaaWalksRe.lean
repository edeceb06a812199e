/-
  Walks: the reference's hidden.
-/
import Derived.Test.YtfpmonifpddbdaaWalksRd
namespace Go.Proofs.Ytfpmonifpddbdaa
open Go.RowKit
set_option linter.unusedVariables false
set_option maxRecDepth 100000

theorem keepU {a k : Nat} {u : Value} {W W' : World} (hu : Up W W') (hS : W.cell? ⟨a, k, none⟩ = some u) : W'.cell? ⟨a, k, none⟩ = some u :=
  (hu.cell (p := ⟨a, k, none⟩) (World.block_lt_of_cell? W ⟨a, k, none⟩ hS)).trans hS

theorem getD_out (xs : List Int) (i : Nat) (h : xs.length ≤ i) : xs.getD i 0 = 0 := by
  rw [List.getD_eq_getElem?_getD, List.getElem?_eq_none h]; rfl

theorem Bnd_map {f : Nat → Int} {n : Nat} {m : Int} (hm : 0 ≤ m) (h : ∀ i, i < n → -m ≤ f i ∧ f i ≤ m) : Bnd ((List.range n).map f) m := by
  intro i
  by_cases hi : i < n
  · rw [getD_range hi]; exact h i hi
  · rw [getD_out _ _ (by simp; omega)]; omega

theorem Bnd_mod {f : Nat → Int} {n : Nat} {q m : Int} (hq : 0 < q) (hm : q ≤ m) (e : ∀ i, ∃ x, f i = x % q) : Bnd ((List.range n).map f) m := by
  refine Bnd_map (by omega) fun i _ => ?_
  obtain ⟨x, hx⟩ := e i
  have := mod_bounds hq x
  rw [hx]
  omega

theorem plusI_length (n : Nat) (xs ys : List Int) (q : Int) : (plusI n xs ys q).length = n := by simp [plusI]
theorem scaledI_length (n : Nat) (xs : List Int) (k q : Int) : (scaledI n xs k q).length = n := by simp [scaledI]
theorem timesI_length (n : Nat) (xs ys : List Int) (q : Int) : (timesI n xs ys q).length = n := by simp [timesI]
theorem pairA_length (l : List UInt8) (q : Int) (n at0 : Nat) : (pairA l q n at0).length = n := by simp [pairA]
theorem pairE_length (l : List UInt8) (n at0 : Nat) : (pairE l n at0).length = n := by simp [pairE]
theorem secI_length (l : List UInt8) (n : Nat) : (secI l n).length = n := by simp [secI]
theorem cubI_length (n : Nat) (xs : List Int) (q : Int) : (cubI n xs q).length = n := by simp [cubI]

theorem pairE_bnd (l : List UInt8) (n at0 : Nat) (m : Int) (hm : 2 ≤ m) : Bnd (pairE l n at0) m := by
  refine Bnd_map (by omega) fun i _ => ?_
  have := byteL_lt l (at0 + 4 * n + i)
  unfold prE
  omega

/-- m, hidden by a drawn pair, times k: c -/
def hidI (n : Nat) (s m : List Int) (k q : Int) (l : List UInt8) (at0 : Nat) : List Int :=
  plusI n (plusI n (pairE l n at0) (scaledI n m k q) q) (scaledI n (timesI n (pairA l q n at0) s q) (-1) q) q

theorem hidI_length (n : Nat) (s m : List Int) (k q : Int) (l : List UInt8) (at0 : Nat) : (hidI n s m k q l at0).length = n := plusI_length _ _ _ _

set_option maxHeartbeats 4000000 in
theorem hidden_calls (n at0 : Nat) (t q b k : Int) (ss ms : List Int) (gs gm cs cm : Nat) (d : ByteArray) (w : World) (hd : d.size ≤ maxLen) (hn : n ≤ 16) (hn1 : 1 ≤ n) (hat : at0 ≤ 1048576) (hq : 0 < q) (hq2 : q ≤ 1073741823) (hk1 : -1073741824 ≤ k) (hk2 : k ≤ 1073741824)
    (hls : ss.length = n) (hlm : ms.length = n) (is1 : IsI w gs ss) (im : IsI w gm ms) :
    Calls Try.prog 68 #[.agg #[.int .i64 n, .int .i64 t, .int .i64 q, .int .i64 b], .slice (some ⟨gs, 0, none⟩) n cs, .slice (some ⟨gm, 0, none⟩) n cm, .int .i64 k, .string d, .int .i64 at0] w
      fun e w' => ∃ vc va, e = .returned (.tuple #[vc, va]) ∧ OwnI w' w.heap.size vc (hidI n ss ms k q d.data.toList at0) ∧ OwnI w' w.heap.size va (pairA d.data.toList q n at0) ∧ Up w w' := by
  have HLS : Hid _ := hls
  have HLM : Hid _ := hlm
  clear hls hlm
  go_enter Try.func68, Try.ntmps68
  go_wp2_with fail
  refine (Pair_calls n at0 t q b d _ hd hn hat hq hq2).mono ?_
  rintro e w1 ⟨va, ve, rfl, hoa, hoe, hu1⟩
  obtain ⟨ga, ca, rfl, hga, ia⟩ := hoa.is (ne_nil_of_length (pairA_length _ _ _ _) (by omega))
  obtain ⟨ge, ce, rfl, hge, ie⟩ := hoe.is (ne_nil_of_length (pairE_length _ _ _) (by omega))
  rw [pairA_length, pairE_length] at *
  clear hoe
  obtain ⟨hc, hf⟩ := bcell hu1
  have hct : w1.cell? ⟨w.heap.size, 2, none⟩ = some (.int .i64 q) := by rw [hc _ _ (by simp)]; simp
  have im1 := (im.up ((Up.refl _).alloc _)).up hu1
  have is2 := (is1.up ((Up.refl _).alloc _)).up hu1
  clear hc hf
  go_wp2_with fail
  go_region_held3 (fun w' => w'.cell? ⟨w.heap.size, 2, none⟩ = some (.int .i64 q))
    (first | go_keep | exact keepU hu3 (by assumption) | exact keepU hu2 (by assumption))
    ((first | (go_at_call 86; refine (Scaled_calls n ms gm cm k q _ hn HLM.out hq hq2 hk1 hk2 (by exact im1.up (Up.drew (Up.refl _)))).mono ?_; rintro e w2 ⟨v2, rfl, ho2, hu2⟩; obtain ⟨g2, c2, rfl, hg2, i2⟩ := ho2.is (ne_nil_of_length (scaledI_length _ _ _ _) (by omega)); rw [scaledI_length]) | (go_at_call 78; refine (Plus_calls n _ _ ge g2 ce c2 q _ hn (pairE_length _ _ _) (scaledI_length _ _ _ _) hq hq2 (pairE_bnd _ _ _ _ (by omega)) (Bnd_mod hq (by omega) (fun i => ⟨_, rfl⟩)) (by exact (ie.up (Up.drew (Up.refl _))).up hu2) i2).mono ?_; rintro e w3 ⟨v3, rfl, ho3, hu3⟩; obtain ⟨g3, c3, rfl, hg3, i3⟩ := ho3.is (ne_nil_of_length (plusI_length _ _ _ _) (by omega)); rw [plusI_length])))
  have hct3 : w3.cell? ⟨w.heap.size, 2, none⟩ = some (.int .i64 q) := keepU hu3 (keepU hu2 (by exact hct))
  have hu13 : Up w1 w3 := Up.trans (Up.trans (Up.drew (Up.refl _)) hu2) hu3
  have ia3 := ia.up hu13
  have is3 := is2.up hu13
  clear hct hu2 hu3 ho2 ho3 i2
  go_wp2_with fail
  go_region_held3 (fun w' => w'.cell? ⟨w.heap.size, 2, none⟩ = some (.int .i64 q))
    (first | go_keep | exact keepU hu6 (by assumption) | exact keepU hu5 (by assumption) | exact keepU hu4 (by assumption))
    ((first | (go_at_call 79; refine (Times_calls n _ ss ga gs ca cs q _ hn (pairA_length _ _ _ _) HLS.out hq hq2 (Bnd_mod hq (by omega) (fun i => ⟨_, rfl⟩)) (by exact ia3.up (Up.drew (Up.refl _))) (by exact is3.up (Up.drew (Up.refl _)))).mono ?_; rintro e w4 ⟨v4, rfl, ho4, hu4⟩; obtain ⟨g4, c4, rfl, hg4, i4⟩ := ho4.is (ne_nil_of_length (timesI_length _ _ _ _) (by omega)); rw [timesI_length]) | (go_at_call 86; refine (Scaled_calls n _ g4 c4 (-1) q _ hn (timesI_length _ _ _ _) hq hq2 (by omega) (by omega) i4).mono ?_; rintro e w5 ⟨v5, rfl, ho5, hu5⟩; obtain ⟨g5, c5, rfl, hg5, i5⟩ := ho5.is (ne_nil_of_length (scaledI_length _ _ _ _) (by omega)); rw [scaledI_length]) | (go_at_call 78; refine (Plus_calls n _ _ g3 g5 c3 c5 q _ hn (plusI_length _ _ _ _) (scaledI_length _ _ _ _) hq hq2 (Bnd_mod hq (by omega) (fun i => ⟨_, rfl⟩)) (Bnd_mod hq (by omega) (fun i => ⟨_, rfl⟩)) (by exact ((i3.up (Up.drew (Up.refl _))).up hu4).up hu5) i5).mono ?_; rintro e w6 ⟨v6, rfl, ho6, hu6⟩)))
  have hu36 : Up w3 w6 := Up.trans (Up.trans (Up.trans (Up.drew (Up.refl _)) hu4) hu5) hu6
  have hsz5 : w.heap.size ≤ w5.heap.size := by
    have h1 := hu1.size
    have h2 := hu13.size
    have h3 := (Up.trans (Up.trans (Up.drew (Up.refl w3)) hu4) hu5).size
    simp at h1
    omega
  have hoa6 := hoa.up (hu13.trans hu36)
  clear hct3 hu4 hu5 hu6 ho4 ho5 i3 i4 i5 ia3 is3 hoa
  go_wp2_with fail
  go_ret2
  refine ⟨_, _, rfl, ho6.base hsz5, hoa6.base (by simp), ((((Up.refl _).alloc _).trans hu1).trans hu13).trans hu36⟩

end Go.Proofs.Ytfpmonifpddbdaa
