/-
  Walks: the reference's Bend.
-/
import Derived.Test.YtcjhgbljhpflfabGreatWalksNd
import Derived.Test.YtcjhgbljhpflfabGreatWalksNg
namespace Go.Proofs.YtcjhgbljhpflfabGreat
open Go.RowKit
set_option linter.unusedVariables false
set_option maxRecDepth 100000

/-- what Bend answers -/
def bendI (n : Nat) (t : Int) (l : List UInt8) (a b m : List Int) : List Int := lessI n (bentI n t l (plusI n a b t)) m t
def bendL (n : Nat) (t : Int) (l a b m : List UInt8) : List UInt8 := textsL 2 (bendI n t l (numsL a 2 n) (numsL b 2 n) (numsL m 2 n))

theorem plusI_lt (n : Nat) (xs ys : List Int) (t : Int) (ht : 0 < t) : ∀ i, i < n → 0 ≤ (plusI n xs ys t).getD i 0 ∧ (plusI n xs ys t).getD i 0 < t := by
  intro i hi
  unfold plusI
  rw [getD_range hi]
  exact mod_bounds ht _

set_option maxHeartbeats 400000 in
theorem refBend_bad (n t q b : Int) (l x y m : ByteArray) (w : World) (hg : goodB n t q b = false) :
    Calls Tryz.prog 145 #[.agg #[.int .i64 n, .int .i64 t, .int .i64 q, .int .i64 b], .string l, .string x, .string y, .string m] w fun e w' => e = .returned (.tuple #[.string ⟨#[]⟩, .int .i64 1]) ∧ Up w w' := by
  go_enter Tryz.func145, Tryz.ntmps145
  go_wp2_with (go_at_call 40; refine (refGood_calls _ _ _ _ _).mono ?_; rintro e w' ⟨rfl, hu⟩)
  go_ret2
  exact ⟨rfl, ((Up.refl _).alloc _).trans hu⟩

set_option maxHeartbeats 2000000 in
theorem refBend_form (n t : Nat) (q b : Int) (l x y m : ByteArray) (w : World) (hl : l.size ≤ maxLen) (g : NT n t) (hg : goodB n t q b = true) (h0 : layB l.data.toList n t = false) :
    Calls Tryz.prog 145 #[.agg #[.int .i64 n, .int .i64 t, .int .i64 q, .int .i64 b], .string l, .string x, .string y, .string m] w fun e w' => e = .returned (.tuple #[.string ⟨#[]⟩, .int .i64 2]) ∧ Up w w' := by
  have HR0 : Hid (∀ W, Calls Tryz.prog 41 #[.agg #[.int .i64 n, .int .i64 t, .int .i64 q, .int .i64 b], .string l] W fun e w' => e = .returned (.bool false) ∧ Up W w') := fun W => by
    rw [← h0]
    exact Layer_calls n t q b l W hl g.hn
  clear h0
  go_enter Tryz.func145, Tryz.ntmps145
  go_wp2_with fail
  refine (refGood_calls _ _ _ _ _).mono ?_
  rintro e w1 ⟨rfl, hu1⟩
  obtain ⟨hc, hf⟩ := bcell hu1
  go_wp2_with fail
  refine Calls.mono (HR0.out _) ?_
  rintro e w2 ⟨rfl, hu2⟩
  clear hc hf
  go_wp2_with fail
  go_ret2
  exact ⟨rfl, (((Up.refl _).alloc _).trans hu1).trans hu2⟩

set_option maxHeartbeats 4000000 in
theorem refBend_val (n t : Nat) (q b : Int) (l x y m : ByteArray) (w : World) (hl : l.size ≤ maxLen) (hx : x.size ≤ maxLen) (hy : y.size ≤ maxLen) (hm : m.size ≤ maxLen) (g : NT n t) (hg : goodB n t q b = true) (h0 : layB l.data.toList n t = true)
    (o0 o1 o2 : Bool) (v0 : okL x.data.toList n 2 t = o0) (v1 : okL y.data.toList n 2 t = o1) (v2 : okL m.data.toList n 2 t = o2) (h : o0 = false ∨ (o0 = true ∧ o1 = false) ∨ (o0 = true ∧ o1 = true ∧ o2 = false)) :
    Calls Tryz.prog 145 #[.agg #[.int .i64 n, .int .i64 t, .int .i64 q, .int .i64 b], .string l, .string x, .string y, .string m] w fun e w' => e = .returned (.tuple #[.string ⟨#[]⟩, .int .i64 3]) ∧ Up w w' := by
  have ht := g.t3
  have ht2 := g.ht
  obtain ⟨hd1, hd2, hd3⟩ := g.half
  have HR0 : Hid (∀ W, Calls Tryz.prog 41 #[.agg #[.int .i64 n, .int .i64 t, .int .i64 q, .int .i64 b], .string l] W fun e w' => e = .returned (.bool true) ∧ Up W w') := fun W => by
    rw [← h0]
    exact Layer_calls n t q b l W hl g.hn
  have HV0 : Hid (∀ W, Calls Tryz.prog 43 #[.agg #[.int .i64 n, .int .i64 t, .int .i64 q, .int .i64 b], .string x] W fun e w' => ∃ a x y, e = .returned (.tuple #[.slice a x y, .bool o0]) ∧ Up W w') := fun W => by
    rw [← v0]
    exact Values_any n t q b x W hx (by omega) (by omega)
  have HV1 : Hid (∀ W, Calls Tryz.prog 43 #[.agg #[.int .i64 n, .int .i64 t, .int .i64 q, .int .i64 b], .string y] W fun e w' => ∃ a x y, e = .returned (.tuple #[.slice a x y, .bool o1]) ∧ Up W w') := fun W => by
    rw [← v1]
    exact Values_any n t q b y W hy (by omega) (by omega)
  have HV2 : Hid (∀ W, Calls Tryz.prog 43 #[.agg #[.int .i64 n, .int .i64 t, .int .i64 q, .int .i64 b], .string m] W fun e w' => ∃ a x y, e = .returned (.tuple #[.slice a x y, .bool o2]) ∧ Up W w') := fun W => by
    rw [← v2]
    exact Values_any n t q b m W hm (by omega) (by omega)
  clear h0 v0 v1 v2
  rcases h with rfl | ⟨rfl, rfl⟩ | ⟨rfl, rfl, rfl⟩
  all_goals
    go_enter Tryz.func145, Tryz.ntmps145
    go_wp2_with fail
    refine (refGood_calls _ _ _ _ _).mono ?_
    rintro e w1 ⟨rfl, hu1⟩
    obtain ⟨hc, hf⟩ := bcell hu1
    go_wp2_with fail
    refine Calls.mono (HR0.out _) ?_
    rintro e w2 ⟨rfl, hu2⟩
    clear hc hf
    have hu3a := hu1.trans hu2
    obtain ⟨hc, hf⟩ := bcell hu3a
    go_wp2_with fail
    refine Calls.mono (HV0.out _) ?_
    rintro e w4 ⟨a4, x4, y4, rfl, hu4⟩
    clear hc hf
    obtain ⟨hc, hf⟩ := bcell (hu3a.trans hu4)
    go_wp2_with fail
    refine Calls.mono (HV1.out _) ?_
    rintro e w5 ⟨a5, x5, y5, rfl, hu5⟩
    clear hc hf
    obtain ⟨hc, hf⟩ := bcell ((hu3a.trans hu4).trans hu5)
    go_wp2_with fail
    refine Calls.mono (HV2.out _) ?_
    rintro e w6 ⟨a6, x6, y6, rfl, hu6⟩
    clear hc hf
    go_wp2_with fail
    go_ret2
    exact ⟨rfl, (((((Up.refl _).alloc _).trans hu3a).trans hu4).trans hu5).trans hu6⟩

set_option maxHeartbeats 4000000 in
theorem refBend_ok (n t : Nat) (q b : Int) (l x y m : ByteArray) (w : World) (hl : l.size ≤ maxLen) (hx : x.size ≤ maxLen) (hy : y.size ≤ maxLen) (hm : m.size ≤ maxLen) (g : NT n t) (hg : goodB n t q b = true) (h0 : layB l.data.toList n t = true)
    (v0 : okL x.data.toList n 2 t = true) (v1 : okL y.data.toList n 2 t = true) (v2 : okL m.data.toList n 2 t = true) :
    Calls Tryz.prog 145 #[.agg #[.int .i64 n, .int .i64 t, .int .i64 q, .int .i64 b], .string l, .string x, .string y, .string m] w fun e w' => e = .returned (.tuple #[.string ⟨(bendL n t l.data.toList x.data.toList y.data.toList m.data.toList).toArray⟩, .int .i64 0]) ∧ Up w w' := by
  have ht := g.t3
  have ht2 := g.ht
  obtain ⟨hd1, hd2, hd3⟩ := g.half
  have HR0 : Hid (∀ W, Calls Tryz.prog 41 #[.agg #[.int .i64 n, .int .i64 t, .int .i64 q, .int .i64 b], .string l] W fun e w' => e = .returned (.bool true) ∧ Up W w') := fun W => by
    rw [← h0]
    exact Layer_calls n t q b l W hl g.hn
  have HV : Hid (∀ (x : ByteArray) W, x.size ≤ maxLen → okL x.data.toList n 2 t = true → Calls Tryz.prog 43 #[.agg #[.int .i64 n, .int .i64 t, .int .i64 q, .int .i64 b], .string x] W fun e w' => ∃ gx cx, e = .returned (.tuple #[.slice (some ⟨gx, 0, none⟩) n cx, .bool true]) ∧ IsI w' gx (numsL x.data.toList 2 n) ∧ Up W w') := fun x W hx hv => by
    refine (Values_ok n t q b x W hx (by omega) hv).mono ?_
    rintro e w' ⟨v, rfl, ho, hu⟩
    obtain ⟨g, c, rfl, _, i⟩ := ho.is (ne_nil_of_length (numsL_length _ _ _) (by omega))
    rw [numsL_length]
    exact ⟨_, _, rfl, i, hu⟩
  have HV0 : Hid _ := fun W => HV.out x W hx v0
  have HV1 : Hid _ := fun W => HV.out y W hy v1
  have HV2 : Hid _ := fun W => HV.out m W hm v2
  have hxs := numsL_lt x.data.toList 2 n t v0
  have hys := numsL_lt y.data.toList 2 n t v1
  have hms := numsL_lt m.data.toList 2 n t v2
  have lx := numsL_length x.data.toList 2 n
  have ly := numsL_length y.data.toList 2 n
  have lm := numsL_length m.data.toList 2 n
  have HA : Hid (bendL n t l.data.toList x.data.toList y.data.toList m.data.toList = textsL 2 (bendI n t l.data.toList (numsL x.data.toList 2 n) (numsL y.data.toList 2 n) (numsL m.data.toList 2 n))) := rfl
  generalize bendL n t l.data.toList x.data.toList y.data.toList m.data.toList = ans at HA
  generalize numsL x.data.toList 2 n = X at HV0 HA hxs lx
  generalize numsL y.data.toList 2 n = Y at HV1 HA hys ly
  generalize numsL m.data.toList 2 n = M at HV2 HA hms lm
  have HPl : Hid (∀ (g1 c1 g2 c2 : Nat) W, IsI W g1 X → IsI W g2 Y → Calls Tryz.prog 109 #[.slice (some ⟨g1, 0, none⟩) n c1, .slice (some ⟨g2, 0, none⟩) n c2, .int .i64 t] W fun e w' => ∃ gx cx, e = .returned (.slice (some ⟨gx, 0, none⟩) n cx) ∧ IsI w' gx (plusI n X Y t) ∧ Up W w') := fun g1 c1 g2 c2 W h1 h2 => by
    refine (Plus_calls n X Y g1 g2 c1 c2 t W (by omega) lx ly (by omega) (by omega) (fun i => by have := all_bnd lx hxs (show (t : Int) ≤ 4294967296 by omega) (by omega) i; omega) (fun i => by have := all_bnd ly hys (show (t : Int) ≤ 4294967296 by omega) (by omega) i; omega) h1 h2).mono ?_
    rintro e w' ⟨v, rfl, ho, hu⟩
    obtain ⟨g, c, rfl, _, i⟩ := ho.is (ne_nil_of_length (plusI_length _ _ _ _) (by omega))
    rw [plusI_length]
    exact ⟨_, _, rfl, i, hu⟩
  have HBe : Hid (∀ (g1 c1 : Nat) W, IsI W g1 (plusI n X Y t) → Calls Tryz.prog 167 #[.agg #[.int .i64 n, .int .i64 t, .int .i64 q, .int .i64 b], .string l, .slice (some ⟨g1, 0, none⟩) n c1] W fun e w' => ∃ gx cx, e = .returned (.slice (some ⟨gx, 0, none⟩) n cx) ∧ IsI w' gx (bentI n t l.data.toList (plusI n X Y t)) ∧ Up W w') := fun g1 c1 W h1 => by
    refine (Bent_calls n t q b l _ g1 c1 W hl (by omega) (by omega) ht2 (plusI_length _ _ _ _) (plusI_lt _ _ _ _ (by omega)) h1).mono ?_
    rintro e w' ⟨v, rfl, ho, hu⟩
    obtain ⟨g, c, rfl, _, i⟩ := ho.is (ne_nil_of_length (bentI_length _ _ _ _) (by omega))
    rw [bentI_length]
    exact ⟨_, _, rfl, i, hu⟩
  have HLe : Hid (∀ (g1 c1 g2 c2 : Nat) W, IsI W g1 (bentI n t l.data.toList (plusI n X Y t)) → IsI W g2 M → Calls Tryz.prog 51 #[.slice (some ⟨g1, 0, none⟩) n c1, .slice (some ⟨g2, 0, none⟩) n c2, .int .i64 t] W fun e w' => ∃ gx cx, e = .returned (.slice (some ⟨gx, 0, none⟩) n cx) ∧ IsI w' gx (bendI n t l.data.toList X Y M) ∧ Up W w') := fun g1 c1 g2 c2 W h1 h2 => by
    refine (Less_calls n _ M g1 g2 c1 c2 t W (by omega) (bentI_length _ _ _ _) lm (by omega) (by omega) (fun i => by have := all_bnd (bentI_length n t l.data.toList (plusI n X Y t)) (bentI_lt n t l.data.toList (plusI n X Y t) (by omega)) (show (t : Int) ≤ 4294967296 by omega) (by omega) i; omega) (fun i => by have := all_bnd lm hms (show (t : Int) ≤ 4294967296 by omega) (by omega) i; omega) h1 h2).mono ?_
    rintro e w' ⟨v, rfl, ho, hu⟩
    obtain ⟨g, c, rfl, _, i⟩ := ho.is (ne_nil_of_length (lessI_length _ _ _ _) (by omega))
    rw [lessI_length]
    exact ⟨_, _, rfl, i, hu⟩
  have HTx : Hid (∀ gx cx W, IsI W gx (bendI n t l.data.toList X Y M) → Calls Tryz.prog 50 #[.slice (some ⟨gx, 0, none⟩) n cx, .int .i64 2] W fun e w' => e = .returned (.string ⟨ans.toArray⟩) ∧ Up W w') := fun gx cx W hi => by
    have h2 := lessI_lt n (bentI n t l.data.toList (plusI n X Y t)) M t (by omega)
    have := Texts_calls (bendI n t l.data.toList X Y M) gx cx 2 W (by omega) (by unfold bendI; rw [lessI_length]; omega) (fun i hi => by unfold bendI at hi ⊢; rw [lessI_length] at hi; have := h2 i hi; omega) hi
    rw [show (bendI n t l.data.toList X Y M).length = n from lessI_length _ _ _ _, ← HA.out] at this
    exact this
  generalize bendI n t l.data.toList X Y M = F3 at HLe HTx HA
  generalize bentI n t l.data.toList (plusI n X Y t) = F2 at HLe HBe
  generalize plusI n X Y t = F1 at HPl HBe
  clear h0 v0 v1 v2 hxs hys hms lx ly lm HV HA
  go_enter Tryz.func145, Tryz.ntmps145
  go_wp2_with fail
  refine (refGood_calls _ _ _ _ _).mono ?_
  rintro e w1 ⟨rfl, hu1⟩
  obtain ⟨hc, hf⟩ := bcell hu1
  go_wp2_with fail
  refine Calls.mono (HR0.out _) ?_
  rintro e w2 ⟨rfl, hu2⟩
  clear hc hf
  have hu3 := hu1.trans hu2
  obtain ⟨hc, hf⟩ := bcell hu3
  go_wp2_with fail
  refine Calls.mono (HV0.out _) ?_
  rintro e w4 ⟨g4, c4, rfl, i4, hu4⟩
  clear hc hf
  obtain ⟨hc, hf⟩ := bcell (hu3.trans hu4)
  go_wp2_with fail
  refine Calls.mono (HV1.out _) ?_
  rintro e w5 ⟨g5, c5, rfl, i5, hu5⟩
  clear hc hf
  obtain ⟨hc, hf⟩ := bcell ((hu3.trans hu4).trans hu5)
  go_wp2_with fail
  refine Calls.mono (HV2.out _) ?_
  rintro e w6 ⟨g6, c6, rfl, i6, hu6⟩
  clear hc hf
  have j4 := (i4.up hu5).up hu6
  have j5 := i5.up hu6
  clear i4 i5
  have huQ := (((hu3).trans hu4).trans hu5).trans hu6
  clear hu1 hu2 hu3 hu4 hu5 hu6
  have hP0 := keepU (a := w.heap.size) (k := 0) (u := .int .i64 (n : Int)) huQ (by simp)
  have hP1 := keepU (a := w.heap.size) (k := 1) (u := .int .i64 (t : Int)) huQ (by simp)
  have hP2 := keepU (a := w.heap.size) (k := 2) (u := .int .i64 q) huQ (by simp)
  have hP3 := keepU (a := w.heap.size) (k := 3) (u := .int .i64 b) huQ (by simp)
  go_wp2_with fail
  go_region_held3 (fun w' => w'.cell? ⟨w.heap.size, 0, none⟩ = some (.int .i64 (n : Int)) ∧ w'.cell? ⟨w.heap.size, 1, none⟩ = some (.int .i64 (t : Int)) ∧ w'.cell? ⟨w.heap.size, 2, none⟩ = some (.int .i64 q) ∧ w'.cell? ⟨w.heap.size, 3, none⟩ = some (.int .i64 b))
    (first | go_keep | exact keep4 hu10 (by assumption) | exact keep4 hu11 (by assumption))
    ((first | (go_at_call 109; refine Calls.mono (HPl.out _ _ _ _ _ (by exact j4.up (Up.drew (Up.refl _))) (by exact j5.up (Up.drew (Up.refl _)))) ?_; rintro e w10 ⟨g10, c10, rfl, i10, hu10⟩) | (go_at_call 167; refine Calls.mono (HBe.out _ _ _ i10) ?_; rintro e w11 ⟨g11, c11, rfl, i11, hu11⟩)))
  have huX : Up w6 w11 := Up.trans (Up.trans (Up.drew (Up.refl _)) hu10) hu11
  have k6 := i6.up huX
  have huR := huQ.trans huX
  clear hu10 hu11 hP0 hP1 hP2 hP3 i10 i6
  have hQ1 := keepU (a := w.heap.size) (k := 1) (u := .int .i64 (t : Int)) huR (by simp)
  go_wp2_with fail
  refine Calls.mono (HLe.out _ _ _ _ _ i11 k6) ?_
  rintro e w12 ⟨g12, c12, rfl, i12, hu12⟩
  clear hQ1
  go_wp2_with fail
  refine Calls.mono (HTx.out _ _ _ i12) ?_
  rintro e w13 ⟨rfl, hu13⟩
  have huY : Up w11 w13 := hu12.trans hu13
  clear hu12 hu13 i12
  go_wp2_with fail
  go_ret2
  exact ⟨rfl, (((Up.refl _).alloc _).trans huR).trans huY⟩

end Go.Proofs.YtcjhgbljhpflfabGreat
