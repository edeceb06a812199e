/-
  Walks: a case that begins; the statement Opened.
  Walks: an answer whose bound is told; the statement Added.
-/
import Derived.Test.YtcjhgbljhpflfaaKeepD
namespace Go.Proofs.Ytcjhgbljhpflfaa
open Go.RowKit
set_option linter.unusedVariables false
set_option maxRecDepth 100000

/-- 1 0 0 .. -/
def oneC (i : Nat) : Int := if i = 0 then 1 else 0

set_option maxHeartbeats 4000000 in
theorem begin_calls (n t q b : Int) (d : ByteArray) (w : World) (hd : d.size ≤ maxLen) (hn : -9223372036854775808 ≤ n) (hn2 : n ≤ 9223372036854775807) :
    Calls Try.prog 35 #[.agg #[.int .i64 n, .int .i64 t, .int .i64 q, .int .i64 b, .string d]] w fun e w' => ∃ g m u q' b', GoodP m u q' b' ∧ e = .returned (.pointer (some ⟨g, 0, none⟩)) ∧ BoxAt w' g m u q' b' (keyL d.data.toList m) ∧ Up w w' := by
  obtain ⟨i0, hi0, hz0, hz1, hz2⟩ := info_parts info_int
  go_enter Try.func35, Try.ntmps35
  go_wp2_with fail
  refine (fit_calls n t q b _ hn hn2).mono ?_
  rintro e w1 ⟨n', t', q', b', hg, rfl, hu1⟩
  obtain ⟨m, u, rfl, rfl, p⟩ := goodP_of hg
  have P : Hid _ := p
  obtain ⟨hd1, hd2, hd3⟩ := p.nt.half
  have ht := p.nt.t3
  clear p hg
  obtain ⟨W1, hW1⟩ : ∃ W, W = w1.alloc (.cells #[.int .i64 m, .int .i64 u, .int .i64 q', .int .i64 b', .string ⟨#[]⟩, .bool true] 54) := ⟨_, rfl⟩
  have huW1 : Up w1 W1 := by rw [hW1]; exact (Up.refl _).alloc _
  have hsW1 : W1.heap.size = w1.heap.size + 1 := by rw [hW1]; simp
  have hc0 : W1.cell? ⟨w1.heap.size, 0, none⟩ = some (.int .i64 m) := by rw [hW1]; simp
  have hc1 : W1.cell? ⟨w1.heap.size, 1, none⟩ = some (.int .i64 u) := by rw [hW1]; simp
  have hc2 : W1.cell? ⟨w1.heap.size, 2, none⟩ = some (.int .i64 q') := by rw [hW1]; simp
  have hc3 : W1.cell? ⟨w1.heap.size, 3, none⟩ = some (.int .i64 b') := by rw [hW1]; simp
  have hc4 : W1.cell? ⟨w1.heap.size, 4, none⟩ = some (.string ⟨#[]⟩) := by rw [hW1]; simp
  have hc5 : W1.cell? ⟨w1.heap.size, 5, none⟩ = some (.bool true) := by rw [hW1]; simp
  have HZ : Hid (∀ o, W1.frozen? ⟨w1.heap.size, o, none⟩ = false) := show ∀ o, W1.frozen? ⟨w1.heap.size, o, none⟩ = false from fun o => by rw [hW1]; simp
  have hu1' := hu1.trans huW1
  obtain ⟨hc, hf⟩ := bcell hu1'
  have hcD : W1.cell? ⟨w.heap.size, 4, none⟩ = some (.string d) := by rw [hc _ _ (by simp)]; simp
  have KC0 : Hid _ := hc0
  have KC1 : Hid _ := hc1
  have KC2 : Hid _ := hc2
  have KC3 : Hid _ := hc3
  have KC4 : Hid _ := hc4
  have KC5 : Hid _ := hc5
  have KCD : Hid _ := hcD
  clear hc hf
  have HKey : Hid (∀ W, Calls Try.prog 24 #[.agg #[.int .i64 m, .int .i64 u, .int .i64 q', .int .i64 b'], .string d] W fun e w' => e = .returned (.tuple #[.string ⟨(keyL d.data.toList m).toArray⟩, .int .i64 0]) ∧ Up W w') := fun W => by
    have := P.out.nt.half
    exact Key_ok m u q' b' d W hd (by omega) P.out.good
  have HKL : Hid (((⟨(keyL d.data.toList m).toArray⟩ : ByteArray).size : Int) = 1 + (m : Int)) := show _ = _ by
    show ((keyL d.data.toList m).toArray.size : Int) = _
    rw [List.size_toArray, keyL_length]; omega
  have HSec : Hid _ := sec_key d.data.toList m
  generalize hKe : (⟨(keyL d.data.toList m).toArray⟩ : ByteArray) = K at HKey HKL
  have HKe : Hid _ := hKe
  clear hKe
  go_wp2_with fail
  rw [← hW1]
  clear hW1
  go_region_held3 (fun w' => w'.cell? ⟨w1.heap.size, 0, none⟩ = some (.int .i64 (m : Int)) ∧ w'.cell? ⟨w1.heap.size, 1, none⟩ = some (.int .i64 (u : Int)) ∧ w'.cell? ⟨w1.heap.size, 2, none⟩ = some (.int .i64 q') ∧ w'.cell? ⟨w1.heap.size, 3, none⟩ = some (.int .i64 b') ∧ w'.cell? ⟨w.heap.size, 4, none⟩ = some (.string d))
    (first | go_keep | exact keepC5 hu2 (by assumption))
    ((first | (go_at_call 24; refine Calls.mono (HKey.out _) ?_; rintro e w2 ⟨rfl, hu2⟩)))
  have hu12 : Up W1 w2 := Up.trans (Up.drew (Up.refl _)) hu2
  clear hu2 hc0 hc1 hc2 hc3 hc4 hc5 hcD
  have hc0 := keepC hu12 KC0.out
  have hc1 := keepC hu12 KC1.out
  have hc2 := keepC hu12 KC2.out
  have hc3 := keepC hu12 KC3.out
  have hc4 := keepC hu12 KC4.out
  have hc5 := keepC hu12 KC5.out
  have hcD := keepC hu12 KCD.out
  have hz := ((bcell hu12).2 _ _ (by omega)).trans (HZ.out 4)
  have hkl := HKL.out
  go_wp2_with fail
  refine (must_calls w1.heap.size _).mono ?_
  rintro e w3 ⟨rfl, rfl⟩
  have hge : w.heap.size + 1 ≤ w1.heap.size := by have := hu1.size; simpa using this
  obtain ⟨W3, hW3⟩ : ∃ W, W = w2.setCell ⟨w1.heap.size, 4, none⟩ (.string K) := ⟨_, rfl⟩
  have hB3 : BoxAt W3 w1.heap.size m u q' b' (keyL d.data.toList m) := by
    rw [hW3]
    refine ⟨?_, ?_, ?_, ?_, ?_, ?_⟩
    · rw [World.cell?_setCell_other _ _ _ _ (by simp)]; exact hc0
    · rw [World.cell?_setCell_other _ _ _ _ (by simp)]; exact hc1
    · rw [World.cell?_setCell_other _ _ _ _ (by simp)]; exact hc2
    · rw [World.cell?_setCell_other _ _ _ _ (by simp)]; exact hc3
    · rw [World.cell?_setCell_same _ _ _ hc4, HKe.out]
    · rw [World.cell?_setCell_other _ _ _ _ (by simp)]; exact hc5
  have hu03 : Up (w.alloc (.cells #[.int .i64 n, .int .i64 t, .int .i64 q, .int .i64 b, .string d] 48)) W3 := by
    rw [hW3]
    exact Below.setCell (hu1'.trans hu12) (by simpa using hge) _
  have hD3 : W3.cell? ⟨w.heap.size, 4, none⟩ = some (.string d) := by
    rw [hW3, World.cell?_setCell_far _ _ _ _ (by show w1.heap.size ≠ w.heap.size; omega)]; exact hcD
  rw [← hW3]
  clear hc0 hc1 hc2 hc3 hc4 hc5 hcD hz hW3 KC0 KC1 KC2 KC3 KC4 KC5 KCD HZ
  have HB3 : Hid _ := hB3
  have HD3 : Hid _ := hD3
  have hc0 := hB3.c0
  clear hB3 hD3
  go_wp2_with (at_make; refine wpList_make_full _ rfl _ _ 51 rfl W3.heap.size 3 i0 (.int .i64 0) 1 Try.underlying51 hi0 hz0 hz1 .i64 .i64 _ _ m rfl rfl rfl rfl (by rw [hz2]; omega) (by unfold maxLen; omega) (Nat.le_refl _) ?_)
  intro w4 hown4 hg4
  have ho4 := made_row hown4 (fun _ => 0) (fun _ => rfl)
  have hu4 := Up.made hg4
  obtain ⟨hck, hfk⟩ := ho4.cellAt 0 (by omega)
  have hst := ho4.stored 0 (by omega) 1
  have HST : Hid (OwnI (w4.setCell ⟨W3.heap.size, 0, none⟩ (.int .i64 1)) W3.heap.size (.slice (some ⟨W3.heap.size, 0, none⟩) m m) ((List.range m).map oneC) ∧ Below W3.heap.size w4 (w4.setCell ⟨W3.heap.size, 0, none⟩ (.int .i64 1))) := hst
  clear hown4 hg4 hst ho4 hc0
  have hm0 : (0 : Int) < (m : Int) := by omega
  obtain ⟨W5, hW5⟩ : ∃ W, W = w4.setCell ⟨W3.heap.size, 0, none⟩ (.int .i64 1) := ⟨_, rfl⟩
  have hu35 : Up W3 W5 := by rw [hW5]; exact Below.trans hu4 HST.out.2
  have i5 : IsI W5 W3.heap.size ((List.range m).map oneC) := by rw [hW5]; exact HST.out.1.isI
  have hD5 := keepC hu35 HD3.out
  have hB5 := HB3.out.up hu35
  subst hW5
  go_wp2_with fail
  refine (hide_box w1.heap.size m u q' b' (keyL d.data.toList m) ((List.range m).map oneC) W3.heap.size m d _ hd P.out HSec.out hB5 (by simp) (fun i hi => by rw [getD_range hi]; unfold oneC; split <;> omega) i5).mono ?_
  rintro e w6 ⟨rfl, hu6⟩
  have hct := hide_vals P.out (keyL d.data.toList m) d.data.toList ((List.range m).map oneC) (by simp) (fun i hi => by rw [getD_range hi]; unfold oneC; split <;> omega)
  have HCT : Hid _ := hct
  clear hct hck hfk
  go_wp2_with fail
  refine (opens_box w1.heap.size m u q' b' (keyL d.data.toList m) _ _ ((List.range m).map oneC) 2 W3.heap.size m _ P.out HSec.out (hB5.up hu6) HCT.out (dec_enc P.out.nt _ (by simp) (fun i hi => by rw [getD_range hi]; unfold oneC; split <;> omega)) (i5.up hu6)).mono ?_
  rintro e w7 ⟨rfl, hu7⟩
  go_wp2_with fail
  go_ret
  exact ⟨_, m, u, q', b', P.out, rfl, (hB5.up hu6).up hu7, (((Up.refl _).alloc _).trans hu03).trans ((hu35.trans hu6).trans hu7)⟩

set_option maxHeartbeats 4000000 in
theorem Opened_calls (n t q b : Int) (d v x : ByteArray) (w : World) (hd : d.size ≤ maxLen) (hv : v.size ≤ maxLen) (hx : x.size ≤ maxLen) (hn : -9223372036854775808 ≤ n) (hn2 : n ≤ 9223372036854775807) :
    Calls Try.prog 8 #[.agg #[.int .i64 n, .int .i64 t, .int .i64 q, .int .i64 b, .string d], .string v, .string x] w fun e w' => e = .returned (.bool true) ∧ Up w w' := by
  go_enter Try.func8, Try.ntmps8
  go_wp2_with fail
  refine (begin_calls n t q b d _ hd hn hn2).mono ?_
  rintro e w1 ⟨g, m, u, q', b', p, rfl, hB1, hu1⟩
  have P : Hid _ := p
  obtain ⟨hd1, hd2, hd3⟩ := p.nt.half
  have ht := p.nt.t3
  have ht2 := p.nt.ht
  have HB : Hid _ := hB1
  have HSec : Hid _ := sec_key d.data.toList m
  have HVL : Hid _ := valsI_length m u v.data.toList
  have HVS : Hid _ := valsI_small m u v.data.toList (by omega)
  have hc0 := hB1.c0
  have hc1 := hB1.c1
  have hc2 := hB1.c2
  have hc3 := hB1.c3
  clear p hB1
  go_wp2_with fail
  refine (values_calls m u q' b' v _ hv (by omega) (by omega) (by omega)).mono ?_
  rintro e w2 ⟨v2, rfl, ho2, hu2⟩
  obtain ⟨gv, cv, rfl, _, iv⟩ := ho2.is (ne_nil_of_length (valsI_length _ _ _) (by omega))
  rw [valsI_length]
  clear ho2 hc0 hc1 hc2 hc3
  generalize valsI m u v.data.toList = vs at iv HVL HVS
  go_wp2_with fail
  refine (hide_box g m u q' b' (keyL d.data.toList m) vs gv cv x _ hx P.out HSec.out (HB.out.up hu2) HVL.out HVS.out iv).mono ?_
  rintro e w3 ⟨rfl, hu3⟩
  have HCT : Hid _ := hide_vals P.out (keyL d.data.toList m) x.data.toList vs HVL.out HVS.out
  have HDE : Hid _ := dec_enc P.out.nt vs HVL.out HVS.out
  generalize hideL m u q' (keyL d.data.toList m) (textsL 2 vs) x.data.toList = C at HCT
  go_wp2_with fail
  refine (opens_box g m u q' b' (keyL d.data.toList m) C _ vs 2 gv cv _ P.out HSec.out ((HB.out.up hu2).up hu3) HCT.out HDE.out (iv.up hu3)).mono ?_
  rintro e w4 ⟨rfl, hu4⟩
  have hu24 := (hu2.trans hu3).trans hu4
  go_wp2_with fail
  refine (bound_box g m u q' b' (keyL d.data.toList m) C _ _ 2 _ P.out (HB.out.up hu24) HCT.out).mono ?_
  rintro e w5 ⟨rfl, hu5⟩
  go_wp2_with fail
  refine (must_calls g _).mono ?_
  rintro e w6 ⟨rfl, rfl⟩
  have hu25 := hu24.trans hu5
  have hc5 := (HB.out.up hu25).c5
  go_wp2_with fail
  go_ret
  exact ⟨rfl, (((Up.refl _).alloc _).trans hu1).trans hu25⟩

end Go.Proofs.Ytcjhgbljhpflfaa

namespace Go.Proofs.Ytcjhgbljhpflfaa
open Go.RowKit
set_option linter.unusedVariables false
set_option maxRecDepth 100000

set_option maxHeartbeats 2000000 in
theorem came_no (g n t : Nat) (q b : Int) (k : List UInt8) (E : Nat) (w : World) (p : GoodP n t q b) (hB : BoxAt w g n t q b k) (hE : E ≤ 1125899906842624) (hf : fitsB t q E = false) :
    Calls Try.prog 47 #[.pointer (some ⟨g, 0, none⟩), .string ⟨#[]⟩, .int .i64 4, .int .i64 E] w fun e w' => e = .returned (.bool false) ∧ Up w w' := by
  have ht := p.nt.t3
  have ht2 := p.nt.ht
  have hq0 := p.q1
  have hq2 := p.q2
  have HF : Hid _ := hf
  have hc0 := hB.c0
  have hc1 := hB.c1
  have hc2 := hB.c2
  have hc3 := hB.c3
  clear hB hf
  go_enter Try.func47, Try.ntmps47
  go_wp2_with fail
  refine (keepFits_calls _ _ _ _ _ _ (by omega) (by omega) (by omega) (by omega) (by omega) (by omega)).mono ?_
  rintro e w1 ⟨rfl, hu1⟩
  rw [HF.out]
  go_wp2_with fail
  refine (must_calls g _).mono ?_
  rintro e w2 ⟨rfl, rfl⟩
  go_wp2_with fail
  go_ret
  exact ⟨rfl, hu1⟩

set_option maxHeartbeats 2000000 in
theorem came_yes (g n t : Nat) (q b : Int) (k c : List UInt8) (ms s : List Int) (E : Nat) (w : World) (p : GoodP n t q b) (hB : BoxAt w g n t q b k) (hc : IsCT n t q s c ms E) :
    Calls Try.prog 47 #[.pointer (some ⟨g, 0, none⟩), .string ⟨c.toArray⟩, .int .i64 0, .int .i64 E] w fun e w' => e = .returned (.bool true) ∧ Up w w' := by
  have ht := p.nt.t3
  have ht2 := p.nt.ht
  have hq0 := p.q1
  have hq2 := p.q2
  have P : Hid _ := p
  have HF : Hid _ := hc.fits
  have hlt := fits_lt (by omega) (by omega) hc.fits
  have HC : Hid _ := hc
  have HB : Hid _ := hB
  have hc0 := hB.c0
  have hc1 := hB.c1
  have hc2 := hB.c2
  have hc3 := hB.c3
  have HBd : Hid (∀ W, BoxAt W g n t q b k → Calls Try.prog 39 #[.pointer (some ⟨g, 0, none⟩), .string ⟨c.toArray⟩] W fun e w' => e = .returned (.int .i64 E) ∧ Up W w') := fun W h => bound_box g n t q b k c ms s E W P.out h HC.out
  generalize (⟨c.toArray⟩ : ByteArray) = C at HBd
  clear hB hc p
  go_enter Try.func47, Try.ntmps47
  go_wp2_with fail
  refine (keepFits_calls _ _ _ _ _ _ (by omega) (by omega) (by omega) (by omega) (by omega) (by omega)).mono ?_
  rintro e w1 ⟨rfl, hu1⟩
  rw [HF.out]
  clear hc0 hc1 hc2 hc3
  go_wp2_with fail
  refine (must_calls g _).mono ?_
  rintro e w2 ⟨rfl, rfl⟩
  go_wp2_with fail
  refine Calls.mono (HBd.out _ (HB.out.up hu1)) ?_
  rintro e w3 ⟨rfl, hu3⟩
  go_wp2_with fail
  refine (must_calls g _).mono ?_
  rintro e w4 ⟨rfl, rfl⟩
  go_wp2_with fail
  go_ret
  exact ⟨rfl, hu1.trans hu3⟩

/-- what came of a call: a ciphertext, or nothing -/
def Came (n t : Nat) (q : Int) (s : List Int) (r : List UInt8 × Int) (ms : List Int) (E : Nat) : Prop :=
  (fitsB t q E = true ∧ r.2 = 0 ∧ IsCT n t q s r.1 ms E) ∨ (fitsB t q E = false ∧ r = ([], 4))

theorem came_add {n t : Nat} {q b : Int} (p : GoodP n t q b) (s : List Int) (x y : List UInt8) (ms ls : List Int) (E F : Nat) (hx : IsCT n t q s x ms E) (hy : IsCT n t q s y ls F) : Came n t q s (addL n t q x y) (plusI n ms ls t) (E + F + (q % (t : Int)).toNat) := by
  cases h : fitsB t q ((E + F + (q % (t : Int)).toNat : Nat) : Int) with
  | true => exact Or.inl ⟨h, add_ct p.nt q p.q1 p.q2 s x y ms ls E F hx hy h⟩
  | false =>
    refine Or.inr ⟨h, ?_⟩
    unfold addL tellL
    rw [hx.bound, hy.bound, if_neg (by rw [h]; decide)]

theorem came_addPlain {n t : Nat} {q b : Int} (p : GoodP n t q b) (s : List Int) (x : List UInt8) (ms vs : List Int) (E : Nat) (hx : IsCT n t q s x ms E) (hl : vs.length = n) (hv : ∀ i, i < n → 0 ≤ vs.getD i 0 ∧ vs.getD i 0 < (t : Int)) : Came n t q s (addPlainL n t q x (textsL 2 vs)) (plusI n ms (encI n t vs) t) (E + (q % (t : Int)).toNat) := by
  have h256 : ((256 ^ 2 : Nat) : Int) = 65536 := by decide
  have ht2 := p.nt.ht
  cases h : fitsB t q ((E + (q % (t : Int)).toNat : Nat) : Int) with
  | true =>
    have := addPlain_ct p.nt q p.q1 p.q2 s x (textsL 2 vs) ms E hx h
    rw [nums_texts vs n 2 t hl hv (by omega)] at this
    exact Or.inl ⟨h, this⟩
  | false =>
    refine Or.inr ⟨h, ?_⟩
    unfold addPlainL tellL
    rw [hx.bound, if_neg (by rw [h]; decide)]

theorem size_ct {n t : Nat} {q : Int} {s : List Int} {l : List UInt8} {ms : List Int} {E : Nat} (h : IsCT n t q s l ms E) (hn : n ≤ 16) : (⟨l.toArray⟩ : ByteArray).size ≤ maxLen := by
  have hcl : l.length = 6 + 8 * n := ((ctB_iff _ _ _ _).1 h.ct).1
  show l.toArray.size ≤ _
  rw [List.size_toArray, hcl]; unfold maxLen; omega

theorem size_texts (vs : List Int) (n : Nat) (hl : vs.length = n) (hn : n ≤ 16) : (⟨(textsL 2 vs).toArray⟩ : ByteArray).size ≤ maxLen := by
  show (textsL 2 vs).toArray.size ≤ _
  rw [List.size_toArray, textsL_length, hl]; unfold maxLen; omega

theorem bnd_small (vs : List Int) (n : Nat) (t : Int) (hl : vs.length = n) (ht : 0 ≤ t) (ht2 : t ≤ 1048576) (hv : ∀ i, i < n → 0 ≤ vs.getD i 0 ∧ vs.getD i 0 < t) : Bnd vs 1048576 := by
  intro i
  rcases Nat.lt_or_ge i n with h | h
  · have := hv i h; omega
  · rw [getD_out _ _ (by omega)]; omega

theorem small_plus (n : Nat) (xs ys : List Int) (t : Int) (ht : 0 < t) : ∀ i, i < n → 0 ≤ (plusI n xs ys t).getD i 0 ∧ (plusI n xs ys t).getD i 0 < t := fun i hi => plusI_bounds _ _ _ _ ht i (by rw [plusI_length]; exact hi)

end Go.Proofs.Ytcjhgbljhpflfaa
