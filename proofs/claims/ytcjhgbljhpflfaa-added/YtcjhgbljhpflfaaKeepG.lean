/-
  Walks: the statement Added.
-/
import Derived.Test.YtcjhgbljhpflfaaKeepE
namespace Go.Proofs.Ytcjhgbljhpflfaa
open Go.RowKit
set_option linter.unusedVariables false
set_option maxRecDepth 100000

/-- came, by what came of the call -/
theorem came_both {g n t : Nat} {q b : Int} {k : List UInt8} {s : List Int} {r : List UInt8 × Int} {ms : List Int} {E : Nat} (p : GoodP n t q b) (hE : E ≤ 1125899906842624) (h : Came n t q s r ms E) :
    ∀ W, BoxAt W g n t q b k → Calls Try.prog 47 #[.pointer (some ⟨g, 0, none⟩), .string ⟨r.1.toArray⟩, .int .i64 r.2, .int .i64 E] W fun e w' => e = .returned (.bool (fitsB t q E)) ∧ Up W w' := by
  intro W hB
  rcases h with ⟨h1, h2, h3⟩ | ⟨h1, h2⟩
  · rw [h1, h2]
    exact came_yes g n t q b k r.1 ms s E W p hB h3
  · rw [h1, h2]
    exact came_no g n t q b k E W p hB hE h1

set_option maxHeartbeats 8000000 in
theorem Added_calls (n t q b : Int) (d v y x : ByteArray) (o : Int) (w : World) (hd : d.size ≤ maxLen) (hv : v.size ≤ maxLen) (hy : y.size ≤ maxLen) (hx : x.size ≤ maxLen) (hn : -9223372036854775808 ≤ n) (hn2 : n ≤ 9223372036854775807) (ho : -9223372036854775808 ≤ o) (ho2 : o ≤ 9223372036854775807) :
    Calls Try.prog 11 #[.agg #[.int .i64 n, .int .i64 t, .int .i64 q, .int .i64 b, .string d], .string v, .string y, .string x, .int .i64 o] w fun e w' => e = .returned (.bool true) ∧ Up w w' := by
  go_enter Try.func11, Try.ntmps11
  go_wp2_with fail
  refine (begin_calls n t q b d _ hd hn hn2).mono ?_
  rintro e w1 ⟨g, m, u, q', b', p, rfl, hB1, hu1⟩
  have P : Hid _ := p
  obtain ⟨hd1, hd2, hd3⟩ := p.nt.half
  have ht := p.nt.t3
  have ht2 := p.nt.ht
  have hq1 := p.q1
  have hq2 := p.q2
  have HB : Hid _ := hB1
  have HSec : Hid _ := sec_key d.data.toList m
  have HDr : Hid (w1.cell? ⟨w.heap.size, 4, none⟩ = some (.string d)) := keepC hu1 (by simp)
  have HVL : Hid _ := valsI_length m u v.data.toList
  have HVS : Hid _ := valsI_small m u v.data.toList (by omega)
  have HML : Hid _ := valsI_length m u y.data.toList
  have HMS : Hid _ := valsI_small m u y.data.toList (by omega)
  have hm := mod_bounds (show (0 : Int) < (u : Int) by omega) q'
  have hR : q' % (u : Int) = ((q' % (u : Int)).toNat : Int) := by omega
  have hRb : (q' % (u : Int)).toNat ≤ 1021 := by omega
  have HA0 : Hid (∀ (s : List Int) (x y : List UInt8) (ms ls : List Int) (E F : Nat), IsCT m u q' s x ms E → IsCT m u q' s y ls F → Came m u q' s (addL m u q' x y) (plusI m ms ls u) (E + F + (q' % (u : Int)).toNat)) := fun s x y ms ls E F h1 h2 => came_add P.out s x y ms ls E F h1 h2
  have HP0 : Hid (∀ (s : List Int) (x : List UInt8) (ms vs : List Int) (E : Nat), IsCT m u q' s x ms E → vs.length = m → (∀ i, i < m → 0 ≤ vs.getD i 0 ∧ vs.getD i 0 < (u : Int)) → Came m u q' s (addPlainL m u q' x (textsL 2 vs)) (plusI m ms (encI m u vs) u) (E + (q' % (u : Int)).toNat)) := fun s x ms vs E h1 h2 h3 => came_addPlain P.out s x ms vs E h1 h2 h3
  have eR : q'.tmod (u : Int) = ((q' % (u : Int)).toNat : Int) := by rw [Int.tmod_eq_emod_of_nonneg (by omega)]; exact hR
  generalize (q' % (u : Int)).toNat = R at eR hRb HA0 HP0
  have et1 : ¬ (u : Int) = 0 := by omega
  have et2 : ¬ u = 0 := by omega
  have et0 : ((u : Int) == 0) = false := beq_eq_false_iff_ne.2 et1
  clear hm hR
  have hc0 := hB1.c0
  have hc1 := hB1.c1
  have hc2 := hB1.c2
  have hc3 := hB1.c3
  clear p hB1
  go_wp2_with fail
  refine (values_calls m u q' b' v _ hv (by omega) (by omega) (by omega)).mono ?_
  rintro e w2 ⟨v2, rfl, ho2', hu2⟩
  obtain ⟨gl, cl, rfl, _, il⟩ := ho2'.is (ne_nil_of_length (valsI_length _ _ _) (by omega))
  rw [valsI_length]
  clear ho2' hc0 hc1 hc2 hc3
  generalize valsI m u v.data.toList = L at il HVL HVS
  have hB2 := HB.out.up hu2
  have hc0 := hB2.c0
  have hc1 := hB2.c1
  have hc2 := hB2.c2
  have hc3 := hB2.c3
  clear hB2
  go_wp2_with fail
  refine (values_calls m u q' b' y _ hy (by omega) (by omega) (by omega)).mono ?_
  rintro e w3 ⟨v3, rfl, ho3, hu3⟩
  obtain ⟨gm, cm, rfl, _, im⟩ := ho3.is (ne_nil_of_length (valsI_length _ _ _) (by omega))
  rw [valsI_length]
  clear ho3 hc0 hc1 hc2 hc3
  generalize valsI m u y.data.toList = M at im HML HMS
  have hu23 := hu2.trans hu3
  have hc1 := (HB.out.up hu23).c1
  have hc2 := (HB.out.up hu23).c2
  go_wp2_with fail
  go_quiet (fail)
  have hu4 : Up w1 (w3.drewN nq) := Up.drewN hu23
  have il4 : IsI (w3.drewN nq) gl L := (il.up hu3).up (Up.drewN (Up.refl _))
  have im4 : IsI (w3.drewN nq) gm M := im.up (Up.drewN (Up.refl _))
  generalize w3.drewN nq = w4 at hu4 il4 im4 ⊢
  clear hc1 hc2 eR et0 et1 et2 il im hu2 hu3 hu23
  go_wp2_with fail
  refine (hide_box g m u q' b' (keyL d.data.toList m) L gl cl x _ hx P.out HSec.out (HB.out.up hu4) HVL.out HVS.out il4).mono ?_
  rintro e w5 ⟨rfl, hu5⟩
  have HC1 : Hid _ := hide_vals P.out (keyL d.data.toList m) x.data.toList L HVL.out HVS.out
  have HDE1 : Hid _ := dec_enc P.out.nt L HVL.out HVS.out
  generalize hideL m u q' (keyL d.data.toList m) (textsL 2 L) x.data.toList = C at HC1
  have hu15 := hu4.trans hu5
  have hcD := keepC hu15 HDr.out
  go_wp2_with fail
  refine (hide_box g m u q' b' (keyL d.data.toList m) M gm cm d _ hd P.out HSec.out (HB.out.up hu15) HML.out HMS.out (im4.up hu5)).mono ?_
  rintro e w6 ⟨rfl, hu6⟩
  have HC2 : Hid _ := hide_vals P.out (keyL d.data.toList m) d.data.toList M HML.out HMS.out
  have HDE2 : Hid _ := dec_enc P.out.nt M HML.out HMS.out
  generalize hideL m u q' (keyL d.data.toList m) (textsL 2 M) d.data.toList = D at HC2
  have hu16 := hu15.trans hu6
  have hB6 := HB.out.up hu16
  clear hcD
  have hc0 := hB6.c0
  have hc1 := hB6.c1
  have hc2 := hB6.c2
  have hc3 := hB6.c3
  clear hB6
  have HAd : Hid (∀ W, Calls Try.prog 41 #[.agg #[.int .i64 m, .int .i64 u, .int .i64 q', .int .i64 b'], .string ⟨C.toArray⟩, .string ⟨D.toArray⟩] W fun e w' => e = .returned (.tuple #[.string ⟨(addL m u q' C D).1.toArray⟩, .int .i64 (addL m u q' C D).2]) ∧ Up W w') := fun W => by
    have := Add_ok m u q' b' ⟨C.toArray⟩ ⟨D.toArray⟩ W (size_ct HC1.out (by omega)) (size_ct HC2.out (by omega)) P.out.nt P.out.q1 P.out.q2 P.out.good (by rw [bytes_back]; exact HC1.out.ct) (by rw [bytes_back]; exact HC2.out.ct)
    rw [bytes_back, bytes_back] at this
    exact this
  have HCm : Hid _ := HA0.out _ C D _ _ 2 2 HC1.out HC2.out
  generalize addL m u q' C D = r at HAd HCm
  have HCame : Hid (∀ W, BoxAt W g m u q' b' (keyL d.data.toList m) → Calls Try.prog 47 #[.pointer (some ⟨g, 0, none⟩), .string ⟨r.1.toArray⟩, .int .i64 r.2, .int .i64 (4 + (R : Int))] W fun e w' => e = .returned (.bool (fitsB u q' ((2 + 2 + R : Nat) : Int))) ∧ Up W w') := fun W hW => by
    have := came_both (g := g) (k := keyL d.data.toList m) P.out (by omega) HCm.out W hW
    rw [show ((2 + 2 + R : Nat) : Int) = 4 + (R : Int) by omega] at this ⊢
    exact this
  go_wp2_with fail
  refine Calls.mono (HAd.out _) ?_
  rintro e w7 ⟨rfl, hu7⟩
  have hu17 := hu16.trans hu7
  clear hc0 hc1 hc2 hc3
  go_wp2_with fail
  refine Calls.mono (HCame.out _ (HB.out.up hu17)) ?_
  rintro e w8 ⟨rfl, hu8⟩
  have hu18 := hu17.trans hu8
  have hB8 := HB.out.up hu18
  have hc0 := hB8.c0
  have hc1 := hB8.c1
  have hc2 := hB8.c2
  have hc3 := hB8.c3
  clear hB8
  have il8 := il4.up (((hu5.trans hu6).trans hu7).trans hu8)
  have im8 := im4.up (((hu5.trans hu6).trans hu7).trans hu8)
  go_wp2_with fail
  refine (both_calls m u q' b' L M gl gm cl cm _ (by omega) (by omega) (by omega) HVL.out HML.out (bnd_small L m u HVL.out (by omega) (by omega) HVS.out) (bnd_small M m u HML.out (by omega) (by omega) HMS.out) il8 im8).mono ?_
  rintro e w9 ⟨v9, rfl, ho9, hu9⟩
  obtain ⟨gs, cs, rfl, _, is9⟩ := ho9.is (ne_nil_of_length (plusI_length _ _ _ _) (by omega))
  rw [plusI_length]
  have hu19 := hu18.trans hu9
  clear ho9 hc0 hc1 hc2 hc3
  have il9 := il8.up hu9
  have im9 := im8.up hu9
  have HSk : Hid (secI (keyL d.data.toList m) m = secI (keyL d.data.toList m) m) := rfl
  rcases HCm.out with ⟨f1, f2, f3⟩ | ⟨f1, f2⟩
  rotate_left
  · rw [show ((2 + 2 + R : Nat) : Int) = 4 + (R : Int) by omega] at f1
    rw [f1]
    have hub := hu19
    have ilb := il9
    have imb := im9
    clear hu4 hu5 hu6 hu7 hu8 hu9 hu15 hu16 hu17 hu18 hu19 il4 im4 il8 im8 il9 im9 is9 HAd HCame HCm HC2 f1 f2
    generalize w9 = wb at hub ilb imb ⊢
    go_wp2_with fail
    refine (keepPick_calls o 40 _ ho ho2 (by omega) (by omega)).mono ?_
    rintro e wp ⟨kk, hkk, rfl, rfl⟩
    go_wp2_with fail
    go_loopw [12, 15, 21, 22] (fun sl sh sn si wr => ∃ (j : Int) (a c : Nat) (L' ms : List Int) (C' : List UInt8) (E : Nat), -1 ≤ j ∧ j ≤ 40 ∧ si = .int .i64 j ∧ sn = .int .i64 (E : Int) ∧ sh = .string ⟨C'.toArray⟩ ∧ sl = .slice (some ⟨a, 0, none⟩) m c ∧ Hid (IsCT m u q' (secI (keyL d.data.toList m) m) C' ms E) ∧ Hid (decI m u ms = L') ∧ Hid (L'.length = m) ∧ Hid (∀ i, i < m → 0 ≤ L'.getD i 0 ∧ L'.getD i 0 < (u : Int)) ∧ IsI wr a L' ∧ Up wp wr) (fun _ _ _ si _ => (intOf si + 1).toNat)
    case atStart => exact ⟨kk, gl, cl, L, _, C, 2, by omega, by omega, rfl, rfl, rfl, rfl, HC1.out, HDE1.out, HVL.out, HVS.out, ilb, Up.refl _⟩
    case round =>
      obtain ⟨j, a, c, L', ms, C', E, hj1, hj2, rfl, rfl, rfl, rfl, HCT, HDec, HLen, HSm, iL, hur⟩ := hrel
      have hu1r := hub.trans hur
      have hBr := HB.out.up hu1r
      have hc0 := hBr.c0
      have hc1 := hBr.c1
      have hc2 := hBr.c2
      have hc3 := hBr.c3
      have hc5 := hBr.c5
      clear hBr
      by_cases hj : 0 ≤ j
      · have hElt := fits_lt (by omega) (by omega) HCT.out.fits
        have HAP : Hid (∀ W, Calls Try.prog 43 #[.agg #[.int .i64 m, .int .i64 u, .int .i64 q', .int .i64 b'], .string ⟨C'.toArray⟩, .string ⟨(textsL 2 M).toArray⟩] W fun e w' => e = .returned (.tuple #[.string ⟨(addPlainL m u q' C' (textsL 2 M)).1.toArray⟩, .int .i64 (addPlainL m u q' C' (textsL 2 M)).2]) ∧ Up W w') := fun W => by
          have h256 : ((256 ^ 2 : Nat) : Int) = 65536 := by decide
          have := AddPlain_ok m u q' b' ⟨C'.toArray⟩ ⟨(textsL 2 M).toArray⟩ W (size_ct HCT.out (by omega)) (size_texts M m HML.out (by omega)) P.out.nt P.out.q1 P.out.q2 P.out.good (by rw [bytes_back]; exact HCT.out.ct) (by rw [bytes_back]; exact okL_texts M m 2 u HML.out HMS.out (by omega))
          rw [bytes_back, bytes_back] at this
          exact this
        have HTx : Hid (∀ W, IsI W gm M → Calls Try.prog 50 #[.slice (some ⟨gm, 0, none⟩) m cm] W fun e w' => e = .returned (.string ⟨(textsL 2 M).toArray⟩) ∧ Up W w') := fun W hi => keepText_calls m M gm cm W HML.out (by omega) (fun i hi => by have := HMS.out i hi; omega) hi
        have HCm2 : Hid _ := HP0.out _ C' ms M E HCT.out HML.out HMS.out
        generalize addPlainL m u q' C' (textsL 2 M) = r2 at HAP HCm2
        generalize (⟨(textsL 2 M).toArray⟩ : ByteArray) = TM at HAP HTx
        have HCame2 : Hid (∀ W, BoxAt W g m u q' b' (keyL d.data.toList m) → Calls Try.prog 47 #[.pointer (some ⟨g, 0, none⟩), .string ⟨r2.1.toArray⟩, .int .i64 r2.2, .int .i64 ((E : Int) + (R : Int))] W fun e w' => e = .returned (.bool (fitsB u q' ((E + R : Nat) : Int))) ∧ Up W w') := fun W hW => by
          have := came_both (g := g) (k := keyL d.data.toList m) P.out (by omega) HCm2.out W hW
          rw [show ((E + R : Nat) : Int) = (E : Int) + (R : Int) by omega] at this ⊢
          exact this
        have imr := imb.up hur
        go_wp2_with fail
        go_region_held3 (fun w' => w'.cell? ⟨g, 0, none⟩ = some (.int .i64 (m : Int)) ∧ w'.cell? ⟨g, 1, none⟩ = some (.int .i64 (u : Int)) ∧ w'.cell? ⟨g, 2, none⟩ = some (.int .i64 q') ∧ w'.cell? ⟨g, 3, none⟩ = some (.int .i64 b'))
          (first | go_keep | exact keepC4 hua2 (by assumption) | exact keepC4 hua1 (by assumption))
          ((first | (go_at_call 50; refine Calls.mono (HTx.out _ (by exact imr.up (Up.drew (Up.refl _)))) ?_; rintro e wa1 ⟨rfl, hua1⟩) | (go_at_call 43; refine Calls.mono (HAP.out _) ?_; rintro e wa2 ⟨rfl, hua2⟩)))
        have hura : Up wr wa2 := Up.trans (Up.trans (Up.drew (Up.refl _)) hua1) hua2
        have hu1a := hu1r.trans hura
        clear hua1 hua2 hc0 hc1 hc2 hc3 hc5 imr
        go_wp2_with fail
        refine Calls.mono (HCame2.out _ (HB.out.up hu1a)) ?_
        rintro e wc ⟨rfl, huc⟩
        have hurc := hura.trans huc
        have hu1c := hu1r.trans hurc
        have hBc := HB.out.up hu1c
        have hc0 := hBc.c0
        have hc1 := hBc.c1
        have hc2 := hBc.c2
        have hc3 := hBc.c3
        have hc5 := hBc.c5
        clear hBc
        rcases HCm2.out with ⟨k1, k2, k3⟩ | ⟨k1, k2⟩
        · skip
          rw [k1]
          have HC4 : Hid _ := k3
          clear k1 k2 k3 hc5
          go_wp2_with fail
          refine (both_calls m u q' b' L' M a gm c cm _ (by omega) (by omega) (by omega) HLen.out HML.out (bnd_small L' m u HLen.out (by omega) (by omega) HSm.out) (bnd_small M m u HML.out (by omega) (by omega) HMS.out) (iL.up hurc) ((imb.up hur).up hurc)).mono ?_
          rintro e wd ⟨vd, rfl, hod, hud⟩
          obtain ⟨ga, ca, rfl, _, ia⟩ := hod.is (ne_nil_of_length (plusI_length _ _ _ _) (by omega))
          rw [plusI_length]
          have HD4 : Hid (decI m u (plusI m ms (encI m u M) u) = plusI m L' M u) := show _ = _ by rw [dec_plus (by omega), HDec.out, HDE2.out]
          have hu1d := hu1c.trans hud
          clear hod hc0 hc1 hc2 hc3
          go_wp2_with fail
          refine (opens_box g m u q' b' (keyL d.data.toList m) r2.1 _ (plusI m L' M u) (E + R) ga ca _ P.out HSec.out (HB.out.up hu1d) HC4.out HD4.out ia).mono ?_
          rintro e we ⟨rfl, hue⟩
          go_wp2_with fail
          go_roundw
          case rel => exact ⟨j - 1, ga, ca, plusI m L' M u, _, r2.1, E + R, by omega, by omega, by go_num, by go_num, rfl, rfl, HC4.out, HD4.out, plusI_length _ _ _ _, small_plus m L' M u (by omega), ia.up hue, (hur.trans hurc).trans (hud.trans hue)⟩
          case measure => simp [intOf]; omega
        · skip
          rw [k1]
          clear k1 k2 hc0 hc1 hc2 hc3
          go_wp2_with fail
          go_ret
          exact ⟨rfl, (((Up.refl _).alloc _).trans hu1).trans hu1c⟩
      · clear hc0 hc1 hc2 hc3
        go_wp2_with fail
        go_ret
        exact ⟨rfl, (((Up.refl _).alloc _).trans hu1).trans hu1r⟩
  · rw [show ((2 + 2 + R : Nat) : Int) = 4 + (R : Int) by omega] at f1
    rw [f1]
    have HC3 : Hid _ := f3
    go_wp2_with fail
    refine (opens_box g m u q' b' (keyL d.data.toList m) r.1 _ (plusI m L M u) (2 + 2 + R) gs cs _ P.out HSec.out (HB.out.up hu19) HC3.out (by rw [dec_plus (by omega), HDE1.out, HDE2.out]) is9).mono ?_
    rintro e wb ⟨rfl, hub'⟩
    have hub := hu19.trans hub'
    have ilb := il9.up hub'
    have imb := im9.up hub'
    clear hu4 hu5 hu6 hu7 hu8 hu9 hu15 hu16 hu17 hu18 hu19 il4 im4 il8 im8 il9 im9 is9 HAd HCame HCm HC2 HC3 f1 f2 f3 hub'
    go_wp2_with fail
    refine (keepPick_calls o 40 _ ho ho2 (by omega) (by omega)).mono ?_
    rintro e wp ⟨kk, hkk, rfl, rfl⟩
    go_wp2_with fail
    go_loopw [12, 15, 21, 22] (fun sl sh sn si wr => ∃ (j : Int) (a c : Nat) (L' ms : List Int) (C' : List UInt8) (E : Nat), -1 ≤ j ∧ j ≤ 40 ∧ si = .int .i64 j ∧ sn = .int .i64 (E : Int) ∧ sh = .string ⟨C'.toArray⟩ ∧ sl = .slice (some ⟨a, 0, none⟩) m c ∧ Hid (IsCT m u q' (secI (keyL d.data.toList m) m) C' ms E) ∧ Hid (decI m u ms = L') ∧ Hid (L'.length = m) ∧ Hid (∀ i, i < m → 0 ≤ L'.getD i 0 ∧ L'.getD i 0 < (u : Int)) ∧ IsI wr a L' ∧ Up wp wr) (fun _ _ _ si _ => (intOf si + 1).toNat)
    case atStart => exact ⟨kk, gl, cl, L, _, C, 2, by omega, by omega, rfl, rfl, rfl, rfl, HC1.out, HDE1.out, HVL.out, HVS.out, ilb, Up.refl _⟩
    case round =>
      obtain ⟨j, a, c, L', ms, C', E, hj1, hj2, rfl, rfl, rfl, rfl, HCT, HDec, HLen, HSm, iL, hur⟩ := hrel
      have hu1r := hub.trans hur
      have hBr := HB.out.up hu1r
      have hc0 := hBr.c0
      have hc1 := hBr.c1
      have hc2 := hBr.c2
      have hc3 := hBr.c3
      have hc5 := hBr.c5
      clear hBr
      by_cases hj : 0 ≤ j
      · have hElt := fits_lt (by omega) (by omega) HCT.out.fits
        have HAP : Hid (∀ W, Calls Try.prog 43 #[.agg #[.int .i64 m, .int .i64 u, .int .i64 q', .int .i64 b'], .string ⟨C'.toArray⟩, .string ⟨(textsL 2 M).toArray⟩] W fun e w' => e = .returned (.tuple #[.string ⟨(addPlainL m u q' C' (textsL 2 M)).1.toArray⟩, .int .i64 (addPlainL m u q' C' (textsL 2 M)).2]) ∧ Up W w') := fun W => by
          have h256 : ((256 ^ 2 : Nat) : Int) = 65536 := by decide
          have := AddPlain_ok m u q' b' ⟨C'.toArray⟩ ⟨(textsL 2 M).toArray⟩ W (size_ct HCT.out (by omega)) (size_texts M m HML.out (by omega)) P.out.nt P.out.q1 P.out.q2 P.out.good (by rw [bytes_back]; exact HCT.out.ct) (by rw [bytes_back]; exact okL_texts M m 2 u HML.out HMS.out (by omega))
          rw [bytes_back, bytes_back] at this
          exact this
        have HTx : Hid (∀ W, IsI W gm M → Calls Try.prog 50 #[.slice (some ⟨gm, 0, none⟩) m cm] W fun e w' => e = .returned (.string ⟨(textsL 2 M).toArray⟩) ∧ Up W w') := fun W hi => keepText_calls m M gm cm W HML.out (by omega) (fun i hi => by have := HMS.out i hi; omega) hi
        have HCm2 : Hid _ := HP0.out _ C' ms M E HCT.out HML.out HMS.out
        generalize addPlainL m u q' C' (textsL 2 M) = r2 at HAP HCm2
        generalize (⟨(textsL 2 M).toArray⟩ : ByteArray) = TM at HAP HTx
        have HCame2 : Hid (∀ W, BoxAt W g m u q' b' (keyL d.data.toList m) → Calls Try.prog 47 #[.pointer (some ⟨g, 0, none⟩), .string ⟨r2.1.toArray⟩, .int .i64 r2.2, .int .i64 ((E : Int) + (R : Int))] W fun e w' => e = .returned (.bool (fitsB u q' ((E + R : Nat) : Int))) ∧ Up W w') := fun W hW => by
          have := came_both (g := g) (k := keyL d.data.toList m) P.out (by omega) HCm2.out W hW
          rw [show ((E + R : Nat) : Int) = (E : Int) + (R : Int) by omega] at this ⊢
          exact this
        have imr := imb.up hur
        go_wp2_with fail
        go_region_held3 (fun w' => w'.cell? ⟨g, 0, none⟩ = some (.int .i64 (m : Int)) ∧ w'.cell? ⟨g, 1, none⟩ = some (.int .i64 (u : Int)) ∧ w'.cell? ⟨g, 2, none⟩ = some (.int .i64 q') ∧ w'.cell? ⟨g, 3, none⟩ = some (.int .i64 b'))
          (first | go_keep | exact keepC4 hua2 (by assumption) | exact keepC4 hua1 (by assumption))
          ((first | (go_at_call 50; refine Calls.mono (HTx.out _ (by exact imr.up (Up.drew (Up.refl _)))) ?_; rintro e wa1 ⟨rfl, hua1⟩) | (go_at_call 43; refine Calls.mono (HAP.out _) ?_; rintro e wa2 ⟨rfl, hua2⟩)))
        have hura : Up wr wa2 := Up.trans (Up.trans (Up.drew (Up.refl _)) hua1) hua2
        have hu1a := hu1r.trans hura
        clear hua1 hua2 hc0 hc1 hc2 hc3 hc5 imr
        go_wp2_with fail
        refine Calls.mono (HCame2.out _ (HB.out.up hu1a)) ?_
        rintro e wc ⟨rfl, huc⟩
        have hurc := hura.trans huc
        have hu1c := hu1r.trans hurc
        have hBc := HB.out.up hu1c
        have hc0 := hBc.c0
        have hc1 := hBc.c1
        have hc2 := hBc.c2
        have hc3 := hBc.c3
        have hc5 := hBc.c5
        clear hBc
        rcases HCm2.out with ⟨k1, k2, k3⟩ | ⟨k1, k2⟩
        · skip
          rw [k1]
          have HC4 : Hid _ := k3
          clear k1 k2 k3 hc5
          go_wp2_with fail
          refine (both_calls m u q' b' L' M a gm c cm _ (by omega) (by omega) (by omega) HLen.out HML.out (bnd_small L' m u HLen.out (by omega) (by omega) HSm.out) (bnd_small M m u HML.out (by omega) (by omega) HMS.out) (iL.up hurc) ((imb.up hur).up hurc)).mono ?_
          rintro e wd ⟨vd, rfl, hod, hud⟩
          obtain ⟨ga, ca, rfl, _, ia⟩ := hod.is (ne_nil_of_length (plusI_length _ _ _ _) (by omega))
          rw [plusI_length]
          have HD4 : Hid (decI m u (plusI m ms (encI m u M) u) = plusI m L' M u) := show _ = _ by rw [dec_plus (by omega), HDec.out, HDE2.out]
          have hu1d := hu1c.trans hud
          clear hod hc0 hc1 hc2 hc3
          go_wp2_with fail
          refine (opens_box g m u q' b' (keyL d.data.toList m) r2.1 _ (plusI m L' M u) (E + R) ga ca _ P.out HSec.out (HB.out.up hu1d) HC4.out HD4.out ia).mono ?_
          rintro e we ⟨rfl, hue⟩
          go_wp2_with fail
          go_roundw
          case rel => exact ⟨j - 1, ga, ca, plusI m L' M u, _, r2.1, E + R, by omega, by omega, by go_num, by go_num, rfl, rfl, HC4.out, HD4.out, plusI_length _ _ _ _, small_plus m L' M u (by omega), ia.up hue, (hur.trans hurc).trans (hud.trans hue)⟩
          case measure => simp [intOf]; omega
        · skip
          rw [k1]
          clear k1 k2 hc0 hc1 hc2 hc3
          go_wp2_with fail
          go_ret
          exact ⟨rfl, (((Up.refl _).alloc _).trans hu1).trans hu1c⟩
      · clear hc0 hc1 hc2 hc3
        go_wp2_with fail
        go_ret
        exact ⟨rfl, (((Up.refl _).alloc _).trans hu1).trans hu1r⟩

end Go.Proofs.Ytcjhgbljhpflfaa
