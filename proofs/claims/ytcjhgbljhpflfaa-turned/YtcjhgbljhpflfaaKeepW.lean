/-
  Walks: the statement Turned.
-/
import Derived.Test.YtcjhgbljhpflfaaKeepT
import Derived.Test.YtcjhgbljhpflfaaKeepG
import Derived.Test.YtcjhgbljhpflfaaCodeTn
namespace Go.Proofs.Ytcjhgbljhpflfaa
open Go.RowKit
set_option linter.unusedVariables false
set_option maxRecDepth 100000

theorem came_turn {n t : Nat} {q b : Int} (p : GoodP n t q b) (hb : 1 ≤ b) (hb2 : b ≤ 8) (L : Nat) (hL : DigOf q b L) (s : List Int) (x d : List UInt8) (ms : List Int) (E : Nat) (hx : IsCT n t q s x ms E) : Came n t q s (turnL n t q b L x (tkL n s q b d L)) (cubI n ms t) (E + (q % (t : Int)).toNat + tnN n L b) := by
  cases h : fitsB t q ((E + (q % (t : Int)).toNat + tnN n L b : Nat) : Int) with
  | true => exact Or.inl ⟨h, turn_ct p.nt q b p.q1 p.q2 hb hb2 L hL s x d ms E hx h⟩
  | false =>
    refine Or.inr ⟨h, ?_⟩
    unfold turnL tellL
    rw [hx.bound, if_neg (by show ¬ fitsB t q ((E + (q % (t : Int)).toNat + tnN n L b : Nat) : Int) = true; rw [h]; decide)]

theorem tk_size (n : Nat) (ss : List Int) (q b : Int) (l : List UInt8) (L : Nat) (hn : n ≤ 16) (hL : L ≤ 30) : (⟨(tkL n ss q b l L).toArray⟩ : ByteArray).size ≤ maxLen := by
  show (tkL n ss q b l L).toArray.size ≤ _
  have h1 : 8 * n * L ≤ 128 * 30 := Nat.mul_le_mul (by omega) hL
  rw [List.size_toArray, tkL_length]; unfold maxLen; omega

theorem key_size (l : List UInt8) (n : Nat) (hn : n ≤ 16) : (⟨(keyL l n).toArray⟩ : ByteArray).size ≤ maxLen := by
  show (keyL l n).toArray.size ≤ _
  rw [List.size_toArray, keyL_length]; unfold maxLen; omega

set_option maxHeartbeats 8000000 in
theorem Turned_calls (n t q b : Int) (d v x y : ByteArray) (o : Int) (w : World) (hd : d.size ≤ maxLen) (hv : v.size ≤ maxLen) (hx : x.size ≤ maxLen) (hy : y.size ≤ maxLen) (hn : -9223372036854775808 ≤ n) (hn2 : n ≤ 9223372036854775807) (ho : -9223372036854775808 ≤ o) (ho2 : o ≤ 9223372036854775807) :
    Calls Try.prog 14 #[.agg #[.int .i64 n, .int .i64 t, .int .i64 q, .int .i64 b, .string d], .string v, .string x, .string y, .int .i64 o] w fun e w' => e = .returned (.bool true) ∧ Up w w' := by
  go_enter Try.func14, Try.ntmps14
  go_wp2_with fail
  refine (begin_calls n t q b d _ hd hn hn2).mono ?_
  rintro e w1 ⟨g, m, u, q', b', p, rfl, hB1, hu1⟩
  have P : Hid _ := p
  obtain ⟨hd1, hd2, hd3⟩ := p.nt.half
  have ht := p.nt.t3
  have ht2 := p.nt.ht
  have hq1 := p.q1
  have hq2 := p.q2
  have hb1 : 1 ≤ b' := (goodB_NT p.good).2.2.2.2.2.1
  have hb2 : b' ≤ 8 := (goodB_NT p.good).2.2.2.2.2.2.1
  obtain ⟨L, hL⟩ := dig_ex q' b' hq1 hq2 hb1
  have hL30 := hL.le hb1 hq2
  have HLd : Hid _ := hL
  have HN : Hid _ := p.nt.hn
  have HB : Hid _ := hB1
  have HSec : Hid _ := sec_key d.data.toList m
  have HVL : Hid _ := valsI_length m u v.data.toList
  have HVS : Hid _ := valsI_small m u v.data.toList (by omega)
  have hm := mod_bounds (show (0 : Int) < (u : Int) by omega) q'
  have hR : q' % (u : Int) = ((q' % (u : Int)).toNat : Int) := by omega
  have hRb : (q' % (u : Int)).toNat ≤ 1021 := by omega
  have HT0 : Hid (∀ (x : List UInt8) (ms : List Int) (E : Nat), IsCT m u q' (secI (keyL d.data.toList m) m) x ms E → Came m u q' (secI (keyL d.data.toList m) m) (turnL m u q' b' L x (tkL m (secI (keyL d.data.toList m) m) q' b' y.data.toList L)) (cubI m ms u) (E + (q' % (u : Int)).toNat + tnN m L b')) := fun x ms E h => came_turn P.out hb1 hb2 L HLd.out _ x y.data.toList ms E h
  have eR : q'.tmod (u : Int) = ((q' % (u : Int)).toNat : Int) := by rw [Int.tmod_eq_emod_of_nonneg (by omega)]; exact hR
  generalize (q' % (u : Int)).toNat = R at eR hRb HT0
  have HTK : Hid (∀ W, Calls Try.prog 26 #[.agg #[.int .i64 m, .int .i64 u, .int .i64 q', .int .i64 b'], .string ⟨(keyL d.data.toList m).toArray⟩, .string y] W fun e w' => e = .returned (.tuple #[.string ⟨(tkL m (secI (keyL d.data.toList m) m) q' b' y.data.toList L).toArray⟩, .int .i64 0]) ∧ Up W w') := fun W => by
    have := TurnKey_ok m L u q' b' ⟨(keyL d.data.toList m).toArray⟩ y W (key_size _ _ (by omega)) hy HN.out hq1 hq2 hb1 hb2 HLd.out P.out.good (by rw [bytes_back]; exact HSec.out)
    rw [bytes_back] at this
    exact this
  have HTn : Hid (∀ (C : List UInt8) (ms : List Int) (E : Nat) W, IsCT m u q' (secI (keyL d.data.toList m) m) C ms E → Calls Try.prog 52 #[.agg #[.int .i64 m, .int .i64 u, .int .i64 q', .int .i64 b'], .string ⟨C.toArray⟩, .string ⟨(tkL m (secI (keyL d.data.toList m) m) q' b' y.data.toList L).toArray⟩] W fun e w' => e = .returned (.tuple #[.string ⟨(turnL m u q' b' L C (tkL m (secI (keyL d.data.toList m) m) q' b' y.data.toList L)).1.toArray⟩, .int .i64 (turnL m u q' b' L C (tkL m (secI (keyL d.data.toList m) m) q' b' y.data.toList L)).2]) ∧ Up W w') := fun C ms E W h => by
    have := Turn_ok m u L q' b' ⟨C.toArray⟩ ⟨(tkL m (secI (keyL d.data.toList m) m) q' b' y.data.toList L).toArray⟩ W (size_ct h (by omega)) (tk_size _ _ _ _ _ _ (by omega) hL30) P.out.nt hq1 hq2 hb1 hb2 HLd.out P.out.good (by rw [bytes_back]; exact h.ct) (by rw [bytes_back]; exact tn_ok m _ q' b' _ L (by omega) (by omega) (by omega))
    rw [bytes_back, bytes_back] at this
    exact this
  have HDg : Hid (∀ W, Calls Try.prog 54 #[.agg #[.int .i64 m, .int .i64 u, .int .i64 q', .int .i64 b']] W fun e w' => e = .returned (.int .i64 L) ∧ Up W w') := fun W => keepDigits_calls L m u q' b' W hq1 hq2 hb1 hb2 HLd.out
  have hB1p := (pow_b b' hb1 hb2).2.1
  have hB2p := (pow_b b' hb1 hb2).2.2
  have hTb := tnN_le m L b' (by omega) hL30 hb1 hb2
  have HE : Hid ((tnN m L b' : Int) = (L : Int) * (m : Int) * ((2 : Int) ^ b'.toNat - 1) * 2) := by
    show ((L * m * ((2 : Int) ^ b'.toNat - 1).toNat * 2 : Nat) : Int) = _
    rw [Int.natCast_mul, Int.natCast_mul, Int.natCast_mul, show ((((2 : Int) ^ b'.toNat - 1).toNat : Nat) : Int) = (2 : Int) ^ b'.toNat - 1 by omega]
    rfl
  generalize tnN m L b' = TN at HE hTb HT0
  have hLn : (L : Int) * (m : Int) ≤ 30 * 16 := Int.mul_le_mul (by omega) (by omega) (by omega) (by omega)
  have hLn0 : 0 ≤ (L : Int) * (m : Int) := Int.mul_nonneg (by omega) (by omega)
  have e1 : IntKind.i64.wrap ((L : Int) * (m : Int)) = (L : Int) * (m : Int) := IntWalk.i64_in _ (by omega)
  obtain ⟨M, hM⟩ : ∃ M, M = (L : Int) * (m : Int) := ⟨_, rfl⟩
  rw [← hM] at hLn hLn0 HE
  replace e1 : IntKind.i64.wrap ((L : Int) * (m : Int)) = M := by rw [e1, hM]
  have hMB : M * ((2 : Int) ^ b'.toNat - 1) ≤ 480 * 255 := Int.mul_le_mul (by omega) (by omega) (by omega) (by omega)
  have hMB0 : 0 ≤ M * ((2 : Int) ^ b'.toNat - 1) := Int.mul_nonneg (by omega) (by omega)
  obtain ⟨K, hK⟩ : ∃ K, K = M * ((2 : Int) ^ b'.toNat - 1) := ⟨_, rfl⟩
  rw [← hK] at hMB hMB0 HE
  have e2 : IntKind.i64.wrap (M * ((2 : Int) ^ b'.toNat - 1)) = K := by rw [← hK]; exact IntWalk.i64_in _ (by omega)
  have e4 : IntKind.i64.wrap (K * 2) = (TN : Int) := by rw [HE.out]; exact IntWalk.i64_in _ (by omega)
  have e0 : IntKind.i64.wrap ((2 : Int) ^ b'.toNat) = 2 ^ b'.toNat := IntWalk.i64_in _ (by omega)
  have e3 : IntKind.i64.wrap ((2 : Int) ^ b'.toNat - 1) = 2 ^ b'.toNat - 1 := IntWalk.i64_in _ (by omega)
  have EQ : Hid (IntKind.i64.wrap ((L : Int) * (m : Int)) = M ∧ IntKind.i64.wrap (M * ((2 : Int) ^ b'.toNat - 1)) = K ∧ IntKind.i64.wrap (K * 2) = (TN : Int) ∧ IntKind.i64.wrap ((2 : Int) ^ b'.toNat) = 2 ^ b'.toNat ∧ IntKind.i64.wrap ((2 : Int) ^ b'.toNat - 1) = 2 ^ b'.toNat - 1) := ⟨e1, e2, e4, e0, e3⟩
  have ER : Hid _ := eR
  have et1 : ¬ (u : Int) = 0 := by omega
  have et2 : ¬ u = 0 := by omega
  have et0 : ((u : Int) == 0) = false := beq_eq_false_iff_ne.2 et1
  clear hm hR hL hM hK e1 e2 e3 e4 e0 eR HE
  have hc0 := hB1.c0
  have hc1 := hB1.c1
  have hc2 := hB1.c2
  have hc3 := hB1.c3
  clear p hB1
  go_wp2_with fail
  refine (values_calls m u q' b' v _ hv (by omega) (by omega) (by omega)).mono ?_
  rintro e w2 ⟨v2, rfl, ho2', hu2⟩
  obtain ⟨gl, cl, rfl, _, il⟩ := ho2'.is (ne_nil_of_length (valsI_length _ _ _) (by omega))
  rw [valsI_length]
  clear ho2' hc0 hc1 hc2 hc3
  generalize valsI m u v.data.toList = V at il HVL HVS
  go_wp2_with fail
  refine (hide_box g m u q' b' (keyL d.data.toList m) V gl cl x _ hx P.out HSec.out (HB.out.up hu2) HVL.out HVS.out il).mono ?_
  rintro e w3 ⟨rfl, hu3⟩
  have HC1 : Hid _ := hide_vals P.out (keyL d.data.toList m) x.data.toList V HVL.out HVS.out
  have HDE1 : Hid _ := dec_enc P.out.nt V HVL.out HVS.out
  generalize hideL m u q' (keyL d.data.toList m) (textsL 2 V) x.data.toList = C at HC1
  have hu13 := hu2.trans hu3
  have il3 := il.up hu3
  have hB3 := HB.out.up hu13
  have hc0 := hB3.c0
  have hc1 := hB3.c1
  have hc2 := hB3.c2
  have hc3 := hB3.c3
  have hc4 := hB3.c4
  clear hB3 il hu2 hu3
  generalize (⟨(tkL m (secI (keyL d.data.toList m) m) q' b' y.data.toList L).toArray⟩ : ByteArray) = TK at HTK HTn
  generalize hKe : (⟨(keyL d.data.toList m).toArray⟩ : ByteArray) = KK at HTK hc4
  have HKe : Hid _ := hKe
  clear hKe
  go_wp2_with fail
  go_region_held3 (fun w' => w'.cell? ⟨g, 0, none⟩ = some (.int .i64 (m : Int)) ∧ w'.cell? ⟨g, 1, none⟩ = some (.int .i64 (u : Int)) ∧ w'.cell? ⟨g, 2, none⟩ = some (.int .i64 q') ∧ w'.cell? ⟨g, 3, none⟩ = some (.int .i64 b') ∧ w'.cell? ⟨g, 4, none⟩ = some (.string KK))
    (first | go_keep | exact keepC5 hu4 (by assumption))
    ((first | (go_at_call 26; refine Calls.mono (HTK.out _) ?_; rintro e w4 ⟨rfl, hu4⟩)))
  have hub : Up w1 w4 := hu13.trans (Up.trans (Up.drew (Up.refl _)) hu4)
  have ilb : IsI w4 gl V := il3.up (Up.trans (Up.drew (Up.refl _)) hu4)
  clear hc0 hc1 hc2 hc3 hc4 hu4 hu13 il3
  go_wp2_with fail
  refine (must_calls g _).mono ?_
  rintro e w5 ⟨rfl, rfl⟩
  go_wp2_with fail
  refine (keepPick_calls o 20 _ ho ho2 (by omega) (by omega)).mono ?_
  rintro e wp ⟨kk, hkk, rfl, rfl⟩
  go_wp2_with fail
  go_loopw [12, 13, 16, 17] (fun sl sh sn si wr => ∃ (j : Int) (a c : Nat) (L' ms : List Int) (C' : List UInt8) (E : Nat), -1 ≤ j ∧ j ≤ 20 ∧ si = .int .i64 j ∧ sn = .int .i64 (E : Int) ∧ sh = .string ⟨C'.toArray⟩ ∧ sl = .slice (some ⟨a, 0, none⟩) m c ∧ Hid (IsCT m u q' (secI (keyL d.data.toList m) m) C' ms E) ∧ Hid (decI m u ms = L') ∧ Hid (L'.length = m) ∧ Hid (∀ i, i < m → 0 ≤ L'.getD i 0 ∧ L'.getD i 0 < (u : Int)) ∧ IsI wr a L' ∧ Up wp wr) (fun _ _ _ si _ => (intOf si + 1).toNat)
  case atStart => exact ⟨kk, gl, cl, V, _, C, 2, by omega, by omega, rfl, rfl, rfl, rfl, HC1.out, HDE1.out, HVL.out, HVS.out, ilb, Up.refl _⟩
  case round =>
    obtain ⟨j, a, c, L', ms, C', E, hj1, hj2, rfl, rfl, rfl, rfl, HCT, HDec, HLen, HSm, iL, hur⟩ := hrel
    have hu1r := hub.trans hur
    have hBr := HB.out.up hu1r
    have hc0 := hBr.c0
    have hc1 := hBr.c1
    have hc2 := hBr.c2
    have hc3 := hBr.c3
    have hc5 := hBr.c5
    clear hBr
    by_cases hj : 0 ≤ j
    · have hElt := fits_lt (by omega) (by omega) HCT.out.fits
      have HTr : Hid _ := fun W => HTn.out C' ms E W HCT.out
      have HCm : Hid _ := HT0.out C' ms E HCT.out
      generalize turnL m u q' b' L C' (tkL m (secI (keyL d.data.toList m) m) q' b' y.data.toList L) = r at HTr HCm
      have HCame : Hid (∀ W, BoxAt W g m u q' b' (keyL d.data.toList m) → Calls Try.prog 47 #[.pointer (some ⟨g, 0, none⟩), .string ⟨r.1.toArray⟩, .int .i64 r.2, .int .i64 ((E : Int) + (R : Int) + (TN : Int))] W fun e w' => e = .returned (.bool (fitsB u q' ((E + R + TN : Nat) : Int))) ∧ Up W w') := fun W hW => by
        have := came_both (g := g) (k := keyL d.data.toList m) P.out (by omega) HCm.out W hW
        rw [show ((E + R + TN : Nat) : Int) = (E : Int) + (R : Int) + (TN : Int) by omega] at this ⊢
        exact this
      go_wp2_with fail
      refine Calls.mono (HTr.out _) ?_
      rintro e wa ⟨rfl, hua⟩
      clear hc5
      have hu1a := hu1r.trans hua
      have hBa := HB.out.up hu1a
      clear hc0 hc1 hc2 hc3
      have hc0 := hBa.c0
      have hc1 := hBa.c1
      have hc2 := hBa.c2
      have hc3 := hBa.c3
      clear hBa
      obtain ⟨e1, e2, e4, e0, e3⟩ := EQ.out
      have eR := ER.out
      have e5 : IntKind.i64.wrap ((E : Int) + (R : Int)) = (E : Int) + (R : Int) := IntWalk.i64_in _ (by omega)
      have e6 : IntKind.i64.wrap ((E : Int) + (R : Int) + (TN : Int)) = (E : Int) + (R : Int) + (TN : Int) := IntWalk.i64_in _ (by omega)
      go_wp2_with fail
      go_region_held3 (fun w' => w'.cell? ⟨g, 0, none⟩ = some (.int .i64 (m : Int)) ∧ w'.cell? ⟨g, 1, none⟩ = some (.int .i64 (u : Int)) ∧ w'.cell? ⟨g, 2, none⟩ = some (.int .i64 q') ∧ w'.cell? ⟨g, 3, none⟩ = some (.int .i64 b'))
        (first | go_keep | exact keepC4 hud (by assumption))
        ((first | (go_at_call 54; refine Calls.mono (HDg.out _) ?_; rintro e wd ⟨rfl, hud⟩)))
      have huad : Up wa wd := Up.trans (Up.drew (Up.refl _)) hud
      have hu1d := hu1a.trans huad
      clear e0 e1 e2 e3 e4 e5 e6 eR hud hc0 hc1 hc2 hc3
      go_wp2_with fail
      refine Calls.mono (HCame.out _ (HB.out.up hu1d)) ?_
      rintro e wc ⟨rfl, huc⟩
      have hurc := (hua.trans huad).trans huc
      have hu1c := hu1r.trans hurc
      have hBc := HB.out.up hu1c
      have hc0 := hBc.c0
      have hc1 := hBc.c1
      have hc2 := hBc.c2
      have hc3 := hBc.c3
      have hc5 := hBc.c5
      clear hBc
      rcases HCm.out with ⟨k1, k2, k3⟩ | ⟨k1, k2⟩
      · skip
        rw [k1]
        have HC4 : Hid _ := k3
        clear k1 k2 k3 hc5
        go_wp2_with fail
        refine (ahead_calls m u q' b' L' a c _ HN.out HLen.out (iL.up hurc)).mono ?_
        rintro e wf ⟨vd, rfl, hod, huf⟩
        obtain ⟨ga, ca, rfl, _, ia⟩ := hod.is (ne_nil_of_length (aheadI_length _ _) (by omega))
        rw [aheadI_length]
        have HD4 : Hid (decI m u (cubI m ms u) = aheadI m L') := show _ = _ by rw [dec_cub P.out.nt, HDec.out]
        have hu1f := hu1c.trans huf
        clear hod hc0 hc1 hc2 hc3
        go_wp2_with fail
        refine (opens_box g m u q' b' (keyL d.data.toList m) r.1 _ (aheadI m L') (E + R + TN) ga ca _ P.out HSec.out (HB.out.up hu1f) HC4.out HD4.out ia).mono ?_
        rintro e we ⟨rfl, hue⟩
        go_wp2_with fail
        go_roundw
        case rel => exact ⟨j - 1, ga, ca, aheadI m L', _, r.1, E + R + TN, by omega, by omega, by go_num, by go_num, rfl, rfl, HC4.out, HD4.out, aheadI_length _ _, aheadI_small P.out.nt L' HSm.out, ia.up hue, (hur.trans hurc).trans (huf.trans hue)⟩
        case measure => simp [intOf]; omega
      · skip
        rw [k1]
        clear k1 k2 hc0 hc1 hc2 hc3
        go_wp2_with fail
        go_ret
        exact ⟨rfl, (((Up.refl _).alloc _).trans hu1).trans hu1c⟩
    · clear hc0 hc1 hc2 hc3
      go_wp2_with fail
      go_ret
      exact ⟨rfl, (((Up.refl _).alloc _).trans hu1).trans hu1r⟩

end Go.Proofs.Ytcjhgbljhpflfaa
