/-
  Walks: the statement Bounded.
-/
import Derived.Test.YtcjhgbljhpflfabKeepNb
import Derived.Test.YtcjhgbljhpflfabKeepW
import Derived.Test.YtcjhgbljhpflfabKeepH
namespace Go.Proofs.Ytcjhgbljhpflfab
open Go.RowKit
set_option linter.unusedVariables false
set_option maxRecDepth 100000

set_option maxHeartbeats 16000000 in
theorem Bounded_calls (n t q b : Int) (d v x y : ByteArray) (st : Option Addr) (k c0 : Nat) (w : World) (hd : d.size ≤ maxLen) (hv : v.size ≤ maxLen) (hx : x.size ≤ maxLen) (hy : y.size ≤ maxLen) (hn : -9223372036854775808 ≤ n) (hn2 : n ≤ 9223372036854775807) (hk : k ≤ 9223372036854775807)
    (hst : ∀ i, i < k → ∃ (sb so : Nat) (z : Int), st = some ⟨sb, so, none⟩ ∧ -9223372036854775808 ≤ z ∧ z ≤ 9223372036854775807 ∧ w.cell? ⟨sb, so + i, none⟩ = some (.int .i64 z)) :
    Calls Try.prog 3 #[.agg #[.int .i64 n, .int .i64 t, .int .i64 q, .int .i64 b, .string d], .string v, .string x, .string y, .slice st k c0] w fun e w' => e = .returned (.bool true) ∧ Up w w' := by
  have HSt : Hid _ := hst
  clear hst
  go_enter Try.func3, Try.ntmps3
  go_wp2_with fail
  refine (begin_calls n t q b d _ hd hn hn2).mono ?_
  rintro e w1 ⟨g, m, u, q', b', p, rfl, hB1, hu1⟩
  have P : Hid _ := p
  obtain ⟨hd1, hd2, hd3⟩ := p.nt.half
  have ht := p.nt.t3
  have ht2 := p.nt.ht
  have hq1 := p.q1
  have hq2 := p.q2
  have hb1 : 1 ≤ b' := (goodB_NT p.good).2.2.2.2.2.1
  have hb2 : b' ≤ 8 := (goodB_NT p.good).2.2.2.2.2.2.1
  obtain ⟨L, hL⟩ := dig_ex q' b' hq1 hq2 hb1
  have hL30 := hL.le hb1 hq2
  have HLd : Hid _ := hL
  have HN : Hid _ := p.nt.hn
  have HB : Hid _ := hB1
  have HSec : Hid _ := sec_key d.data.toList m
  have HVL : Hid _ := valsI_length m u v.data.toList
  have HVS : Hid _ := valsI_small m u v.data.toList (by omega)
  have HTK : Hid (∀ W, Calls Try.prog 10 #[.agg #[.int .i64 m, .int .i64 u, .int .i64 q', .int .i64 b'], .string ⟨(keyL d.data.toList m).toArray⟩, .string y] W fun e w' => e = .returned (.tuple #[.string ⟨(tkL m (secI (keyL d.data.toList m) m) q' b' y.data.toList L).toArray⟩, .int .i64 0]) ∧ Up W w') := fun W => by
    have := TurnKey_ok m L u q' b' ⟨(keyL d.data.toList m).toArray⟩ y W (key_size _ _ (by omega)) hy HN.out hq1 hq2 hb1 hb2 HLd.out P.out.good (by rw [bytes_back]; exact HSec.out)
    rw [bytes_back] at this
    exact this
  have HTn : Hid (∀ (C : List UInt8) (ms : List Int) (E : Nat), IsCT m u q' (secI (keyL d.data.toList m) m) C ms E → ∃ (r : List UInt8 × Int) (ms' : List Int) (E' : Nat), Came m u q' (secI (keyL d.data.toList m) m) r ms' E' ∧ ∀ W, Calls Try.prog 13 #[.agg #[.int .i64 m, .int .i64 u, .int .i64 q', .int .i64 b'], .string ⟨C.toArray⟩, .string ⟨(tkL m (secI (keyL d.data.toList m) m) q' b' y.data.toList L).toArray⟩] W fun e w' => e = .returned (.tuple #[.string ⟨r.1.toArray⟩, .int .i64 r.2]) ∧ Up W w') := fun C ms E h => ⟨_, _, _, came_turn P.out hb1 hb2 L HLd.out _ C y.data.toList ms E h, fun W => by
    have := Turn_ok m u L q' b' ⟨C.toArray⟩ ⟨(tkL m (secI (keyL d.data.toList m) m) q' b' y.data.toList L).toArray⟩ W (size_ct h (by omega)) (tk_size _ _ _ _ _ _ (by omega) hL30) P.out.nt hq1 hq2 hb1 hb2 HLd.out P.out.good (by rw [bytes_back]; exact h.ct) (by rw [bytes_back]; exact tn_ok m _ q' b' _ L (by omega) (by omega) (by omega))
    rw [bytes_back, bytes_back] at this
    exact this⟩
  have HAd : Hid (∀ (C D : List UInt8) (ms ls : List Int) (E F : Nat), IsCT m u q' (secI (keyL d.data.toList m) m) C ms E → IsCT m u q' (secI (keyL d.data.toList m) m) D ls F → ∃ (r : List UInt8 × Int) (ms' : List Int) (E' : Nat), Came m u q' (secI (keyL d.data.toList m) m) r ms' E' ∧ ∀ W, Calls Try.prog 16 #[.agg #[.int .i64 m, .int .i64 u, .int .i64 q', .int .i64 b'], .string ⟨C.toArray⟩, .string ⟨D.toArray⟩] W fun e w' => e = .returned (.tuple #[.string ⟨r.1.toArray⟩, .int .i64 r.2]) ∧ Up W w') := fun C D ms ls E F h h2 => ⟨_, _, _, came_add P.out _ C D ms ls E F h h2, fun W => by
    have := Add_ok m u q' b' ⟨C.toArray⟩ ⟨D.toArray⟩ W (size_ct h (by omega)) (size_ct h2 (by omega)) P.out.nt P.out.q1 P.out.q2 P.out.good (by rw [bytes_back]; exact h.ct) (by rw [bytes_back]; exact h2.ct)
    rw [bytes_back, bytes_back] at this
    exact this⟩
  have hc0 := hB1.c0
  have hc1 := hB1.c1
  have hc2 := hB1.c2
  have hc3 := hB1.c3
  clear p hB1 hL
  go_wp2_with fail
  refine (values_calls m u q' b' v _ hv (by omega) (by omega) (by omega)).mono ?_
  rintro e w2 ⟨v2, rfl, ho2', hu2⟩
  obtain ⟨gl, cl, rfl, _, il⟩ := ho2'.is (ne_nil_of_length (valsI_length _ _ _) (by omega))
  rw [valsI_length]
  clear ho2' hc0 hc1 hc2 hc3
  generalize valsI m u v.data.toList = V at il HVL HVS
  have h256 : ((256 ^ 2 : Nat) : Int) = 65536 := by decide
  have HMu : Hid (∀ (C : List UInt8) (ms : List Int) (E : Nat), IsCT m u q' (secI (keyL d.data.toList m) m) C ms E → ∃ (r : List UInt8 × Int) (ms' : List Int) (E' : Nat), Came m u q' (secI (keyL d.data.toList m) m) r ms' E' ∧ ∀ W, Calls Try.prog 14 #[.agg #[.int .i64 m, .int .i64 u, .int .i64 q', .int .i64 b'], .string ⟨C.toArray⟩, .string ⟨(textsL 2 V).toArray⟩] W fun e w' => e = .returned (.tuple #[.string ⟨r.1.toArray⟩, .int .i64 r.2]) ∧ Up W w') := fun C ms E h => ⟨_, _, _, came_mul P.out _ C ms V E h HVL.out HVS.out, fun W => by
    have := MulPlain_ok m u q' b' ⟨C.toArray⟩ ⟨(textsL 2 V).toArray⟩ W (size_ct h (by omega)) (size_texts V m HVL.out (by omega)) P.out.nt P.out.q1 P.out.q2 P.out.good (by rw [bytes_back]; exact h.ct) (by rw [bytes_back]; exact okL_texts V m 2 u HVL.out HVS.out (by omega))
    rw [bytes_back, bytes_back] at this
    exact this⟩
  have HAp : Hid (∀ (C : List UInt8) (ms : List Int) (E : Nat), IsCT m u q' (secI (keyL d.data.toList m) m) C ms E → ∃ (r : List UInt8 × Int) (ms' : List Int) (E' : Nat), Came m u q' (secI (keyL d.data.toList m) m) r ms' E' ∧ ∀ W, Calls Try.prog 17 #[.agg #[.int .i64 m, .int .i64 u, .int .i64 q', .int .i64 b'], .string ⟨C.toArray⟩, .string ⟨(textsL 2 V).toArray⟩] W fun e w' => e = .returned (.tuple #[.string ⟨r.1.toArray⟩, .int .i64 r.2]) ∧ Up W w') := fun C ms E h => ⟨_, _, _, came_addPlain P.out _ C ms V E h HVL.out HVS.out, fun W => by
    have := AddPlain_ok m u q' b' ⟨C.toArray⟩ ⟨(textsL 2 V).toArray⟩ W (size_ct h (by omega)) (size_texts V m HVL.out (by omega)) P.out.nt P.out.q1 P.out.q2 P.out.good (by rw [bytes_back]; exact h.ct) (by rw [bytes_back]; exact okL_texts V m 2 u HVL.out HVS.out (by omega))
    rw [bytes_back, bytes_back] at this
    exact this⟩
  have HTx : Hid (∀ W, IsI W gl V → Calls Try.prog 15 #[.slice (some ⟨gl, 0, none⟩) m cl] W fun e w' => e = .returned (.string ⟨(textsL 2 V).toArray⟩) ∧ Up W w') := fun W hi => keepText_calls m V gl cl W HVL.out (by omega) (fun i hi => by have := HVS.out i hi; omega) hi
  clear h256
  go_wp2_with fail
  refine (hide_box g m u q' b' (keyL d.data.toList m) V gl cl x _ hx P.out HSec.out (HB.out.up hu2) HVL.out HVS.out il).mono ?_
  rintro e w3 ⟨rfl, hu3⟩
  have HC1 : Hid _ := hide_vals P.out (keyL d.data.toList m) x.data.toList V HVL.out HVS.out
  generalize hideL m u q' (keyL d.data.toList m) (textsL 2 V) x.data.toList = C at HC1
  generalize (⟨(textsL 2 V).toArray⟩ : ByteArray) = TM at HMu HAp HTx
  have hu13 := hu2.trans hu3
  have il3 := il.up hu3
  have hB3 := HB.out.up hu13
  have hc0 := hB3.c0
  have hc1 := hB3.c1
  have hc2 := hB3.c2
  have hc3 := hB3.c3
  have hc4 := hB3.c4
  clear hB3 il hu2 hu3
  generalize (⟨(tkL m (secI (keyL d.data.toList m) m) q' b' y.data.toList L).toArray⟩ : ByteArray) = TK at HTK HTn
  generalize hKe : (⟨(keyL d.data.toList m).toArray⟩ : ByteArray) = KK at HTK hc4
  clear hKe
  go_wp2_with fail
  go_region_held3 (fun w' => w'.cell? ⟨g, 0, none⟩ = some (.int .i64 (m : Int)) ∧ w'.cell? ⟨g, 1, none⟩ = some (.int .i64 (u : Int)) ∧ w'.cell? ⟨g, 2, none⟩ = some (.int .i64 q') ∧ w'.cell? ⟨g, 3, none⟩ = some (.int .i64 b') ∧ w'.cell? ⟨g, 4, none⟩ = some (.string KK))
    (first | go_keep | exact keepC5 hu4 (by assumption))
    ((first | (go_at_call 10; refine Calls.mono (HTK.out _) ?_; rintro e w4 ⟨rfl, hu4⟩)))
  have hub : Up w1 w4 := hu13.trans (Up.trans (Up.drew (Up.refl _)) hu4)
  have ilb : IsI w4 gl V := il3.up (Up.trans (Up.drew (Up.refl _)) hu4)
  clear hc0 hc1 hc2 hc3 hc4 hu4 hu13 il3
  go_wp2_with fail
  refine (must_calls g _).mono ?_
  rintro e wb ⟨rfl, rfl⟩
  go_wp2_with fail
  go_loopw [13, 17] (fun sh si wr => ∃ (j : Nat) (ms : List Int) (C' : List UInt8) (E : Nat), j ≤ k ∧ si = .int .i64 (j : Int) ∧ sh = .string ⟨C'.toArray⟩ ∧ Hid (IsCT m u q' (secI (keyL d.data.toList m) m) C' ms E) ∧ Up wb wr) (fun _ si _ => k - (intOf si).toNat)
  case atStart => exact ⟨0, _, C, 2, Nat.zero_le _, rfl, rfl, HC1.out, Up.refl _⟩
  case round =>
    obtain ⟨j, ms, C', E, hj, rfl, rfl, HCT, hur⟩ := hrel
    have hu1r := hub.trans hur
    have hBr := HB.out.up hu1r
    have hc0 := hBr.c0
    have hc1 := hBr.c1
    have hc2 := hBr.c2
    have hc3 := hBr.c3
    have hc5 := hBr.c5
    clear hBr
    by_cases hlt : j < k
    · obtain ⟨sb, so, z, rfl, hz1, hz2, hz3⟩ := HSt.out j hlt
      have hcz := keepC ((((Up.refl _).alloc _).trans hu1).trans hu1r) hz3
      have hi0 : (0 : Int) ≤ (j : Int) := by omega
      have hi1 : (j : Int) < (k : Int) := by omega
      clear hc0 hc1 hc2 hc3
      go_wp2_with fail
      refine (keepPick_calls z 4 _ hz1 hz2 (by omega) (by omega)).mono ?_
      rintro e wr ⟨kk, hkk, rfl, rfl⟩
      clear hcz hc5
      have hBr := HB.out.up hu1r
      have hc0 := hBr.c0
      have hc1 := hBr.c1
      have hc2 := hBr.c2
      have hc3 := hBr.c3
      clear hBr
      have ilr := ilb.up hur
      rcases (show kk = 0 ∨ kk = 1 ∨ kk = 2 ∨ kk = 3 by omega) with rfl | rfl | rfl | rfl
      · obtain ⟨r, ms', E', hcm, hX⟩ := HTn.out C' ms E HCT.out
        have HX : Hid _ := hX
        clear hX
        rcases hcm with ⟨f1, f2, f3⟩ | ⟨f1, f2⟩
        · have HC3 : Hid _ := f3
          rw [f2] at HX
          generalize r.1 = A at HX HC3
          clear f1 f2 f3
          go_wp2_with fail
          refine Calls.mono (HX.out _) ?_
          rintro e wa ⟨rfl, hua⟩
          clear hc0 hc1 hc2 hc3
          have hu1a := hu1r.trans hua
          go_wp2_with fail
          refine (must_calls g _).mono ?_
          rintro e wa ⟨rfl, rfl⟩
          go_wp2_with fail
          refine (noise_box g m u q' b' (keyL d.data.toList m) A ms' E' _ P.out HSec.out (HB.out.up hu1a) HC3.out).mono ?_
          rintro e wc ⟨no, rfl, hno1, hno2, huc⟩
          have hu1c := hu1a.trans huc
          go_wp2_with fail
          refine (bound_box g m u q' b' (keyL d.data.toList m) A ms' _ E' _ P.out (HB.out.up hu1c) HC3.out).mono ?_
          rintro e wd ⟨rfl, hud⟩
          have hu1d := hu1c.trans hud
          go_wp2_with fail
          refine (must_calls g _).mono ?_
          rintro e wd ⟨rfl, rfl⟩
          go_wp2_with fail
          go_roundw
          case rel => exact ⟨j + 1, ms', A, E', by omega, by go_num, rfl, HC3.out, ((hur.trans hua).trans huc).trans hud⟩
          case measure => simp [intOf]; omega
        · subst f2
          clear f1
          go_wp2_with fail
          refine Calls.mono (HX.out _) ?_
          rintro e wa ⟨rfl, hua⟩
          clear hc0 hc1 hc2 hc3
          have hu1a := hu1r.trans hua
          have hc5 := (HB.out.up hu1a).c5
          go_wp2_with fail
          go_ret
          exact ⟨rfl, (((Up.refl _).alloc _).trans hu1).trans hu1a⟩
      · obtain ⟨r, ms', E', hcm, hX⟩ := HMu.out C' ms E HCT.out
        have HX : Hid _ := hX
        clear hX
        rcases hcm with ⟨f1, f2, f3⟩ | ⟨f1, f2⟩
        · have HC3 : Hid _ := f3
          rw [f2] at HX
          generalize r.1 = A at HX HC3
          clear f1 f2 f3
          go_wp2_with fail
          go_region_held3 (fun w' => w'.cell? ⟨g, 0, none⟩ = some (.int .i64 (m : Int)) ∧ w'.cell? ⟨g, 1, none⟩ = some (.int .i64 (u : Int)) ∧ w'.cell? ⟨g, 2, none⟩ = some (.int .i64 q') ∧ w'.cell? ⟨g, 3, none⟩ = some (.int .i64 b'))
            (first | go_keep | exact keepC4 hua2 (by assumption) | exact keepC4 hua1 (by assumption))
            ((first | (go_at_call 15; refine Calls.mono (HTx.out _ (by exact ilr.up (Up.drew (Up.refl _)))) ?_; rintro e wa1 ⟨rfl, hua1⟩) | (go_at_call 14; refine Calls.mono (HX.out _) ?_; rintro e wa ⟨rfl, hua2⟩)))
          have hua : Up wr wa := Up.trans (Up.trans (Up.drew (Up.refl _)) hua1) hua2
          clear hc0 hc1 hc2 hc3 hua1 hua2
          have hu1a := hu1r.trans hua
          go_wp2_with fail
          refine (must_calls g _).mono ?_
          rintro e wa ⟨rfl, rfl⟩
          go_wp2_with fail
          refine (noise_box g m u q' b' (keyL d.data.toList m) A ms' E' _ P.out HSec.out (HB.out.up hu1a) HC3.out).mono ?_
          rintro e wc ⟨no, rfl, hno1, hno2, huc⟩
          have hu1c := hu1a.trans huc
          go_wp2_with fail
          refine (bound_box g m u q' b' (keyL d.data.toList m) A ms' _ E' _ P.out (HB.out.up hu1c) HC3.out).mono ?_
          rintro e wd ⟨rfl, hud⟩
          have hu1d := hu1c.trans hud
          go_wp2_with fail
          refine (must_calls g _).mono ?_
          rintro e wd ⟨rfl, rfl⟩
          go_wp2_with fail
          go_roundw
          case rel => exact ⟨j + 1, ms', A, E', by omega, by go_num, rfl, HC3.out, ((hur.trans hua).trans huc).trans hud⟩
          case measure => simp [intOf]; omega
        · subst f2
          clear f1
          go_wp2_with fail
          go_region_held3 (fun w' => w'.cell? ⟨g, 0, none⟩ = some (.int .i64 (m : Int)) ∧ w'.cell? ⟨g, 1, none⟩ = some (.int .i64 (u : Int)) ∧ w'.cell? ⟨g, 2, none⟩ = some (.int .i64 q') ∧ w'.cell? ⟨g, 3, none⟩ = some (.int .i64 b'))
            (first | go_keep | exact keepC4 hua2 (by assumption) | exact keepC4 hua1 (by assumption))
            ((first | (go_at_call 15; refine Calls.mono (HTx.out _ (by exact ilr.up (Up.drew (Up.refl _)))) ?_; rintro e wa1 ⟨rfl, hua1⟩) | (go_at_call 14; refine Calls.mono (HX.out _) ?_; rintro e wa ⟨rfl, hua2⟩)))
          have hua : Up wr wa := Up.trans (Up.trans (Up.drew (Up.refl _)) hua1) hua2
          clear hc0 hc1 hc2 hc3 hua1 hua2
          have hu1a := hu1r.trans hua
          have hc5 := (HB.out.up hu1a).c5
          go_wp2_with fail
          go_ret
          exact ⟨rfl, (((Up.refl _).alloc _).trans hu1).trans hu1a⟩
      · obtain ⟨r, ms', E', hcm, hX⟩ := HAd.out C' C ms _ E 2 HCT.out HC1.out
        have HX : Hid _ := hX
        clear hX
        rcases hcm with ⟨f1, f2, f3⟩ | ⟨f1, f2⟩
        · have HC3 : Hid _ := f3
          rw [f2] at HX
          generalize r.1 = A at HX HC3
          clear f1 f2 f3
          go_wp2_with fail
          refine Calls.mono (HX.out _) ?_
          rintro e wa ⟨rfl, hua⟩
          clear hc0 hc1 hc2 hc3
          have hu1a := hu1r.trans hua
          go_wp2_with fail
          refine (must_calls g _).mono ?_
          rintro e wa ⟨rfl, rfl⟩
          go_wp2_with fail
          refine (noise_box g m u q' b' (keyL d.data.toList m) A ms' E' _ P.out HSec.out (HB.out.up hu1a) HC3.out).mono ?_
          rintro e wc ⟨no, rfl, hno1, hno2, huc⟩
          have hu1c := hu1a.trans huc
          go_wp2_with fail
          refine (bound_box g m u q' b' (keyL d.data.toList m) A ms' _ E' _ P.out (HB.out.up hu1c) HC3.out).mono ?_
          rintro e wd ⟨rfl, hud⟩
          have hu1d := hu1c.trans hud
          go_wp2_with fail
          refine (must_calls g _).mono ?_
          rintro e wd ⟨rfl, rfl⟩
          go_wp2_with fail
          go_roundw
          case rel => exact ⟨j + 1, ms', A, E', by omega, by go_num, rfl, HC3.out, ((hur.trans hua).trans huc).trans hud⟩
          case measure => simp [intOf]; omega
        · subst f2
          clear f1
          go_wp2_with fail
          refine Calls.mono (HX.out _) ?_
          rintro e wa ⟨rfl, hua⟩
          clear hc0 hc1 hc2 hc3
          have hu1a := hu1r.trans hua
          have hc5 := (HB.out.up hu1a).c5
          go_wp2_with fail
          go_ret
          exact ⟨rfl, (((Up.refl _).alloc _).trans hu1).trans hu1a⟩
      · obtain ⟨r, ms', E', hcm, hX⟩ := HAp.out C' ms E HCT.out
        have HX : Hid _ := hX
        clear hX
        rcases hcm with ⟨f1, f2, f3⟩ | ⟨f1, f2⟩
        · have HC3 : Hid _ := f3
          rw [f2] at HX
          generalize r.1 = A at HX HC3
          clear f1 f2 f3
          go_wp2_with fail
          go_region_held3 (fun w' => w'.cell? ⟨g, 0, none⟩ = some (.int .i64 (m : Int)) ∧ w'.cell? ⟨g, 1, none⟩ = some (.int .i64 (u : Int)) ∧ w'.cell? ⟨g, 2, none⟩ = some (.int .i64 q') ∧ w'.cell? ⟨g, 3, none⟩ = some (.int .i64 b'))
            (first | go_keep | exact keepC4 hua2 (by assumption) | exact keepC4 hua1 (by assumption))
            ((first | (go_at_call 15; refine Calls.mono (HTx.out _ (by exact ilr.up (Up.drew (Up.refl _)))) ?_; rintro e wa1 ⟨rfl, hua1⟩) | (go_at_call 17; refine Calls.mono (HX.out _) ?_; rintro e wa ⟨rfl, hua2⟩)))
          have hua : Up wr wa := Up.trans (Up.trans (Up.drew (Up.refl _)) hua1) hua2
          clear hc0 hc1 hc2 hc3 hua1 hua2
          have hu1a := hu1r.trans hua
          go_wp2_with fail
          refine (must_calls g _).mono ?_
          rintro e wa ⟨rfl, rfl⟩
          go_wp2_with fail
          refine (noise_box g m u q' b' (keyL d.data.toList m) A ms' E' _ P.out HSec.out (HB.out.up hu1a) HC3.out).mono ?_
          rintro e wc ⟨no, rfl, hno1, hno2, huc⟩
          have hu1c := hu1a.trans huc
          go_wp2_with fail
          refine (bound_box g m u q' b' (keyL d.data.toList m) A ms' _ E' _ P.out (HB.out.up hu1c) HC3.out).mono ?_
          rintro e wd ⟨rfl, hud⟩
          have hu1d := hu1c.trans hud
          go_wp2_with fail
          refine (must_calls g _).mono ?_
          rintro e wd ⟨rfl, rfl⟩
          go_wp2_with fail
          go_roundw
          case rel => exact ⟨j + 1, ms', A, E', by omega, by go_num, rfl, HC3.out, ((hur.trans hua).trans huc).trans hud⟩
          case measure => simp [intOf]; omega
        · subst f2
          clear f1
          go_wp2_with fail
          go_region_held3 (fun w' => w'.cell? ⟨g, 0, none⟩ = some (.int .i64 (m : Int)) ∧ w'.cell? ⟨g, 1, none⟩ = some (.int .i64 (u : Int)) ∧ w'.cell? ⟨g, 2, none⟩ = some (.int .i64 q') ∧ w'.cell? ⟨g, 3, none⟩ = some (.int .i64 b'))
            (first | go_keep | exact keepC4 hua2 (by assumption) | exact keepC4 hua1 (by assumption))
            ((first | (go_at_call 15; refine Calls.mono (HTx.out _ (by exact ilr.up (Up.drew (Up.refl _)))) ?_; rintro e wa1 ⟨rfl, hua1⟩) | (go_at_call 17; refine Calls.mono (HX.out _) ?_; rintro e wa ⟨rfl, hua2⟩)))
          have hua : Up wr wa := Up.trans (Up.trans (Up.drew (Up.refl _)) hua1) hua2
          clear hc0 hc1 hc2 hc3 hua1 hua2
          have hu1a := hu1r.trans hua
          have hc5 := (HB.out.up hu1a).c5
          go_wp2_with fail
          go_ret
          exact ⟨rfl, (((Up.refl _).alloc _).trans hu1).trans hu1a⟩
    · obtain rfl : j = k := by omega
      clear hc0 hc1 hc2 hc3 hc5
      go_wp2_with fail
      refine (noise_box g m u q' b' (keyL d.data.toList m) C _ 2 _ P.out HSec.out (HB.out.up hu1r) HC1.out).mono ?_
      rintro e wc ⟨no, rfl, hno1, hno3, huc⟩
      have hno2 : no ≤ 2 := by omega
      clear hno3
      have hu1c := hu1r.trans huc
      go_wp2_with fail
      refine (must_calls g _).mono ?_
      rintro e wc ⟨rfl, rfl⟩
      have hc5 := (HB.out.up hu1c).c5
      go_wp2_with fail
      go_ret
      exact ⟨rfl, (((Up.refl _).alloc _).trans hu1).trans hu1c⟩

end Go.Proofs.Ytcjhgbljhpflfab
