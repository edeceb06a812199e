/-
  Walks: the statement Multiplied.
-/
import Derived.Test.YtcjhgbljhpflfaaKeepE
import Derived.Test.YtcjhgbljhpflfaaCodeS
namespace Go.Proofs.Ytcjhgbljhpflfaa
open Go.RowKit
set_option linter.unusedVariables false
set_option maxRecDepth 100000

theorem absS_half (t : Int) (ms : List Int) (n k : Nat) (hk : k ≤ n) (hm : ∀ i, i < n → 0 ≤ ms.getD i 0 ∧ ms.getD i 0 < t) : (absS t ms k : Int) ≤ k * (t / 2) := by
  induction k with
  | zero => simp [absS, sumN]
  | succ k ih =>
    have h1 := ih (by omega)
    have h2 := cenC_bounds t (ms.getD k 0) (hm k (by omega)).1 (hm k (by omega)).2
    rw [absS_succ, Int.natCast_add, show ((k + 1 : Nat) : Int) = (k : Int) + 1 by omega, Int.add_mul, Int.one_mul]
    omega

theorem fitsB_mono {t q e f : Int} (ht : 0 ≤ t) (hef : e ≤ f) (h : fitsB t q e = false) : fitsB t q f = false := by
  have h1 : t * e ≤ t * f := Int.mul_le_mul_of_nonneg_left hef ht
  unfold fitsB at h ⊢
  rw [decide_eq_false_iff_not] at h ⊢
  omega

theorem came_mul {n t : Nat} {q b : Int} (p : GoodP n t q b) (s : List Int) (x : List UInt8) (ms vs : List Int) (E : Nat) (hx : IsCT n t q s x ms E) (hl : vs.length = n) (hv : ∀ i, i < n → 0 ≤ vs.getD i 0 ∧ vs.getD i 0 < (t : Int)) :
    Came n t q s (mulPlainL n t q x (textsL 2 vs)) (timesI n ms (cenI n t (encI n t vs)) t) (absS t (encI n t vs) n * (E + (q % (t : Int)).toNat)) := by
  have h256 : ((256 ^ 2 : Nat) : Int) = 65536 := by decide
  have ht2 := p.nt.ht
  have e := nums_texts vs n 2 t hl hv (by omega)
  cases h : fitsB t q ((absS t (encI n t vs) n * (E + (q % (t : Int)).toNat) : Nat) : Int) with
  | true =>
    have h2 := h
    rw [← e] at h2
    have := mul_ct p.nt q p.q1 p.q2 s x (textsL 2 vs) ms E hx h2
    rw [e] at this
    exact Or.inl ⟨h, this⟩
  | false =>
    refine Or.inr ⟨h, ?_⟩
    unfold mulPlainL tellL
    rw [hx.bound, e, if_neg (by rw [h]; decide)]

/-- the greatest bound -/
theorem most_no {n t : Nat} {q b : Int} (p : GoodP n t q b) (vs : List Int) (R : Nat) (h : fitsB t q ((absS t (encI n t vs) n * (2 + R) : Nat) : Int) = false) : fitsB t q ((n : Int) * ((t : Int) / 2) * (2 + (R : Int))) = false := by
  refine fitsB_mono (by omega) ?_ h
  have h1 := absS_half (t : Int) (encI n t vs) n n (Nat.le_refl _) (encI_lt p.nt vs)
  rw [Int.natCast_mul, show ((2 + R : Nat) : Int) = 2 + (R : Int) by omega]
  exact Int.mul_le_mul_of_nonneg_right h1 (by omega)

theorem prodI_length (n : Nat) (xs ys : List Int) (t : Int) : (prodI n xs ys t).length = n := by simp [prodI]

set_option maxHeartbeats 8000000 in
theorem Multiplied_calls (n t q b : Int) (d v y x : ByteArray) (w : World) (hd : d.size ≤ maxLen) (hv : v.size ≤ maxLen) (hy : y.size ≤ maxLen) (hx : x.size ≤ maxLen) (hn : -9223372036854775808 ≤ n) (hn2 : n ≤ 9223372036854775807) :
    Calls Try.prog 12 #[.agg #[.int .i64 n, .int .i64 t, .int .i64 q, .int .i64 b, .string d], .string v, .string y, .string x] w fun e w' => e = .returned (.bool true) ∧ Up w w' := by
  go_enter Try.func12, Try.ntmps12
  go_wp2_with fail
  refine (begin_calls n t q b d _ hd hn hn2).mono ?_
  rintro e w1 ⟨g, m, u, q', b', p, rfl, hB1, hu1⟩
  have P : Hid _ := p
  obtain ⟨hd1, hd2, hd3⟩ := p.nt.half
  have ht := p.nt.t3
  have ht2 := p.nt.ht
  have hq1 := p.q1
  have hq2 := p.q2
  have HB : Hid _ := hB1
  have HSec : Hid _ := sec_key d.data.toList m
  have HVL : Hid _ := valsI_length m u v.data.toList
  have HVS : Hid _ := valsI_small m u v.data.toList (by omega)
  have HML : Hid _ := valsI_length m u y.data.toList
  have HMS : Hid _ := valsI_small m u y.data.toList (by omega)
  have hc0 := hB1.c0
  have hc1 := hB1.c1
  have hc2 := hB1.c2
  have hc3 := hB1.c3
  clear p hB1
  go_wp2_with fail
  refine (values_calls m u q' b' v _ hv (by omega) (by omega) (by omega)).mono ?_
  rintro e w2 ⟨v2, rfl, ho2', hu2⟩
  obtain ⟨gl, cl, rfl, _, il⟩ := ho2'.is (ne_nil_of_length (valsI_length _ _ _) (by omega))
  rw [valsI_length]
  clear ho2' hc0 hc1 hc2 hc3
  generalize valsI m u v.data.toList = L at il HVL HVS
  have hB2 := HB.out.up hu2
  have hc0 := hB2.c0
  have hc1 := hB2.c1
  have hc2 := hB2.c2
  have hc3 := hB2.c3
  clear hB2
  go_wp2_with fail
  refine (values_calls m u q' b' y _ hy (by omega) (by omega) (by omega)).mono ?_
  rintro e w3 ⟨v3, rfl, ho3, hu3⟩
  obtain ⟨gm, cm, rfl, _, im⟩ := ho3.is (ne_nil_of_length (valsI_length _ _ _) (by omega))
  rw [valsI_length]
  clear ho3 hc0 hc1 hc2 hc3
  generalize valsI m u y.data.toList = M at im HML HMS
  have hu13 := hu2.trans hu3
  have il3 := il.up hu3
  clear il hu2 hu3
  go_wp2_with fail
  refine (hide_box g m u q' b' (keyL d.data.toList m) L gl cl x _ hx P.out HSec.out (HB.out.up hu13) HVL.out HVS.out il3).mono ?_
  rintro e w4 ⟨rfl, hu4⟩
  have HC1 : Hid _ := hide_vals P.out (keyL d.data.toList m) x.data.toList L HVL.out HVS.out
  have HDE1 : Hid _ := dec_enc P.out.nt L HVL.out HVS.out
  have HDE2 : Hid _ := dec_enc P.out.nt M HML.out HMS.out
  generalize hideL m u q' (keyL d.data.toList m) (textsL 2 L) x.data.toList = C at HC1
  have hu14 := hu13.trans hu4
  have hB4 := HB.out.up hu14
  have hc0 := hB4.c0
  have hc1 := hB4.c1
  have hc2 := hB4.c2
  have hc3 := hB4.c3
  clear hB4
  have HAP : Hid (∀ W, Calls Try.prog 45 #[.agg #[.int .i64 m, .int .i64 u, .int .i64 q', .int .i64 b'], .string ⟨C.toArray⟩, .string ⟨(textsL 2 M).toArray⟩] W fun e w' => e = .returned (.tuple #[.string ⟨(mulPlainL m u q' C (textsL 2 M)).1.toArray⟩, .int .i64 (mulPlainL m u q' C (textsL 2 M)).2]) ∧ Up W w') := fun W => by
    have h256 : ((256 ^ 2 : Nat) : Int) = 65536 := by decide
    have := MulPlain_ok m u q' b' ⟨C.toArray⟩ ⟨(textsL 2 M).toArray⟩ W (size_ct HC1.out (by omega)) (size_texts M m HML.out (by omega)) P.out.nt P.out.q1 P.out.q2 P.out.good (by rw [bytes_back]; exact HC1.out.ct) (by rw [bytes_back]; exact okL_texts M m 2 u HML.out HMS.out (by omega))
    rw [bytes_back, bytes_back] at this
    exact this
  have HTx : Hid (∀ W, IsI W gm M → Calls Try.prog 50 #[.slice (some ⟨gm, 0, none⟩) m cm] W fun e w' => e = .returned (.string ⟨(textsL 2 M).toArray⟩) ∧ Up W w') := fun W hi => keepText_calls m M gm cm W HML.out (by omega) (fun i hi => by have := HMS.out i hi; omega) hi
  have HCm : Hid _ := came_mul P.out _ C _ M 2 HC1.out HML.out HMS.out
  generalize mulPlainL m u q' C (textsL 2 M) = r at HAP HCm
  generalize (⟨(textsL 2 M).toArray⟩ : ByteArray) = TM at HAP HTx
  have im4 := im.up hu4
  have il4 := il3.up hu4
  have hm := mod_bounds (show (0 : Int) < (u : Int) by omega) q'
  have hR : q' % (u : Int) = ((q' % (u : Int)).toNat : Int) := by omega
  have hRb : (q' % (u : Int)).toNat ≤ 1021 := by omega
  have eR : q'.tmod (u : Int) = ((q' % (u : Int)).toNat : Int) := by rw [Int.tmod_eq_emod_of_nonneg (by omega)]; exact hR
  generalize (q' % (u : Int)).toNat = R at eR hRb HCm
  have et1 : ¬ (u : Int) = 0 := by omega
  have et2 : ¬ u = 0 := by omega
  have et0 : ((u : Int) == 0) = false := beq_eq_false_iff_ne.2 et1
  clear hm hR
  rcases HCm.out with ⟨f1, f2, f3⟩ | ⟨f1, f2⟩
  · have HC3 : Hid _ := f3
    have HD3 : Hid (decI m u (timesI m (encI m u L) (cenI m u (encI m u M)) u) = prodI m L M u) := show _ = _ by rw [dec_times P.out.nt, HDE1.out, HDE2.out]
    rw [f2] at HAP
    generalize r.1 = A at HAP HC3
    clear f1 f2 f3 eR
    go_wp2_with fail
    go_region_held3 (fun w' => w'.cell? ⟨g, 0, none⟩ = some (.int .i64 (m : Int)) ∧ w'.cell? ⟨g, 1, none⟩ = some (.int .i64 (u : Int)) ∧ w'.cell? ⟨g, 2, none⟩ = some (.int .i64 q') ∧ w'.cell? ⟨g, 3, none⟩ = some (.int .i64 b'))
      (first | go_keep | exact keepC4 hua2 (by assumption) | exact keepC4 hua1 (by assumption))
      ((first | (go_at_call 50; refine Calls.mono (HTx.out _ (by exact im4.up (Up.drew (Up.refl _)))) ?_; rintro e wa1 ⟨rfl, hua1⟩) | (go_at_call 45; refine Calls.mono (HAP.out _) ?_; rintro e wa2 ⟨rfl, hua2⟩)))
    have hu45 : Up w4 wa2 := Up.trans (Up.trans (Up.drew (Up.refl _)) hua1) hua2
    have hu15 := hu14.trans hu45
    clear hua1 hua2 hc0 hc1 hc2 hc3
    go_wp2_with fail
    refine (must_calls g _).mono ?_
    rintro e wb ⟨rfl, rfl⟩
    have il5 := il4.up hu45
    have im5 := im4.up hu45
    have hbl := il5.1
    have hbm := im5.1
    clear hu45 il4 im4 il3 im
    go_wp2_with fail
    go_loopw [17, 18] (fun vv jj wr => ∃ k : Nat, k ≤ m ∧ jj = .int .i64 (k : Int) ∧ OwnI wr wb.heap.size vv ((List.range k).map fun i => L.getD i 0 * M.getD i 0 % (u : Int)) ∧ Up wb wr) (fun _ jj _ => m - (intOf jj).toNat)
    case atStart => exact ⟨0, Nat.zero_le _, rfl, World.ownsRow_nil _ _ _ _, Up.refl _⟩
    case round =>
      obtain ⟨k, hk, rfl, hown, hur⟩ := hrel
      have hBr := HB.out.up (hu15.trans hur)
      have hc0 := hBr.c0
      have hc1 := hBr.c1
      have hc5 := hBr.c5
      have hgb : g < wb.heap.size := World.block_lt_of_cell? wb ⟨g, 0, none⟩ (HB.out.up hu15).c0
      clear hBr
      by_cases hlt : k < m
      · have hca := (il5.up hur).2 k (by rw [HVL.out]; omega)
        have hcb := (im5.up hur).2 k (by rw [HML.out]; omega)
        have hba := HVS.out k hlt
        have hbb := HMS.out k hlt
        have HR : Hid (((List.range (k + 1)).map fun i => L.getD i 0 * M.getD i 0 % (u : Int)) = ((List.range k).map fun i => L.getD i 0 * M.getD i 0 % (u : Int)) ++ [L.getD k 0 * M.getD k 0 % (u : Int)]) := map_range_succ _ _
        generalize L.getD k 0 = xx at hca hba HR
        generalize M.getD k 0 = yy at hcb hbb HR
        have hmul := mul_in2 xx yy 1021 1021 (by omega) (by omega) (by omega) (by omega)
        have hmul0 : 0 ≤ xx * yy := Int.mul_nonneg hba.1 hbb.1
        have e1 : IntKind.i64.wrap (xx * yy) = xx * yy := IntWalk.i64_in _ (by omega)
        have e2 : (xx * yy).tmod (u : Int) = xx * yy % (u : Int) := Int.tmod_eq_emod_of_nonneg hmul0
        generalize xx * yy % (u : Int) = z at e2 HR
        have hi0 : (0 : Int) ≤ (k : Int) := by omega
        have hi1 : (k : Int) < (m : Int) := by omega
        have hcn : (wr.alloc (.cells #[.int .i64 z] 3)).drew.cell? ⟨wr.heap.size, 0, none⟩ = some (.int .i64 z) := by simp
        have hbs := Nat.le_trans hur.size (Up.drew (Up.alloc (Up.refl wr) (.cells #[.int .i64 z] 3))).size
        clear hc5
        go_wp2_with fail
        go_region_held3 (fun w' => w'.cell? ⟨gl, k, none⟩ = some (.int .i64 xx) ∧ w'.cell? ⟨gm, k, none⟩ = some (.int .i64 yy) ∧ w'.cell? ⟨g, 1, none⟩ = some (.int .i64 (u : Int)))
          (first | go_keep | exact keepS3 hb4 hbl hbm hgb (by assumption))
          ((first | (refine step_append_int (wr.alloc (.cells #[.int .i64 z] 3)).drew z wr.heap.size rfl (.tmp 106) (.tmp 122) rfl _ u17 ((List.range k).map fun i => L.getD i 0 * M.getD i 0 % (u : Int)) rfl (hown.up (Up.drew (Up.alloc (Up.refl _) _))) rfl hcn (by simp; omega) hbs ?_; intro v4 w4' hown4 hg4 hb4)))
        clear hcn hbs hca hcb hc0 hc1
        go_wp2_with fail
        go_roundw
        case rel => exact ⟨k + 1, by omega, by go_num, by rw [HR.out]; exact hown4, Below.trans (Up.drew (Below.alloc hur hur.size _)) hb4⟩
        case measure => simp [intOf]; omega
      · obtain rfl : k = m := by omega
        obtain ⟨gp, cp, rfl, _, ip⟩ := hown.is (ne_nil_of_length (prodI_length k L M u) (by omega))
        have HPL : Hid _ := prodI_length k L M u
        rw [show ((List.range k).map fun i => L.getD i 0 * M.getD i 0 % (u : Int)).length = k from HPL.out]
        have ip2 : IsI wr gp (prodI k L M u) := ip
        have hu1r := hu15.trans hur
        clear hc1 hc5 hown ip
        go_wp2_with fail
        refine (opens_box g k u q' b' (keyL d.data.toList k) A _ (prodI k L M u) _ gp cp _ P.out HSec.out (HB.out.up hu1r) HC3.out HD3.out ip2).mono ?_
        rintro e w6 ⟨rfl, hu6⟩
        go_wp2_with fail
        refine (bound_box g k u q' b' (keyL d.data.toList k) A _ _ _ _ P.out (HB.out.up (hu1r.trans hu6)) HC3.out).mono ?_
        rintro e w7 ⟨rfl, hu7⟩
        have hu17 := (hu1r.trans hu6).trans hu7
        have hc5 := (HB.out.up hu17).c5
        go_wp2_with fail
        go_ret
        exact ⟨rfl, (((Up.refl _).alloc _).trans hu1).trans hu17⟩
  · have HMo : Hid _ := most_no P.out M R f1
    subst f2
    have hm1 : 0 ≤ (m : Int) * ((u : Int) / 2) := Int.mul_nonneg (by omega) (by omega)
    have hm2 : (m : Int) * ((u : Int) / 2) ≤ 16 * 510 := Int.mul_le_mul (by omega) (by omega) (by omega) (by omega)
    have hm3 : 0 ≤ (m : Int) * ((u : Int) / 2) * (2 + (R : Int)) := Int.mul_nonneg hm1 (by omega)
    have hm4 : (m : Int) * ((u : Int) / 2) * (2 + (R : Int)) ≤ 16 * 510 * 1023 := Int.mul_le_mul hm2 (by omega) (by omega) (by omega)
    have e1 : IntKind.i64.wrap ((m : Int) * ((u : Int) / 2)) = (m : Int) * ((u : Int) / 2) := IntWalk.i64_in _ (by omega)
    have e2 : IntKind.i64.wrap (2 + (R : Int)) = 2 + (R : Int) := IntWalk.i64_in _ (by omega)
    have e3 : IntKind.i64.wrap ((m : Int) * ((u : Int) / 2) * (2 + (R : Int))) = (m : Int) * ((u : Int) / 2) * (2 + (R : Int)) := IntWalk.i64_in _ (by omega)
    have e4 : IntKind.i64.wrap ((u : Int).tdiv 2) = (u : Int) / 2 := IntWalk.i64_quo _ _ (by omega)
    clear f1
    go_wp2_with fail
    go_region_held3 (fun w' => w'.cell? ⟨g, 0, none⟩ = some (.int .i64 (m : Int)) ∧ w'.cell? ⟨g, 1, none⟩ = some (.int .i64 (u : Int)) ∧ w'.cell? ⟨g, 2, none⟩ = some (.int .i64 q') ∧ w'.cell? ⟨g, 3, none⟩ = some (.int .i64 b'))
      (first | go_keep | exact keepC4 hua2 (by assumption) | exact keepC4 hua1 (by assumption))
      ((first | (go_at_call 50; refine Calls.mono (HTx.out _ (by exact im4.up (Up.drew (Up.refl _)))) ?_; rintro e wa1 ⟨rfl, hua1⟩) | (go_at_call 45; refine Calls.mono (HAP.out _) ?_; rintro e wa2 ⟨rfl, hua2⟩)))
    have hu45 : Up w4 wa2 := Up.trans (Up.trans (Up.drew (Up.refl _)) hua1) hua2
    have hu15 := hu14.trans hu45
    clear hua1 hua2 hc0 hc1 hc2 hc3
    have hB5 := HB.out.up hu15
    have hc0 := hB5.c0
    have hc1 := hB5.c1
    have hc2 := hB5.c2
    have hc3 := hB5.c3
    clear hB5
    go_wp2_with fail
    go_quiet (fail)
    have hu16 : Up w1 (wa2.drewN nq) := Up.drewN hu15
    generalize wa2.drewN nq = w6 at hu16 ⊢
    clear hc0 hc1 hc2 hc3 e1 e2 e3 e4 eR et0 et1 et2
    have hB6 := HB.out.up hu16
    have hc0 := hB6.c0
    have hc1 := hB6.c1
    have hc2 := hB6.c2
    have hc3 := hB6.c3
    clear hB6
    generalize (m : Int) * ((u : Int) / 2) * (2 + (R : Int)) = mo at HMo hm3 hm4 ⊢
    go_wp2_with fail
    refine (keepFits_calls _ _ _ _ _ _ (by omega) (by omega) (by omega) (by omega) (by omega) (by omega)).mono ?_
    rintro e w7 ⟨rfl, hu7⟩
    rw [HMo.out]
    have hu17 := hu16.trans hu7
    have hc5 := (HB.out.up hu17).c5
    clear hc0 hc1 hc2 hc3
    go_wp2_with fail
    go_ret
    exact ⟨rfl, (((Up.refl _).alloc _).trans hu1).trans hu17⟩

end Go.Proofs.Ytcjhgbljhpflfaa
