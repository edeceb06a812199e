/-
  Walks: the program's Linear of a layer, and its call Linear.
  Walks: the program's call Linear.
-/
import Derived.Test.YtcjhgbljhpflfabGreatCodeLd
import Derived.Test.YtcjhgbljhpflfabGreatCodeLw
import Derived.Test.YtcjhgbljhpflfabGreatCodeLa
namespace Go.Proofs.YtcjhgbljhpflfabGreat
open Go.RowKit
set_option linter.unusedVariables false
set_option maxRecDepth 100000

/-- the values that Linear adds -/
theorem lin_vals (n : Nat) (t : Int) (l : List UInt8) (ss ks : List Int) : plusI n (appI n t l ss) (scaledI n ks (-1) t) t = lessI n (appI n t l ss) ks t := by
  refine list_same (n := n) (plusI_length _ _ _ _) (lessI_length _ _ _ _) fun i hi => ?_
  rw [plusI, getD_range hi, plusC, scaledI, getD_range hi, scaledC, lessI, getD_range hi, lessC, add_mod_right]
  congr 1
  omega

set_option maxHeartbeats 8000000 in
theorem lin_out (n t d L : Nat) (q b : Int) (l x s m k : List UInt8) (bb : Bool) (sh : Int) (H cap : Nat) (gs caps : Nat → Nat) (gb cb g0 c0 g1 c1 gS cS gM cM H2 cap2 : Nat) (gs2 caps2 : Nat → Nat) (w : World) (g : NT n t) (hd : n / 2 = d) (hq : 2 ≤ q) (hq2 : q ≤ 1073741823) (hb : 1 ≤ b) (hb2 : b ≤ 8) (hL : DigOf q b L) (hl : layB l n t = true) (hx : ctB x n t q = true) (hs : okL s n 2 t = true) (hm : okL m n 2 t = true) (hk : tnB k (2 * n * L) q = true)
    (hR : RowsAt w H d d gs caps (matR n l)) (ib : IsI w gb (biasI n l)) (i0 : IsI w g0 (ct0 x n)) (i1 : IsI w g1 (ct1 x n)) (iS : IsI w gS (numsL s 2 n)) (iM : IsI w gM (numsL m 2 n)) (hR2 : RowsAt w H2 (2 * L) n gs2 caps2 (tkP k n)) (hcS : n ≤ cS) :
    Calls Tryz.prog 38 #[.agg #[.int .i64 n, .int .i64 t, .int .i64 q, .int .i64 b], .agg #[.bool bb, .int .i64 sh, .slice (some ⟨H, 0, none⟩) d cap, .slice (some ⟨gb, 0, none⟩) n cb], .agg #[.int .i64 (ctE x : Nat), .slice (some ⟨g0, 0, none⟩) n c0, .slice (some ⟨g1, 0, none⟩) n c1], .slice (some ⟨gS, 0, none⟩) n cS, .slice (some ⟨gM, 0, none⟩) n cM, .slice (some ⟨H2, 0, none⟩) L cap2] w fun r w' => Out n t q (linL n t q b L l x s m k).1 (linL n t q b L l x s m k).2 r w' ∧ Up w w' := by
  have ht := g.t3
  have ht2 := g.ht
  have hhf := g.half
  have h256 : ((256 ^ 2 : Nat) : Int) = 65536 := by decide
  have hsb := numsL_lt s 2 n t hs
  have hmb := numsL_lt m 2 n t hm
  have lS := numsL_length s 2 n
  have lM := numsL_length m 2 n
  have HH : Hid (∀ W, RowsAt W H d d gs caps (matR n l) → IsI W g0 (ct0 x n) → IsI W g1 (ct1 x n) → RowsAt W H2 (2 * L) n gs2 caps2 (tkP k n) → Calls Tryz.prog 91 #[.agg #[.int .i64 n, .int .i64 t, .int .i64 q, .int .i64 b], .slice (some ⟨H, 0, none⟩) d cap, .agg #[.int .i64 (ctE x : Nat), .slice (some ⟨g0, 0, none⟩) n c0, .slice (some ⟨g1, 0, none⟩) n c1], .slice (some ⟨H2, 0, none⟩) L cap2] W fun r w' => Out n t q (linS n t q b L l k x (n / 2 - 1)).2.1 (linS n t q b L l k x (n / 2 - 1)).2.2 r w' ∧ Up W w') := fun W h1 h2 h3 h4 => hid_out n t d L q b l x k H cap gs caps g0 c0 g1 c1 H2 cap2 gs2 caps2 W g hd hq hq2 hb hb2 hL hl hx hk h1 h2 h3 h4
  have HLin : Hid (linL n t q b L l x s m k = if (linS n t q b L l k x (n / 2 - 1)).2.2 = 0 then addPlainA n t q (linS n t q b L l k x (n / 2 - 1)).2.1 (textsL 2 (lessI n (appI n t l (numsL s 2 n)) (numsL m 2 n) t)) else ([], 4)) := rfl
  have hls := lessI_lt n (appI n t l (numsL s 2 n)) (numsL m 2 n) (t : Int) (by omega)
  have hll := lessI_length n (appI n t l (numsL s 2 n)) (numsL m 2 n) (t : Int)
  have hV := lin_vals n (t : Int) l (numsL s 2 n) (numsL m 2 n)
  have HPl : Hid (∀ y, ctB y n t q = true → addPlainA n t q y (textsL 2 (lessI n (appI n t l (numsL s 2 n)) (numsL m 2 n) t)) = addPlainL n t q y (textsL 2 (lessI n (appI n t l (numsL s 2 n)) (numsL m 2 n) t))) := fun y hy => by
    unfold addPlainA
    rw [if_pos hy, if_pos (okL_texts _ n 2 t hll hls (by omega))]
  have HAP : Hid (∀ (y : List UInt8) W (g0 c0 g1 c1 gv cv : Nat), ctB y n t q = true → IsI W gv (lessI n (appI n t l (numsL s 2 n)) (numsL m 2 n) t) → IsI W g0 (ct0 y n) → IsI W g1 (ct1 y n) → Calls Tryz.prog 94 #[.agg #[.int .i64 n, .int .i64 t, .int .i64 q, .int .i64 b], .agg #[.int .i64 (ctE y : Nat), .slice (some ⟨g0, 0, none⟩) n c0, .slice (some ⟨g1, 0, none⟩) n c1], .slice (some ⟨gv, 0, none⟩) n cv] W fun r w' => Out n t q (addPlainL n t q y (textsL 2 (lessI n (appI n t l (numsL s 2 n)) (numsL m 2 n) t))).1 (addPlainL n t q y (textsL 2 (lessI n (appI n t l (numsL s 2 n)) (numsL m 2 n) t))).2 r w' ∧ Up W w') := fun y W g0 c0 g1 c1 gv cv hy h1 h2 h3 => addPlain_out n t q b y _ g0 c0 g1 c1 gv cv W g hq hq2 hy hll hls h1 h2 h3
  have HWe : Hid (∀ W, RowsAt W H d d gs caps (matR n l) → IsI W gb (biasI n l) → IsI W gS (numsL s 2 n) → Calls Tryz.prog 92 #[.agg #[.int .i64 n, .int .i64 t, .int .i64 q, .int .i64 b], .agg #[.bool bb, .int .i64 sh, .slice (some ⟨H, 0, none⟩) d cap, .slice (some ⟨gb, 0, none⟩) n cb], .slice (some ⟨gS, 0, none⟩) n cS] W fun e w' => ∃ g' c', e = .returned (.slice (some ⟨g', 0, none⟩) n c') ∧ IsI w' g' (appI n t l (numsL s 2 n)) ∧ Up W w') := fun W h1 h2 h3 => by
    refine (weighed_calls n t d q b l bb sh H cap gs caps gb cb gS cS _ W g hd lS hsb h1 h2 h3 hcS).mono ?_
    rintro e w' ⟨g', c', _, rfl, i, hu⟩
    exact ⟨g', c', rfl, i, hu⟩
  have HSu : Hid (∀ W (g' c' : Nat), IsI W g' (appI n t l (numsL s 2 n)) → IsI W gM (numsL m 2 n) → Calls Tryz.prog 93 #[.slice (some ⟨g', 0, none⟩) n c', .slice (some ⟨gM, 0, none⟩) n cM, .int .i64 t] W fun e w' => ∃ g2 c2, e = .returned (.slice (some ⟨g2, 0, none⟩) n c2) ∧ IsI w' g2 (lessI n (appI n t l (numsL s 2 n)) (numsL m 2 n) t) ∧ Up W w') := fun W g' c' h1 h2 => by
    refine (ringSub_calls n _ (numsL m 2 n) g' gM c' cM t W (by omega) (by omega) (appI_length _ _ _ _) lM (by omega) (by omega) (appI_bnd _ _ _ _ _ (by omega) (by omega)) (fun i => by
      rcases Nat.lt_or_ge i n with c | c
      · have := hmb i c; omega
      · rw [getD_out _ _ (by rw [lM]; exact c)]; omega) h1 h2).mono ?_
    rintro e w' ⟨v, rfl, ho, hu⟩
    obtain ⟨g2, c2, rfl, _, i⟩ := ho.is (ne_nil_of_length (plusI_length _ _ _ _) (by omega))
    rw [plusI_length]
    rw [hV] at i
    exact ⟨g2, c2, rfl, i, hu⟩
  generalize lessI n (appI n t l (numsL s 2 n)) (numsL m 2 n) t = VV at HLin HPl HAP HSu
  generalize appI n t l (numsL s 2 n) = V2 at HWe HSu
  generalize linS n t q b L l k x (n / 2 - 1) = LS at HH HLin
  generalize hans : linL n t q b L l x s m k = ans at HLin
  clear hans
  have HRR : Hid _ := hR
  have HR2 : Hid _ := hR2
  have HLn : Hid (∀ y, (ct0 y n).length = n ∧ (ct1 y n).length = n) := fun y => ⟨ct0_length y n, ct1_length y n⟩
  generalize numsL s 2 n = ss at HWe iS
  generalize numsL m 2 n = ks at HSu iM
  generalize ctE x = Ex at HH
  have hn4 : 4 ≤ n := by omega
  clear hL hl hx hs hm hk hR hR2 hsb hmb hls hll hV lS lM h256
  obtain ⟨W, hW⟩ : ∃ W, W = (((w.alloc (.cells #[.int .i64 n, .int .i64 t, .int .i64 q, .int .i64 b] 28)).alloc (.cells #[.bool bb, .int .i64 sh, .slice (some ⟨H, 0, none⟩) d cap, .slice (some ⟨gb, 0, none⟩) n cb] 80)).alloc (.cells #[.int .i64 Ex, .slice (some ⟨g0, 0, none⟩) n c0, .slice (some ⟨g1, 0, none⟩) n c1] 84)).alloc (.cells #[.int .i64 0, .slice none 0 0, .slice none 0 0] 84) := ⟨_, rfl⟩
  have huW : Up w W := by rw [hW]; exact ((((Up.refl _).alloc _).alloc _).alloc _).alloc _
  have HsW : Hid (W.heap.size = w.heap.size + 4) := show W.heap.size = w.heap.size + 4 by rw [hW]; simp
  have hS0 : W.cell? ⟨w.heap.size, 0, none⟩ = some (.int .i64 (n : Int)) := by rw [hW]; simp [go_sem]
  have hS1 : W.cell? ⟨w.heap.size, 1, none⟩ = some (.int .i64 (t : Int)) := by rw [hW]; simp [go_sem]
  have hS2 : W.cell? ⟨w.heap.size, 2, none⟩ = some (.int .i64 q) := by rw [hW]; simp [go_sem]
  have hS3 : W.cell? ⟨w.heap.size, 3, none⟩ = some (.int .i64 b) := by rw [hW]; simp [go_sem]
  have hL0 : W.cell? ⟨w.heap.size + 1, 0, none⟩ = some (.bool bb) := by rw [hW]; simp [go_sem]
  have hL1 : W.cell? ⟨w.heap.size + 1, 1, none⟩ = some (.int .i64 sh) := by rw [hW]; simp [go_sem]
  have hL2 : W.cell? ⟨w.heap.size + 1, 2, none⟩ = some (.slice (some ⟨H, 0, none⟩) d cap) := by rw [hW]; simp [go_sem]
  have hL3 : W.cell? ⟨w.heap.size + 1, 3, none⟩ = some (.slice (some ⟨gb, 0, none⟩) n cb) := by rw [hW]; simp [go_sem]
  have hX0 : W.cell? ⟨w.heap.size + 2, 0, none⟩ = some (.int .i64 (Ex : Int)) := by rw [hW]; simp [go_sem]
  have hX1 : W.cell? ⟨w.heap.size + 2, 1, none⟩ = some (.slice (some ⟨g0, 0, none⟩) n c0) := by rw [hW]; simp [go_sem]
  have hX2 : W.cell? ⟨w.heap.size + 2, 2, none⟩ = some (.slice (some ⟨g1, 0, none⟩) n c1) := by rw [hW]; simp [go_sem]
  have HK0 : Hid (W.cell? ⟨w.heap.size + 3, 0, none⟩ = some (.int .i64 0)) := show W.cell? ⟨w.heap.size + 3, 0, none⟩ = some (.int .i64 0) from by rw [hW]; simp [go_sem]
  have HK1 : Hid (W.cell? ⟨w.heap.size + 3, 1, none⟩ = some (.slice none 0 0)) := show W.cell? ⟨w.heap.size + 3, 1, none⟩ = some (.slice none 0 0) from by rw [hW]; simp [go_sem]
  have HK2 : Hid (W.cell? ⟨w.heap.size + 3, 2, none⟩ = some (.slice none 0 0)) := show W.cell? ⟨w.heap.size + 3, 2, none⟩ = some (.slice none 0 0) from by rw [hW]; simp [go_sem]
  have HZ : Hid (∀ o, W.frozen? ⟨w.heap.size + 3, o, none⟩ = false) := show ∀ o, W.frozen? ⟨w.heap.size + 3, o, none⟩ = false from fun o => by rw [hW]; simp [go_sem]
  have KS0 : Hid _ := hS0
  have KS1 : Hid _ := hS1
  have KS2 : Hid _ := hS2
  have KS3 : Hid _ := hS3
  have KL0 : Hid _ := hL0
  have KL1 : Hid _ := hL1
  have KL2 : Hid _ := hL2
  have KL3 : Hid _ := hL3
  go_enter Tryz.func38, Tryz.ntmps38
  go_wp2_with fail
  rw [← hW]
  clear hW
  refine Calls.mono (HH.out _ (HRR.out.up huW) (i0.up huW) (i1.up huW) (HR2.out.up huW)) ?_
  rintro r w1 ⟨ho1, hu1⟩
  clear hS0 hS1 hS2 hS3 hL0 hL1 hL2 hL3 hX0 hX1 hX2
  rcases ho1 with ⟨hm0, hmc, hmt, h0, k0, h1, k1, rfl, j0, j1⟩ | ⟨hm0, rfl⟩
  · have HAy : Hid _ := fun W' => HAP.out LS.2.1 W' h0 k0 h1 k1
    have HR2' : Hid (ans = addPlainL n t q LS.2.1 (textsL 2 VV)) := show _ = _ by rw [HLin.out, if_pos hm0, HPl.out _ hmc]
    have Hmc : Hid _ := hmc
    generalize addPlainL n t q LS.2.1 (textsL 2 VV) = Sm at HAy HR2'
    generalize ctE LS.2.1 = Em at HAy ⊢
    generalize ct0 LS.2.1 n = M0 at HAy j0
    generalize ct1 LS.2.1 n = M1 at HAy j1
    obtain ⟨W1, hW1⟩ : ∃ W', W' = w1.alloc (.cells #[.int .i64 (Em : Int), .slice (some ⟨h0, 0, none⟩) n k0, .slice (some ⟨h1, 0, none⟩) n k1] 84) := ⟨_, rfl⟩
    have huA : Up w1 W1 := by rw [hW1]; exact (Up.refl _).alloc _
    have KT0 : Hid (W1.cell? ⟨w1.heap.size, 0, none⟩ = some (.int .i64 (Em : Int))) := show W1.cell? ⟨w1.heap.size, 0, none⟩ = some (.int .i64 (Em : Int)) from by rw [hW1]; simp
    have KT1 : Hid (W1.cell? ⟨w1.heap.size, 1, none⟩ = some (.slice (some ⟨h0, 0, none⟩) n k0)) := show W1.cell? ⟨w1.heap.size, 1, none⟩ = some (.slice (some ⟨h0, 0, none⟩) n k0) from by rw [hW1]; simp
    have KT2 : Hid (W1.cell? ⟨w1.heap.size, 2, none⟩ = some (.slice (some ⟨h1, 0, none⟩) n k1)) := show W1.cell? ⟨w1.heap.size, 2, none⟩ = some (.slice (some ⟨h1, 0, none⟩) n k1) from by rw [hW1]; simp
    have huB := hu1.trans huA
    have huw := huW.trans huB
    have hS0 := keepC huB KS0.out
    have hS1 := keepC huB KS1.out
    have hS2 := keepC huB KS2.out
    have hS3 := keepC huB KS3.out
    have hL0 := keepC huB KL0.out
    have hL1 := keepC huB KL1.out
    have hL2 := keepC huB KL2.out
    have hL3 := keepC huB KL3.out
    subst hW1
    clear hm0 hmc hmt
    go_wp2_with fail
    refine Calls.mono (HWe.out _ (HRR.out.up huw) (ib.up huw) (iS.up huw)) ?_
    rintro r w3 ⟨g3, c3, rfl, i3, hu3⟩
    have huB3 := huB.trans hu3
    clear hS0 hS1 hS2 hS3 hL0 hL1 hL2 hL3
    have hS1 := keepC huB3 KS1.out
    go_wp2_with fail
    refine Calls.mono (HSu.out _ g3 c3 i3 (iM.up (huW.trans huB3))) ?_
    rintro r w4 ⟨g4, c4, rfl, i4, hu4⟩
    have huB4 := huB3.trans hu4
    have hA4 : Up (w1.alloc (.cells #[.int .i64 (Em : Int), .slice (some ⟨h0, 0, none⟩) n k0, .slice (some ⟨h1, 0, none⟩) n k1] 84)) w4 := hu3.trans hu4
    clear hS1
    have hS0 := keepC huB4 KS0.out
    have hS1 := keepC huB4 KS1.out
    have hS2 := keepC huB4 KS2.out
    have hS3 := keepC huB4 KS3.out
    have hT0 := keepC hA4 KT0.out
    have hT1 := keepC hA4 KT1.out
    have hT2 := keepC hA4 KT2.out
    go_wp2_with fail
    refine Calls.mono (HAy.out _ g4 c4 Hmc.out i4 (j0.up (huA.trans hA4)) (j1.up (huA.trans hA4))) ?_
    rintro r w5 ⟨ho2, hu5⟩
    have huC := huB4.trans hu5
    have hws := HsW.out
    have hk0 := keepC huC HK0.out
    have hk1 := keepC huC HK1.out
    have hk2 := keepC huC HK2.out
    have hz0 := ((bcell huC).2 _ _ (by omega)).trans (HZ.out 0)
    have hz1 := ((bcell huC).2 _ _ (by omega)).trans (HZ.out 1)
    have hz2 := ((bcell huC).2 _ _ (by omega)).trans (HZ.out 2)
    have hall : Up w w5 := huW.trans huC
    clear hT0 hT1 hT2 hS0 hS1 hS2 hS3 hws
    rcases ho2 with ⟨hs0, hsc, hst, x0, y0, x1, y1, rfl, l0, l1⟩ | ⟨hs0, rfl⟩
    · have n0 := l0.ne (by rw [ct0_length]; omega) hk1
      have n1 := l1.ne (by rw [ct1_length]; omega) hk1
      go_wp2_with fail
      refine bodyPost_ret (v := .tuple #[.agg #[.int .i64 (ctE Sm.1 : Nat), .slice (some ⟨x0, 0, none⟩) n y0, .slice (some ⟨x1, 0, none⟩) n y1], .bool true]) (by simp [results, Tryz.results38, go_sem, hk0, hk1, hk2]) rfl ⟨?_, ?_⟩
      · rw [HR2'.out]
        exact Or.inl ⟨hs0, hsc, hst, x0, y0, x1, y1, rfl, l0.set3 n0 _ _ _, l1.set3 n1 _ _ _⟩
      · exact Up.set3 hall (by omega) _ _ _
    · go_wp2_with fail
      refine bodyPost_ret (v := .tuple #[.agg #[.int .i64 0, .slice none 0 0, .slice none 0 0], .bool false]) (by simp [results, Tryz.results38, go_sem, hk0, hk1, hk2]) rfl ⟨?_, ?_⟩
      · rw [HR2'.out]
        exact Or.inr ⟨hs0, rfl⟩
      · exact Up.set3 hall (by omega) _ _ _
  · have HR2' : Hid (ans = ([], 4)) := show _ = _ by rw [HLin.out, if_neg (by rw [hm0]; decide)]
    have hws := HsW.out
    obtain ⟨W1, hW1⟩ : ∃ W', W' = w1.alloc (.cells #[.int .i64 0, .slice none 0 0, .slice none 0 0] 84) := ⟨_, rfl⟩
    have huA : Up w1 W1 := by rw [hW1]; exact (Up.refl _).alloc _
    have huC := hu1.trans huA
    have hk0 := keepC huC HK0.out
    have hk1 := keepC huC HK1.out
    have hk2 := keepC huC HK2.out
    have hz0 := ((bcell huC).2 _ _ (by omega)).trans (HZ.out 0)
    have hz1 := ((bcell huC).2 _ _ (by omega)).trans (HZ.out 1)
    have hz2 := ((bcell huC).2 _ _ (by omega)).trans (HZ.out 2)
    have hall : Up w W1 := huW.trans huC
    clear hws
    subst hW1
    go_wp2_with fail
    refine bodyPost_ret (v := .tuple #[.agg #[.int .i64 0, .slice none 0 0, .slice none 0 0], .bool false]) (by simp [results, Tryz.results38, go_sem, hk0, hk1, hk2]) rfl ⟨?_, ?_⟩
    · rw [HR2'.out]
      exact Or.inr ⟨rfl, rfl⟩
    · exact Up.set3 hall (by omega) _ _ _

end Go.Proofs.YtcjhgbljhpflfabGreat

namespace Go.Proofs.YtcjhgbljhpflfabGreat
open Go.RowKit
set_option linter.unusedVariables false
set_option maxRecDepth 100000

end Go.Proofs.YtcjhgbljhpflfabGreat
