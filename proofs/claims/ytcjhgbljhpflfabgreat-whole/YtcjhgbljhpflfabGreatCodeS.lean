/-
  Walks: the program's MulPlain.
-/
import Derived.Test.YtcjhgbljhpflfabGreatCodeN
import Derived.Test.YtcjhgbljhpflfabGreatWalksY
namespace Go.Proofs.YtcjhgbljhpflfabGreat
open Go.RowKit
set_option linter.unusedVariables false
set_option maxRecDepth 100000

theorem NT.odd {n t : Nat} (g : NT n t) : t % 2 = 1 := by
  have h := g.hm
  rcases g.hn with rfl | rfl | rfl <;> omega

set_option maxHeartbeats 4000000 in
theorem centred_calls (n t : Nat) (q b : Int) (ss : List Int) (gs cap : Nat) (w : World) (g : NT n t) (hl : ss.length = n) (hx : ∀ i, i < ss.length → 0 ≤ ss.getD i 0 ∧ ss.getD i 0 < 65536) (hi : IsI w gs ss) :
    Calls Tryz.prog 156 #[.agg #[.int .i64 n, .int .i64 t, .int .i64 q, .int .i64 b], .slice (some ⟨gs, 0, none⟩) n cap] w fun e w' => ∃ v, e = .returned v ∧ OwnI w' w.heap.size v (cenI n t (encI n t ss)) ∧ Up w w' := by
  have ht := g.t3
  have ht2 := g.ht
  have hodd := g.odd
  obtain ⟨hd1, hd2, hd3⟩ := g.half
  have HX : Hid _ := hx
  have HL : Hid _ := hl
  have HEB : Hid _ := encI_lt g ss
  have HEL : Hid _ := encI_length n t ss
  clear hx hl
  go_enter Tryz.func156, Tryz.ntmps156
  go_wp2_with fail
  refine (slotEncode_calls n t q b ss gs cap _ g HL.out HX.out (hi.up ((Up.refl _).alloc _))).mono ?_
  rintro e w1 ⟨v1, rfl, ho1, hu1⟩
  obtain ⟨g1, c1, rfl, _, i1⟩ := ho1.is (ne_nil_of_length (encI_length _ _ _) (by omega))
  rw [encI_length]
  clear ho1
  generalize hes : encI n t ss = es at i1 HEB HEL
  have HES : Hid _ := hes
  clear hes
  have hsz : w.heap.size ≤ w1.heap.size := Up.le (((Up.refl w).alloc _).trans hu1)
  go_wp2_with fail
  go_loopw [5, 12] (fun v j wr => ∃ k : Nat, k ≤ n ∧ j = .int .i64 (k : Int) ∧ OwnI wr w1.heap.size v ((List.range k).map fun i => cenC t (es.getD i 0)) ∧ Up w1 wr) (fun _ j _ => n - (intOf j).toNat)
  case atStart => exact ⟨0, Nat.zero_le _, rfl, World.ownsRow_nil _ _ _ _, Up.refl _⟩
  case round =>
    obtain ⟨k, hk, rfl, hown, hur⟩ := hrel
    by_cases hlt : k < n
    · have hcx := (i1.up hur).2 k (by rw [HEL.out]; omega)
      have hxb := HEB.out k hlt
      have HR : Hid (((List.range (k + 1)).map fun i => cenC t (es.getD i 0)) = ((List.range k).map fun i => cenC t (es.getD i 0)) ++ [cenC t (es.getD k 0)]) := map_range_succ _ _
      generalize es.getD k 0 = x at hcx hxb HR
      obtain ⟨hc, hf⟩ := bcell (hu1.trans hur)
      go_wp2_with (first | (go_at_call 149; refine (Centre_calls _ _ _ hxb.1 hxb.2 (by omega) (by omega)).mono ?_; rintro e w' ⟨rfl, rfl⟩) | (at_builtin; refine append_int _ _ rfl _ _ rfl _ _ _ rfl hown rfl (by simp; omega) hur.size ?_))
      intro v4 w4 hown4 hg4 hb4 _
      clear hown hcx hc hf
      go_wp2_with fail
      go_roundw
      case rel => exact ⟨k + 1, by omega, by go_num, by rw [HR.out]; exact hown4, Below.trans hur hb4⟩
      case measure => simp [intOf]; omega
    · obtain rfl : k = n := by omega
      go_wp2_with fail
      go_ret
      exact ⟨_, rfl, by rw [HES.out]; exact hown.base hsz, (((Up.refl _).alloc _).trans hu1).trans hur⟩

/-- the sum of what numbers are without their signs -/
def sizeN (ws : List Int) (k : Nat) : Nat := sumN (fun i => (ws.getD i 0).natAbs) k

theorem sumN_congr {f h : Nat → Nat} {n : Nat} (e : ∀ i, i < n → f i = h i) : sumN f n = sumN h n := by
  induction n with
  | zero => rfl
  | succ n ih => simp only [sumN]; rw [ih (fun i hi => e i (by omega)), e n (by omega)]

theorem sizeN_cen (n : Nat) (t : Int) (ms : List Int) : sizeN (cenI n t ms) n = absS t ms n :=
  sumN_congr fun i hi => by rw [cenI, getD_range hi]

theorem sizeN_le (ws : List Int) (m n k : Nat) (hk : k ≤ n) (h : ∀ i, i < n → (ws.getD i 0).natAbs ≤ m) : sizeN ws k ≤ k * m := by
  induction k with
  | zero => simp [sizeN, sumN]
  | succ k ih =>
    have h1 := ih (by omega)
    have h2 := h k (by omega)
    have e : sizeN ws (k + 1) = sizeN ws k + (ws.getD k 0).natAbs := rfl
    rw [e, Nat.succ_mul]
    omega

set_option maxHeartbeats 1000000 in
theorem size_calls (n : Nat) (ws : List Int) (g cap : Nat) (w : World) (hn : n ≤ 16) (hl : ws.length = n) (hb : ∀ i, i < n → (ws.getD i 0).natAbs ≤ 1048576) (hi : IsI w g ws) :
    Calls Tryz.prog 157 #[.slice (some ⟨g, 0, none⟩) n cap] w fun e w' => e = .returned (.int .i64 (sizeN ws n)) ∧ w' = w := by
  have HL : Hid _ := hl
  have HB : Hid _ := hb
  clear hl hb
  go_enter Tryz.func157, Tryz.ntmps157
  go_wp2
  go_loop [3, 8] (fun v j => ∃ k : Nat, k ≤ n ∧ v = .int .i64 (sizeN ws k : Int) ∧ j = .int .i64 (k : Int)) (fun _ j => n - (intOf j).toNat)
  case atStart => exact ⟨0, Nat.zero_le _, rfl, rfl⟩
  case round =>
    obtain ⟨k, hk, rfl, rfl⟩ := hrel
    have hS := sizeN_le ws 1048576 n k hk HB.out
    have hS2 : k * 1048576 ≤ 16 * 1048576 := Nat.mul_le_mul_right _ (by omega)
    by_cases hlt : k < n
    · have hc := hi.2 k (by rw [HL.out]; omega)
      have hb := HB.out k hlt
      have H : Hid (sizeN ws (k + 1) = sizeN ws k + (ws.getD k 0).natAbs) := rfl
      generalize ws.getD k 0 = x at hc hb H
      generalize sizeN ws k = V at hS H
      by_cases hx : x < 0
      · go_wp2
        go_round
        case rel => exact ⟨k + 1, by omega, by rw [H.out]; go_num, by go_num⟩
        case measure => simp [intOf]; omega
      · go_wp2
        go_round
        case rel => exact ⟨k + 1, by omega, by rw [H.out]; go_num, by go_num⟩
        case measure => simp [intOf]; omega
    · obtain rfl : k = n := by omega
      go_wp2
      go_ret
      exact ⟨rfl, rfl⟩

set_option maxHeartbeats 4000000 in
theorem cipherMulPlain_no (n t E0 : Nat) (q b : Int) (vs : List Int) (g0 c0 g1 c1 gv cv : Nat) (w : World) (g : NT n t) (hq : 2 ≤ q) (hq2 : q ≤ 1073741823) (h0 : (E0 : Int) < q) (hfit : fitsB t q ((absS t (encI n t vs) n * (E0 + (q % (t : Int)).toNat) : Nat) : Int) = false) (lv : vs.length = n) (hbv : ∀ i, i < vs.length → 0 ≤ vs.getD i 0 ∧ vs.getD i 0 < 65536) (iv : IsI w gv vs) :
    Calls Tryz.prog 134 #[.agg #[.int .i64 n, .int .i64 t, .int .i64 q, .int .i64 b], .agg #[.int .i64 E0, .slice (some ⟨g0, 0, none⟩) n c0, .slice (some ⟨g1, 0, none⟩) n c1], .slice (some ⟨gv, 0, none⟩) n cv] w fun r w' => r = .returned (.tuple #[.agg #[.int .i64 0, .slice none 0 0, .slice none 0 0], .bool false]) ∧ Up w w' := by
  have ht := g.t3
  have ht2 := g.ht
  obtain ⟨hd1, hd2, hd3⟩ := g.half
  have hm := mod_bounds (show (0 : Int) < (t : Int) by omega) q
  have HF : Hid _ := hfit
  have HRR : Hid (∀ W, Calls Tryz.prog 133 #[.agg #[.int .i64 n, .int .i64 t, .int .i64 q, .int .i64 b]] W fun r w' => r = .returned (.int .i64 ((q % (t : Int)).toNat : Int)) ∧ Up W w') := fun W => by
    have := Rest_calls n t q b W (by omega) (by omega) (by omega) hq2
    rw [show ((q % (t : Int)).toNat : Int) = q % (t : Int) by omega]
    exact this
  have hRb : (q % (t : Int)).toNat ≤ 1021 := by omega
  generalize (q % (t : Int)).toNat = R at HF HRR hRb
  have LV : Hid _ := lv
  have DV : Hid _ := hbv
  have HEB := encI_lt g vs
  have hWb : ∀ i, i < n → ((cenI n t (encI n t vs)).getD i 0).natAbs ≤ 510 := fun i hi => by
    rw [cenI, getD_range hi]
    have h1 := HEB i hi
    have h2 := cenC_bounds (t : Int) ((encI n t vs).getD i 0) h1.1 h1.2
    omega
  have hSz := sizeN_le (cenI n t (encI n t vs)) 510 n n (Nat.le_refl _) hWb
  have hSz2 : n * 510 ≤ 16 * 510 := Nat.mul_le_mul_right _ (by omega)
  have HWS : Hid (∀ i, i < n → ((cenI n t (encI n t vs)).getD i 0).natAbs ≤ 1048576) := fun i hi => Nat.le_trans (hWb i hi) (by omega)
  have HWB : Hid (Bnd (cenI n t (encI n t vs)) 1073741824) := Bnd_map (by omega) fun i hi => by
    have h1 := HEB i hi
    have h2 := cenC_bounds (t : Int) ((encI n t vs).getD i 0) h1.1 h1.2
    omega
  have HWL : Hid _ := cenI_length n t (encI n t vs)
  have HCen : Hid (∀ W, IsI W gv vs → Calls Tryz.prog 156 #[.agg #[.int .i64 n, .int .i64 t, .int .i64 q, .int .i64 b], .slice (some ⟨gv, 0, none⟩) n cv] W fun e w' => ∃ v, e = .returned v ∧ OwnI w' W.heap.size v (cenI n t (encI n t vs)) ∧ Up W w') := fun W hi => centred_calls n t q b vs gv cv W g LV.out DV.out hi
  rw [← sizeN_cen] at HF
  clear hWb HEB
  generalize cenI n t (encI n t vs) = ws at HF hSz HWS HWB HWL HCen
  have hMul : sizeN ws n * (E0 + R) ≤ 8160 * 1073742844 := Nat.mul_le_mul (by omega) (by omega)
  have hMI : ((sizeN ws n : Nat) : Int) * ((E0 : Int) + (R : Int)) = ((sizeN ws n * (E0 + R) : Nat) : Int) := by rw [Int.natCast_mul, Int.natCast_add]
  have e1 : IntKind.i64.wrap ((E0 : Int) + (R : Int)) = (E0 : Int) + (R : Int) := IntWalk.i64_in _ (by omega)
  have e2 : IntKind.i64.wrap (((sizeN ws n : Nat) : Int) * ((E0 : Int) + (R : Int))) = ((sizeN ws n * (E0 + R) : Nat) : Int) := by rw [hMI]; exact IntWalk.i64_in _ (by omega)
  have HSC : Hid (∀ W gw cw, IsI W gw ws → Calls Tryz.prog 157 #[.slice (some ⟨gw, 0, none⟩) n cw] W fun e w' => e = .returned (.int .i64 (sizeN ws n)) ∧ w' = W) := fun W gw cw hi => size_calls n ws gw cw W (by omega) HWL.out HWS.out hi
  generalize sizeN ws n * (E0 + R) = S at e2 HF hMul
  generalize sizeN ws n = Z at e2 HSC hSz
  clear hm hfit lv hbv hMI hSz
  obtain ⟨W, hW⟩ : ∃ W, W = ((w.alloc (.cells #[.int .i64 n, .int .i64 t, .int .i64 q, .int .i64 b] 28)).alloc (.cells #[.int .i64 E0, .slice (some ⟨g0, 0, none⟩) n c0, .slice (some ⟨g1, 0, none⟩) n c1] 84)).alloc (.cells #[.int .i64 0, .slice none 0 0, .slice none 0 0] 84) := ⟨_, rfl⟩
  have huW : Up w W := by rw [hW]; exact (((Up.refl _).alloc _).alloc _).alloc _
  have hsW : W.heap.size = w.heap.size + 3 := by rw [hW]; simp
  have HS0 : Hid (W.cell? ⟨w.heap.size, 0, none⟩ = some (.int .i64 (n : Int))) := show W.cell? ⟨w.heap.size, 0, none⟩ = some (.int .i64 (n : Int)) from by rw [hW]; simp [go_sem]
  have HS1 : Hid (W.cell? ⟨w.heap.size, 1, none⟩ = some (.int .i64 (t : Int))) := show W.cell? ⟨w.heap.size, 1, none⟩ = some (.int .i64 (t : Int)) from by rw [hW]; simp [go_sem]
  have HS2 : Hid (W.cell? ⟨w.heap.size, 2, none⟩ = some (.int .i64 q)) := show W.cell? ⟨w.heap.size, 2, none⟩ = some (.int .i64 q) from by rw [hW]; simp [go_sem]
  have HS3 : Hid (W.cell? ⟨w.heap.size, 3, none⟩ = some (.int .i64 b)) := show W.cell? ⟨w.heap.size, 3, none⟩ = some (.int .i64 b) from by rw [hW]; simp [go_sem]
  have HX0 : Hid (W.cell? ⟨w.heap.size + 1, 0, none⟩ = some (.int .i64 (E0 : Int))) := show W.cell? ⟨w.heap.size + 1, 0, none⟩ = some (.int .i64 (E0 : Int)) from by rw [hW]; simp [go_sem]
  have HX1 : Hid (W.cell? ⟨w.heap.size + 1, 1, none⟩ = some (.slice (some ⟨g0, 0, none⟩) n c0)) := show W.cell? ⟨w.heap.size + 1, 1, none⟩ = some (.slice (some ⟨g0, 0, none⟩) n c0) from by rw [hW]; simp [go_sem]
  have HX2 : Hid (W.cell? ⟨w.heap.size + 1, 2, none⟩ = some (.slice (some ⟨g1, 0, none⟩) n c1)) := show W.cell? ⟨w.heap.size + 1, 2, none⟩ = some (.slice (some ⟨g1, 0, none⟩) n c1) from by rw [hW]; simp [go_sem]
  have HK0 : Hid (W.cell? ⟨w.heap.size + 2, 0, none⟩ = some (.int .i64 0)) := show W.cell? ⟨w.heap.size + 2, 0, none⟩ = some (.int .i64 0) from by rw [hW]; simp [go_sem]
  have HK1 : Hid (W.cell? ⟨w.heap.size + 2, 1, none⟩ = some (.slice none 0 0)) := show W.cell? ⟨w.heap.size + 2, 1, none⟩ = some (.slice none 0 0) from by rw [hW]; simp [go_sem]
  have HK2 : Hid (W.cell? ⟨w.heap.size + 2, 2, none⟩ = some (.slice none 0 0)) := show W.cell? ⟨w.heap.size + 2, 2, none⟩ = some (.slice none 0 0) from by rw [hW]; simp [go_sem]
  have HZ : Hid (∀ o, W.frozen? ⟨w.heap.size + 2, o, none⟩ = false) := show ∀ o, W.frozen? ⟨w.heap.size + 2, o, none⟩ = false from fun o => by rw [hW]; simp [go_sem]
  have jv := iv.up huW
  go_enter Tryz.func134, Tryz.ntmps134
  go_wp2_with fail
  rw [← hW]
  clear hW
  refine Calls.mono (HCen.out _ jv) ?_
  rintro r w1 ⟨v1, rfl, ho1, hu1⟩
  obtain ⟨gw, cw, rfl, _, iw⟩ := ho1.is (ne_nil_of_length HWL.out (by omega))
  rw [HWL.out]
  clear ho1 jv HCen
  have hT0 := keepC hu1 HS0.out
  have hT1 := keepC hu1 HS1.out
  have hT2 := keepC hu1 HS2.out
  have hT3 := keepC hu1 HS3.out
  have hX0 := keepC hu1 HX0.out
  go_wp2_with fail
  go_region_held3 (fun w' => w'.cell? ⟨w.heap.size, 0, none⟩ = some (.int .i64 (n : Int)) ∧ w'.cell? ⟨w.heap.size, 1, none⟩ = some (.int .i64 (t : Int)) ∧ w'.cell? ⟨w.heap.size, 2, none⟩ = some (.int .i64 q) ∧ w'.cell? ⟨w.heap.size, 3, none⟩ = some (.int .i64 b) ∧ w'.cell? ⟨w.heap.size + 1, 0, none⟩ = some (.int .i64 (E0 : Int)))
    (first | go_keep | exact keepC5 hu2 (by assumption))
    ((first | (go_at_call 157; refine Calls.mono (HSC.out _ _ _ (by exact iw.up (Up.drew (Up.refl _)))) ?_; rintro r w' ⟨rfl, rfl⟩) | (go_at_call 133; refine Calls.mono (HRR.out _) ?_; rintro r w2 ⟨rfl, hu2⟩)))
  have hu12 : Up w1 w2 := Up.trans (Up.drew (Up.refl _)) hu2
  have hu02 := hu1.trans hu12
  clear hu2 e1 e2 hT0 hT1 hT2 hT3 hX0
  have hT0 := keepC hu02 HS0.out
  have hT1 := keepC hu02 HS1.out
  have hT2 := keepC hu02 HS2.out
  have hT3 := keepC hu02 HS3.out
  go_wp2_with fail
  refine (Fits_calls _ _ _ _ _ _ (by omega) (by omega) (by omega) hq2 (by omega)).mono ?_
  rintro r w3 ⟨rfl, hu3⟩
  rw [HF.out]
  have hu03 := hu02.trans hu3
  clear hT0 hT1 hT2 hT3
  have hk0 := keepC hu03 HK0.out
  have hk1 := keepC hu03 HK1.out
  have hk2 := keepC hu03 HK2.out
  have hz0 := ((bcell hu03).2 _ _ (by omega)).trans (HZ.out 0)
  have hz1 := ((bcell hu03).2 _ _ (by omega)).trans (HZ.out 1)
  have hz2 := ((bcell hu03).2 _ _ (by omega)).trans (HZ.out 2)
  go_wp2_with fail
  have hall : Below w.heap.size w w3 := huW.trans hu03
  refine bodyPost_ret (v := .tuple #[.agg #[.int .i64 0, .slice none 0 0, .slice none 0 0], .bool false]) (by simp [results, Tryz.results134, go_sem, hk0, hk1, hk2]) rfl ⟨rfl, ?_⟩
  exact ((hall.setCell (by dsimp only; omega) _).setCell (by dsimp only; omega) _).setCell (by dsimp only; omega) _

set_option maxHeartbeats 4000000 in
theorem cipherMulPlain_ok (n t E0 : Nat) (q b : Int) (a0 a1 vs : List Int) (g0 c0 g1 c1 gv cv : Nat) (w : World) (g : NT n t) (hq : 2 ≤ q) (hq2 : q ≤ 1073741823) (h0 : (E0 : Int) < q) (hfit : fitsB t q ((absS t (encI n t vs) n * (E0 + (q % (t : Int)).toNat) : Nat) : Int) = true) (lv : vs.length = n) (hbv : ∀ i, i < vs.length → 0 ≤ vs.getD i 0 ∧ vs.getD i 0 < 65536) (iv : IsI w gv vs)
    (l0 : a0.length = n) (l1 : a1.length = n) (d0 : Bnd a0 1073741824) (d1 : Bnd a1 1073741824) (i0 : IsI w g0 a0) (i1 : IsI w g1 a1) :
    Calls Tryz.prog 134 #[.agg #[.int .i64 n, .int .i64 t, .int .i64 q, .int .i64 b], .agg #[.int .i64 E0, .slice (some ⟨g0, 0, none⟩) n c0, .slice (some ⟨g1, 0, none⟩) n c1], .slice (some ⟨gv, 0, none⟩) n cv] w fun r w' => ∃ h0 k0 h1 k1, r = .returned (.tuple #[.agg #[.int .i64 ((absS t (encI n t vs) n * (E0 + (q % (t : Int)).toNat) : Nat) : Int), .slice (some ⟨h0, 0, none⟩) n k0, .slice (some ⟨h1, 0, none⟩) n k1], .bool true]) ∧ IsI w' h0 (timesI n a0 (cenI n t (encI n t vs)) q) ∧ IsI w' h1 (timesI n a1 (cenI n t (encI n t vs)) q) ∧ Up w w' := by
  have ht := g.t3
  have ht2 := g.ht
  obtain ⟨hd1, hd2, hd3⟩ := g.half
  have L0 : Hid _ := l0
  have L1 : Hid _ := l1
  have D0 : Hid _ := d0
  have D1 : Hid _ := d1
  clear l0 l1 d0 d1
  rw [← sizeN_cen]
  rw [← sizeN_cen] at hfit
  have hm := mod_bounds (show (0 : Int) < (t : Int) by omega) q
  have HF : Hid _ := hfit
  have HRR : Hid (∀ W, Calls Tryz.prog 133 #[.agg #[.int .i64 n, .int .i64 t, .int .i64 q, .int .i64 b]] W fun r w' => r = .returned (.int .i64 ((q % (t : Int)).toNat : Int)) ∧ Up W w') := fun W => by
    have := Rest_calls n t q b W (by omega) (by omega) (by omega) hq2
    rw [show ((q % (t : Int)).toNat : Int) = q % (t : Int) by omega]
    exact this
  have hRb : (q % (t : Int)).toNat ≤ 1021 := by omega
  generalize (q % (t : Int)).toNat = R at HF HRR hRb ⊢
  have LV : Hid _ := lv
  have DV : Hid _ := hbv
  have HEB := encI_lt g vs
  have hWb : ∀ i, i < n → ((cenI n t (encI n t vs)).getD i 0).natAbs ≤ 510 := fun i hi => by
    rw [cenI, getD_range hi]
    have h1 := HEB i hi
    have h2 := cenC_bounds (t : Int) ((encI n t vs).getD i 0) h1.1 h1.2
    omega
  have hSz := sizeN_le (cenI n t (encI n t vs)) 510 n n (Nat.le_refl _) hWb
  have hSz2 : n * 510 ≤ 16 * 510 := Nat.mul_le_mul_right _ (by omega)
  have HWS : Hid (∀ i, i < n → ((cenI n t (encI n t vs)).getD i 0).natAbs ≤ 1048576) := fun i hi => Nat.le_trans (hWb i hi) (by omega)
  have HWB : Hid (Bnd (cenI n t (encI n t vs)) 1073741824) := Bnd_map (by omega) fun i hi => by
    have h1 := HEB i hi
    have h2 := cenC_bounds (t : Int) ((encI n t vs).getD i 0) h1.1 h1.2
    omega
  have HWL : Hid _ := cenI_length n t (encI n t vs)
  have HCen : Hid (∀ W, IsI W gv vs → Calls Tryz.prog 156 #[.agg #[.int .i64 n, .int .i64 t, .int .i64 q, .int .i64 b], .slice (some ⟨gv, 0, none⟩) n cv] W fun e w' => ∃ v, e = .returned v ∧ OwnI w' W.heap.size v (cenI n t (encI n t vs)) ∧ Up W w') := fun W hi => centred_calls n t q b vs gv cv W g LV.out DV.out hi
  clear hWb HEB
  generalize cenI n t (encI n t vs) = ws at HF hSz HWS HWB HWL HCen ⊢
  have hMul : sizeN ws n * (E0 + R) ≤ 8160 * 1073742844 := Nat.mul_le_mul (by omega) (by omega)
  have hMI : ((sizeN ws n : Nat) : Int) * ((E0 : Int) + (R : Int)) = ((sizeN ws n * (E0 + R) : Nat) : Int) := by rw [Int.natCast_mul, Int.natCast_add]
  have e1 : IntKind.i64.wrap ((E0 : Int) + (R : Int)) = (E0 : Int) + (R : Int) := IntWalk.i64_in _ (by omega)
  have e2 : IntKind.i64.wrap (((sizeN ws n : Nat) : Int) * ((E0 : Int) + (R : Int))) = ((sizeN ws n * (E0 + R) : Nat) : Int) := by rw [hMI]; exact IntWalk.i64_in _ (by omega)
  have HSC : Hid (∀ W gw cw, IsI W gw ws → Calls Tryz.prog 157 #[.slice (some ⟨gw, 0, none⟩) n cw] W fun e w' => e = .returned (.int .i64 (sizeN ws n)) ∧ w' = W) := fun W gw cw hi => size_calls n ws gw cw W (by omega) HWL.out HWS.out hi
  generalize sizeN ws n * (E0 + R) = S at e2 HF hMul ⊢
  generalize sizeN ws n = Z at e2 HSC hSz
  clear hm hfit lv hbv hMI hSz
  obtain ⟨W, hW⟩ : ∃ W, W = ((w.alloc (.cells #[.int .i64 n, .int .i64 t, .int .i64 q, .int .i64 b] 28)).alloc (.cells #[.int .i64 E0, .slice (some ⟨g0, 0, none⟩) n c0, .slice (some ⟨g1, 0, none⟩) n c1] 84)).alloc (.cells #[.int .i64 0, .slice none 0 0, .slice none 0 0] 84) := ⟨_, rfl⟩
  have huW : Up w W := by rw [hW]; exact (((Up.refl _).alloc _).alloc _).alloc _
  have hsW : W.heap.size = w.heap.size + 3 := by rw [hW]; simp
  have HS0 : Hid (W.cell? ⟨w.heap.size, 0, none⟩ = some (.int .i64 (n : Int))) := show W.cell? ⟨w.heap.size, 0, none⟩ = some (.int .i64 (n : Int)) from by rw [hW]; simp [go_sem]
  have HS1 : Hid (W.cell? ⟨w.heap.size, 1, none⟩ = some (.int .i64 (t : Int))) := show W.cell? ⟨w.heap.size, 1, none⟩ = some (.int .i64 (t : Int)) from by rw [hW]; simp [go_sem]
  have HS2 : Hid (W.cell? ⟨w.heap.size, 2, none⟩ = some (.int .i64 q)) := show W.cell? ⟨w.heap.size, 2, none⟩ = some (.int .i64 q) from by rw [hW]; simp [go_sem]
  have HS3 : Hid (W.cell? ⟨w.heap.size, 3, none⟩ = some (.int .i64 b)) := show W.cell? ⟨w.heap.size, 3, none⟩ = some (.int .i64 b) from by rw [hW]; simp [go_sem]
  have HX0 : Hid (W.cell? ⟨w.heap.size + 1, 0, none⟩ = some (.int .i64 (E0 : Int))) := show W.cell? ⟨w.heap.size + 1, 0, none⟩ = some (.int .i64 (E0 : Int)) from by rw [hW]; simp [go_sem]
  have HX1 : Hid (W.cell? ⟨w.heap.size + 1, 1, none⟩ = some (.slice (some ⟨g0, 0, none⟩) n c0)) := show W.cell? ⟨w.heap.size + 1, 1, none⟩ = some (.slice (some ⟨g0, 0, none⟩) n c0) from by rw [hW]; simp [go_sem]
  have HX2 : Hid (W.cell? ⟨w.heap.size + 1, 2, none⟩ = some (.slice (some ⟨g1, 0, none⟩) n c1)) := show W.cell? ⟨w.heap.size + 1, 2, none⟩ = some (.slice (some ⟨g1, 0, none⟩) n c1) from by rw [hW]; simp [go_sem]
  have HK0 : Hid (W.cell? ⟨w.heap.size + 2, 0, none⟩ = some (.int .i64 0)) := show W.cell? ⟨w.heap.size + 2, 0, none⟩ = some (.int .i64 0) from by rw [hW]; simp [go_sem]
  have HK1 : Hid (W.cell? ⟨w.heap.size + 2, 1, none⟩ = some (.slice none 0 0)) := show W.cell? ⟨w.heap.size + 2, 1, none⟩ = some (.slice none 0 0) from by rw [hW]; simp [go_sem]
  have HK2 : Hid (W.cell? ⟨w.heap.size + 2, 2, none⟩ = some (.slice none 0 0)) := show W.cell? ⟨w.heap.size + 2, 2, none⟩ = some (.slice none 0 0) from by rw [hW]; simp [go_sem]
  have HZ : Hid (∀ o, W.frozen? ⟨w.heap.size + 2, o, none⟩ = false) := show ∀ o, W.frozen? ⟨w.heap.size + 2, o, none⟩ = false from fun o => by rw [hW]; simp [go_sem]
  have jv := iv.up huW
  go_enter Tryz.func134, Tryz.ntmps134
  go_wp2_with fail
  rw [← hW]
  clear hW
  refine Calls.mono (HCen.out _ jv) ?_
  rintro r w1 ⟨v1, rfl, ho1, hu1⟩
  obtain ⟨gw, cw, rfl, _, iw⟩ := ho1.is (ne_nil_of_length HWL.out (by omega))
  rw [HWL.out]
  clear ho1 jv HCen
  have hT0 := keepC hu1 HS0.out
  have hT1 := keepC hu1 HS1.out
  have hT2 := keepC hu1 HS2.out
  have hT3 := keepC hu1 HS3.out
  have hX0 := keepC hu1 HX0.out
  go_wp2_with fail
  go_region_held3 (fun w' => w'.cell? ⟨w.heap.size, 0, none⟩ = some (.int .i64 (n : Int)) ∧ w'.cell? ⟨w.heap.size, 1, none⟩ = some (.int .i64 (t : Int)) ∧ w'.cell? ⟨w.heap.size, 2, none⟩ = some (.int .i64 q) ∧ w'.cell? ⟨w.heap.size, 3, none⟩ = some (.int .i64 b) ∧ w'.cell? ⟨w.heap.size + 1, 0, none⟩ = some (.int .i64 (E0 : Int)))
    (first | go_keep | exact keepC5 hu2 (by assumption))
    ((first | (go_at_call 157; refine Calls.mono (HSC.out _ _ _ (by exact iw.up (Up.drew (Up.refl _)))) ?_; rintro r w' ⟨rfl, rfl⟩) | (go_at_call 133; refine Calls.mono (HRR.out _) ?_; rintro r w2 ⟨rfl, hu2⟩)))
  have hu12 : Up w1 w2 := Up.trans (Up.drew (Up.refl _)) hu2
  have hu02 := hu1.trans hu12
  clear hu2 e1 e2 hT0 hT1 hT2 hT3 hX0
  have hT0 := keepC hu02 HS0.out
  have hT1 := keepC hu02 HS1.out
  have hT2 := keepC hu02 HS2.out
  have hT3 := keepC hu02 HS3.out
  go_wp2_with fail
  refine (Fits_calls _ _ _ _ _ _ (by omega) (by omega) (by omega) hq2 (by omega)).mono ?_
  rintro r w3 ⟨rfl, hu3⟩
  rw [HF.out]
  have hu03 := hu02.trans hu3
  clear hT0 hT1 hT2 hT3
  have hT2 := keepC hu03 HS2.out
  have hX1 := keepC hu03 HX1.out
  have iw3 := iw.up (hu12.trans hu3)
  have j0 := i0.up (huW.trans hu03)
  go_wp2_with fail
  refine (ringMul_calls n a0 ws g0 gw c0 cw q _ (by omega) L0.out HWL.out (by omega) hq2 D0.out HWB.out j0 iw3).mono ?_
  rintro r w4 ⟨h4, rfl, ho4, hu4⟩
  have hu04 := hu03.trans hu4
  clear hT2 hX1 j0
  have hT2 := keepC hu04 HS2.out
  have hX2 := keepC hu04 HX2.out
  have j1 := i1.up (huW.trans hu04)
  go_wp2_with fail
  refine (ringMul_calls n a1 ws g1 gw c1 cw q _ (by omega) L1.out HWL.out (by omega) hq2 D1.out HWB.out j1 (iw3.up hu4)).mono ?_
  rintro r w5 ⟨h5, rfl, ho5, hu5⟩
  have hu05 := hu04.trans hu5
  clear hT2 hX2 j1
  have hk0 := keepC hu05 HK0.out
  have hk1 := keepC hu05 HK1.out
  have hk2 := keepC hu05 HK2.out
  have hz0 := ((bcell hu05).2 _ _ (by omega)).trans (HZ.out 0)
  have hz1 := ((bcell hu05).2 _ _ (by omega)).trans (HZ.out 1)
  have hz2 := ((bcell hu05).2 _ _ (by omega)).trans (HZ.out 2)
  go_wp2_with fail
  have hall : Below w.heap.size w w5 := huW.trans hu05
  have hs3 : w.heap.size + 3 ≤ w3.heap.size := by rw [← hsW]; exact Up.le hu03
  have hs4 : w.heap.size + 3 ≤ w4.heap.size := by rw [← hsW]; exact Up.le hu04
  have hb0 := (ho4.up hu5).base (base' := w.heap.size + 3) hs3
  have hb1 := ho5.base (base' := w.heap.size + 3) hs4
  refine bodyPost_ret (v := .tuple #[.agg #[.int .i64 (S : Int), .slice (some ⟨h4, 0, none⟩) n n, .slice (some ⟨h5, 0, none⟩) n n], .bool true]) (by simp [results, Tryz.results134, go_sem, hk0, hk1, hk2]) rfl ⟨h4, n, h5, n, rfl, ?_, ?_, ?_⟩
  · exact OwnI.isI (ownsRow_setCell_below (ownsRow_setCell_below (ownsRow_setCell_below hb0 (by simp) _) (by simp) _) (by simp) _)
  · exact OwnI.isI (ownsRow_setCell_below (ownsRow_setCell_below (ownsRow_setCell_below hb1 (by simp) _) (by simp) _) (by simp) _)
  · exact ((hall.setCell (by dsimp only; omega) _).setCell (by dsimp only; omega) _).setCell (by dsimp only; omega) _

end Go.Proofs.YtcjhgbljhpflfabGreat
