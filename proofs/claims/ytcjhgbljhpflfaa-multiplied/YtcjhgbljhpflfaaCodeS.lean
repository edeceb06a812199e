/-
  Walks: the program's MulPlain.
-/
import Derived.Test.YtcjhgbljhpflfaaCodeO
import Derived.Test.YtcjhgbljhpflfaaWalksRk
namespace Go.Proofs.Ytcjhgbljhpflfaa
open Go.RowKit
set_option linter.unusedVariables false
set_option maxRecDepth 100000

theorem NT.odd {n t : Nat} (g : NT n t) : t % 2 = 1 := by
  have h := g.hm
  rcases g.hn with rfl | rfl | rfl <;> omega

set_option maxHeartbeats 4000000 in
theorem centred_calls (n t : Nat) (q b : Int) (ss : List Int) (gs cap : Nat) (w : World) (g : NT n t) (hl : ss.length = n) (hx : ∀ i, i < ss.length → 0 ≤ ss.getD i 0 ∧ ss.getD i 0 < 65536) (hi : IsI w gs ss) :
    Calls Try.prog 125 #[.agg #[.int .i64 n, .int .i64 t, .int .i64 q, .int .i64 b], .slice (some ⟨gs, 0, none⟩) n cap] w fun e w' => ∃ v, e = .returned v ∧ OwnI w' w.heap.size v (cenI n t (encI n t ss)) ∧ Up w w' := by
  have ht := g.t3
  have ht2 := g.ht
  have hodd := g.odd
  obtain ⟨hd1, hd2, hd3⟩ := g.half
  have HX : Hid _ := hx
  have HL : Hid _ := hl
  have HEB : Hid _ := encI_lt g ss
  have HEL : Hid _ := encI_length n t ss
  clear hx hl
  go_enter Try.func125, Try.ntmps125
  go_wp2_with fail
  refine (slotEncode_calls n t q b ss gs cap _ g HL.out HX.out (hi.up ((Up.refl _).alloc _))).mono ?_
  rintro e w1 ⟨v1, rfl, ho1, hu1⟩
  obtain ⟨g1, c1, rfl, _, i1⟩ := ho1.is (ne_nil_of_length (encI_length _ _ _) (by omega))
  rw [encI_length]
  clear ho1
  generalize hes : encI n t ss = es at i1 HEB HEL
  have HES : Hid _ := hes
  clear hes
  have hsz : w.heap.size ≤ w1.heap.size := Up.le (((Up.refl w).alloc _).trans hu1)
  go_wp2_with fail
  go_loopw [5, 12] (fun v j wr => ∃ k : Nat, k ≤ n ∧ j = .int .i64 (k : Int) ∧ OwnI wr w1.heap.size v ((List.range k).map fun i => cenC t (es.getD i 0)) ∧ Up w1 wr) (fun _ j _ => n - (intOf j).toNat)
  case atStart => exact ⟨0, Nat.zero_le _, rfl, World.ownsRow_nil _ _ _ _, Up.refl _⟩
  case round =>
    obtain ⟨k, hk, rfl, hown, hur⟩ := hrel
    by_cases hlt : k < n
    · have hcx := (i1.up hur).2 k (by rw [HEL.out]; omega)
      have hxb := HEB.out k hlt
      have HR : Hid (((List.range (k + 1)).map fun i => cenC t (es.getD i 0)) = ((List.range k).map fun i => cenC t (es.getD i 0)) ++ [cenC t (es.getD k 0)]) := map_range_succ _ _
      generalize es.getD k 0 = x at hcx hxb HR
      obtain ⟨hc, hf⟩ := bcell (hu1.trans hur)
      go_wp2_with (first | (go_at_call 139; refine (Centre_calls _ _ _ hxb.1 hxb.2 (by omega) (by omega)).mono ?_; rintro e w' ⟨rfl, rfl⟩) | (at_builtin; refine append_int _ _ rfl _ _ rfl _ _ _ rfl hown rfl (by simp; omega) hur.size ?_))
      intro v4 w4 hown4 hg4 hb4 _
      clear hown hcx hc hf
      go_wp2_with fail
      go_roundw
      case rel => exact ⟨k + 1, by omega, by go_num, by rw [HR.out]; exact hown4, Below.trans hur hb4⟩
      case measure => simp [intOf]; omega
    · obtain rfl : k = n := by omega
      go_wp2_with fail
      go_ret
      exact ⟨_, rfl, by rw [HES.out]; exact hown.base hsz, (((Up.refl _).alloc _).trans hu1).trans hur⟩

/-- the sum of what numbers are without their signs -/
def sizeN (ws : List Int) (k : Nat) : Nat := sumN (fun i => (ws.getD i 0).natAbs) k

theorem sumN_congr {f h : Nat → Nat} {n : Nat} (e : ∀ i, i < n → f i = h i) : sumN f n = sumN h n := by
  induction n with
  | zero => rfl
  | succ n ih => simp only [sumN]; rw [ih (fun i hi => e i (by omega)), e n (by omega)]

theorem sizeN_cen (n : Nat) (t : Int) (ms : List Int) : sizeN (cenI n t ms) n = absS t ms n :=
  sumN_congr fun i hi => by rw [cenI, getD_range hi]

theorem sizeN_le (ws : List Int) (m n k : Nat) (hk : k ≤ n) (h : ∀ i, i < n → (ws.getD i 0).natAbs ≤ m) : sizeN ws k ≤ k * m := by
  induction k with
  | zero => simp [sizeN, sumN]
  | succ k ih =>
    have h1 := ih (by omega)
    have h2 := h k (by omega)
    have e : sizeN ws (k + 1) = sizeN ws k + (ws.getD k 0).natAbs := rfl
    rw [e, Nat.succ_mul]
    omega

set_option maxHeartbeats 1000000 in
theorem size_calls (n : Nat) (ws : List Int) (g cap : Nat) (w : World) (hn : n ≤ 16) (hl : ws.length = n) (hb : ∀ i, i < n → (ws.getD i 0).natAbs ≤ 1048576) (hi : IsI w g ws) :
    Calls Try.prog 126 #[.slice (some ⟨g, 0, none⟩) n cap] w fun e w' => e = .returned (.int .i64 (sizeN ws n)) ∧ w' = w := by
  have HL : Hid _ := hl
  have HB : Hid _ := hb
  clear hl hb
  go_enter Try.func126, Try.ntmps126
  go_wp2
  go_loop [3, 8] (fun v j => ∃ k : Nat, k ≤ n ∧ v = .int .i64 (sizeN ws k : Int) ∧ j = .int .i64 (k : Int)) (fun _ j => n - (intOf j).toNat)
  case atStart => exact ⟨0, Nat.zero_le _, rfl, rfl⟩
  case round =>
    obtain ⟨k, hk, rfl, rfl⟩ := hrel
    have hS := sizeN_le ws 1048576 n k hk HB.out
    have hS2 : k * 1048576 ≤ 16 * 1048576 := Nat.mul_le_mul_right _ (by omega)
    by_cases hlt : k < n
    · have hc := hi.2 k (by rw [HL.out]; omega)
      have hb := HB.out k hlt
      have H : Hid (sizeN ws (k + 1) = sizeN ws k + (ws.getD k 0).natAbs) := rfl
      generalize ws.getD k 0 = x at hc hb H
      generalize sizeN ws k = V at hS H
      by_cases hx : x < 0
      · go_wp2
        go_round
        case rel => exact ⟨k + 1, by omega, by rw [H.out]; go_num, by go_num⟩
        case measure => simp [intOf]; omega
      · go_wp2
        go_round
        case rel => exact ⟨k + 1, by omega, by rw [H.out]; go_num, by go_num⟩
        case measure => simp [intOf]; omega
    · obtain rfl : k = n := by omega
      go_wp2
      go_ret
      exact ⟨rfl, rfl⟩

set_option maxHeartbeats 4000000 in
theorem cipherMulPlain_no (n t E0 : Nat) (q b : Int) (vs : List Int) (g0 c0 g1 c1 gv cv : Nat) (w : World) (g : NT n t) (hq : 2 ≤ q) (hq2 : q ≤ 1073741823) (h0 : (E0 : Int) < q) (hfit : fitsB t q ((absS t (encI n t vs) n * (E0 + (q % (t : Int)).toNat) : Nat) : Int) = false) (lv : vs.length = n) (hbv : ∀ i, i < vs.length → 0 ≤ vs.getD i 0 ∧ vs.getD i 0 < 65536) (iv : IsI w gv vs) :
    Calls Try.prog 92 #[.agg #[.int .i64 n, .int .i64 t, .int .i64 q, .int .i64 b], .agg #[.int .i64 E0, .slice (some ⟨g0, 0, none⟩) n c0, .slice (some ⟨g1, 0, none⟩) n c1], .slice (some ⟨gv, 0, none⟩) n cv] w fun r w' => r = .returned (.tuple #[.agg #[.int .i64 0, .slice none 0 0, .slice none 0 0], .bool false]) ∧ Up w w' := by
  have ht := g.t3
  have ht2 := g.ht
  obtain ⟨hd1, hd2, hd3⟩ := g.half
  have hm := mod_bounds (show (0 : Int) < (t : Int) by omega) q
  have HF : Hid _ := hfit
  have HRR : Hid (∀ W, Calls Try.prog 124 #[.agg #[.int .i64 n, .int .i64 t, .int .i64 q, .int .i64 b]] W fun r w' => r = .returned (.int .i64 ((q % (t : Int)).toNat : Int)) ∧ Up W w') := fun W => by
    have := Rest_calls n t q b W (by omega) (by omega) (by omega) hq2
    rw [show ((q % (t : Int)).toNat : Int) = q % (t : Int) by omega]
    exact this
  have hRb : (q % (t : Int)).toNat ≤ 1021 := by omega
  generalize (q % (t : Int)).toNat = R at HF HRR hRb
  have LV : Hid _ := lv
  have DV : Hid _ := hbv
  have HEB := encI_lt g vs
  have hWb : ∀ i, i < n → ((cenI n t (encI n t vs)).getD i 0).natAbs ≤ 510 := fun i hi => by
    rw [cenI, getD_range hi]
    have h1 := HEB i hi
    have h2 := cenC_bounds (t : Int) ((encI n t vs).getD i 0) h1.1 h1.2
    omega
  have hSz := sizeN_le (cenI n t (encI n t vs)) 510 n n (Nat.le_refl _) hWb
  have hSz2 : n * 510 ≤ 16 * 510 := Nat.mul_le_mul_right _ (by omega)
  have HWS : Hid (∀ i, i < n → ((cenI n t (encI n t vs)).getD i 0).natAbs ≤ 1048576) := fun i hi => Nat.le_trans (hWb i hi) (by omega)
  have HWB : Hid (Bnd (cenI n t (encI n t vs)) 1073741824) := Bnd_map (by omega) fun i hi => by
    have h1 := HEB i hi
    have h2 := cenC_bounds (t : Int) ((encI n t vs).getD i 0) h1.1 h1.2
    omega
  have HWL : Hid _ := cenI_length n t (encI n t vs)
  have HCen : Hid (∀ W, IsI W gv vs → Calls Try.prog 125 #[.agg #[.int .i64 n, .int .i64 t, .int .i64 q, .int .i64 b], .slice (some ⟨gv, 0, none⟩) n cv] W fun e w' => ∃ v, e = .returned v ∧ OwnI w' W.heap.size v (cenI n t (encI n t vs)) ∧ Up W w') := fun W hi => centred_calls n t q b vs gv cv W g LV.out DV.out hi
  rw [← sizeN_cen] at HF
  clear hWb HEB
  generalize cenI n t (encI n t vs) = ws at HF hSz HWS HWB HWL HCen
  have hMul : sizeN ws n * (E0 + R) ≤ 8160 * 1073742844 := Nat.mul_le_mul (by omega) (by omega)
  have hMI : ((sizeN ws n : Nat) : Int) * ((E0 : Int) + (R : Int)) = ((sizeN ws n * (E0 + R) : Nat) : Int) := by rw [Int.natCast_mul, Int.natCast_add]
  have e1 : IntKind.i64.wrap ((E0 : Int) + (R : Int)) = (E0 : Int) + (R : Int) := IntWalk.i64_in _ (by omega)
  have e2 : IntKind.i64.wrap (((sizeN ws n : Nat) : Int) * ((E0 : Int) + (R : Int))) = ((sizeN ws n * (E0 + R) : Nat) : Int) := by rw [hMI]; exact IntWalk.i64_in _ (by omega)
  have HSC : Hid (∀ W gw cw, IsI W gw ws → Calls Try.prog 126 #[.slice (some ⟨gw, 0, none⟩) n cw] W fun e w' => e = .returned (.int .i64 (sizeN ws n)) ∧ w' = W) := fun W gw cw hi => size_calls n ws gw cw W (by omega) HWL.out HWS.out hi
  generalize sizeN ws n * (E0 + R) = S at e2 HF hMul
  generalize sizeN ws n = Z at e2 HSC hSz
  clear hm hfit lv hbv hMI hSz
  obtain ⟨W, hW⟩ : ∃ W, W = ((w.alloc (.cells #[.int .i64 n, .int .i64 t, .int .i64 q, .int .i64 b] 26)).alloc (.cells #[.int .i64 E0, .slice (some ⟨g0, 0, none⟩) n c0, .slice (some ⟨g1, 0, none⟩) n c1] 89)).alloc (.cells #[.int .i64 0, .slice none 0 0, .slice none 0 0] 89) := ⟨_, rfl⟩
  have huW : Up w W := by rw [hW]; exact (((Up.refl _).alloc _).alloc _).alloc _
  have hsW : W.heap.size = w.heap.size + 3 := by rw [hW]; simp
  have HS0 : Hid (W.cell? ⟨w.heap.size, 0, none⟩ = some (.int .i64 (n : Int))) := show W.cell? ⟨w.heap.size, 0, none⟩ = some (.int .i64 (n : Int)) from by rw [hW]; simp [go_sem]
  have HS1 : Hid (W.cell? ⟨w.heap.size, 1, none⟩ = some (.int .i64 (t : Int))) := show W.cell? ⟨w.heap.size, 1, none⟩ = some (.int .i64 (t : Int)) from by rw [hW]; simp [go_sem]
  have HS2 : Hid (W.cell? ⟨w.heap.size, 2, none⟩ = some (.int .i64 q)) := show W.cell? ⟨w.heap.size, 2, none⟩ = some (.int .i64 q) from by rw [hW]; simp [go_sem]
  have HS3 : Hid (W.cell? ⟨w.heap.size, 3, none⟩ = some (.int .i64 b)) := show W.cell? ⟨w.heap.size, 3, none⟩ = some (.int .i64 b) from by rw [hW]; simp [go_sem]
  have HX0 : Hid (W.cell? ⟨w.heap.size + 1, 0, none⟩ = some (.int .i64 (E0 : Int))) := show W.cell? ⟨w.heap.size + 1, 0, none⟩ = some (.int .i64 (E0 : Int)) from by rw [hW]; simp [go_sem]
  have HX1 : Hid (W.cell? ⟨w.heap.size + 1, 1, none⟩ = some (.slice (some ⟨g0, 0, none⟩) n c0)) := show W.cell? ⟨w.heap.size + 1, 1, none⟩ = some (.slice (some ⟨g0, 0, none⟩) n c0) from by rw [hW]; simp [go_sem]
  have HX2 : Hid (W.cell? ⟨w.heap.size + 1, 2, none⟩ = some (.slice (some ⟨g1, 0, none⟩) n c1)) := show W.cell? ⟨w.heap.size + 1, 2, none⟩ = some (.slice (some ⟨g1, 0, none⟩) n c1) from by rw [hW]; simp [go_sem]
  have HK0 : Hid (W.cell? ⟨w.heap.size + 2, 0, none⟩ = some (.int .i64 0)) := show W.cell? ⟨w.heap.size + 2, 0, none⟩ = some (.int .i64 0) from by rw [hW]; simp [go_sem]
  have HK1 : Hid (W.cell? ⟨w.heap.size + 2, 1, none⟩ = some (.slice none 0 0)) := show W.cell? ⟨w.heap.size + 2, 1, none⟩ = some (.slice none 0 0) from by rw [hW]; simp [go_sem]
  have HK2 : Hid (W.cell? ⟨w.heap.size + 2, 2, none⟩ = some (.slice none 0 0)) := show W.cell? ⟨w.heap.size + 2, 2, none⟩ = some (.slice none 0 0) from by rw [hW]; simp [go_sem]
  have HZ : Hid (∀ o, W.frozen? ⟨w.heap.size + 2, o, none⟩ = false) := show ∀ o, W.frozen? ⟨w.heap.size + 2, o, none⟩ = false from fun o => by rw [hW]; simp [go_sem]
  have jv := iv.up huW
  go_enter Try.func92, Try.ntmps92
  go_wp2_with fail
  rw [← hW]
  clear hW
  refine Calls.mono (HCen.out _ jv) ?_
  rintro r w1 ⟨v1, rfl, ho1, hu1⟩
  obtain ⟨gw, cw, rfl, _, iw⟩ := ho1.is (ne_nil_of_length HWL.out (by omega))
  rw [HWL.out]
  clear ho1 jv HCen
  have hT0 := keepC hu1 HS0.out
  have hT1 := keepC hu1 HS1.out
  have hT2 := keepC hu1 HS2.out
  have hT3 := keepC hu1 HS3.out
  have hX0 := keepC hu1 HX0.out
  go_wp2_with fail
  go_region_held3 (fun w' => w'.cell? ⟨w.heap.size, 0, none⟩ = some (.int .i64 (n : Int)) ∧ w'.cell? ⟨w.heap.size, 1, none⟩ = some (.int .i64 (t : Int)) ∧ w'.cell? ⟨w.heap.size, 2, none⟩ = some (.int .i64 q) ∧ w'.cell? ⟨w.heap.size, 3, none⟩ = some (.int .i64 b) ∧ w'.cell? ⟨w.heap.size + 1, 0, none⟩ = some (.int .i64 (E0 : Int)))
    (first | go_keep | exact keepC5 hu2 (by assumption))
    ((first | (go_at_call 126; refine Calls.mono (HSC.out _ _ _ (by exact iw.up (Up.drew (Up.refl _)))) ?_; rintro r w' ⟨rfl, rfl⟩) | (go_at_call 124; refine Calls.mono (HRR.out _) ?_; rintro r w2 ⟨rfl, hu2⟩)))
  have hu12 : Up w1 w2 := Up.trans (Up.drew (Up.refl _)) hu2
  have hu02 := hu1.trans hu12
  clear hu2 e1 e2 hT0 hT1 hT2 hT3 hX0
  have hT0 := keepC hu02 HS0.out
  have hT1 := keepC hu02 HS1.out
  have hT2 := keepC hu02 HS2.out
  have hT3 := keepC hu02 HS3.out
  go_wp2_with fail
  refine (Fits_calls _ _ _ _ _ _ (by omega) (by omega) (by omega) hq2 (by omega)).mono ?_
  rintro r w3 ⟨rfl, hu3⟩
  rw [HF.out]
  have hu03 := hu02.trans hu3
  clear hT0 hT1 hT2 hT3
  have hk0 := keepC hu03 HK0.out
  have hk1 := keepC hu03 HK1.out
  have hk2 := keepC hu03 HK2.out
  have hz0 := ((bcell hu03).2 _ _ (by omega)).trans (HZ.out 0)
  have hz1 := ((bcell hu03).2 _ _ (by omega)).trans (HZ.out 1)
  have hz2 := ((bcell hu03).2 _ _ (by omega)).trans (HZ.out 2)
  go_wp2_with fail
  have hall : Below w.heap.size w w3 := huW.trans hu03
  refine bodyPost_ret (v := .tuple #[.agg #[.int .i64 0, .slice none 0 0, .slice none 0 0], .bool false]) (by simp [results, Try.results92, go_sem, hk0, hk1, hk2]) rfl ⟨rfl, ?_⟩
  exact ((hall.setCell (by dsimp only; omega) _).setCell (by dsimp only; omega) _).setCell (by dsimp only; omega) _

set_option maxHeartbeats 4000000 in
theorem cipherMulPlain_ok (n t E0 : Nat) (q b : Int) (a0 a1 vs : List Int) (g0 c0 g1 c1 gv cv : Nat) (w : World) (g : NT n t) (hq : 2 ≤ q) (hq2 : q ≤ 1073741823) (h0 : (E0 : Int) < q) (hfit : fitsB t q ((absS t (encI n t vs) n * (E0 + (q % (t : Int)).toNat) : Nat) : Int) = true) (lv : vs.length = n) (hbv : ∀ i, i < vs.length → 0 ≤ vs.getD i 0 ∧ vs.getD i 0 < 65536) (iv : IsI w gv vs)
    (l0 : a0.length = n) (l1 : a1.length = n) (d0 : Bnd a0 1073741824) (d1 : Bnd a1 1073741824) (i0 : IsI w g0 a0) (i1 : IsI w g1 a1) :
    Calls Try.prog 92 #[.agg #[.int .i64 n, .int .i64 t, .int .i64 q, .int .i64 b], .agg #[.int .i64 E0, .slice (some ⟨g0, 0, none⟩) n c0, .slice (some ⟨g1, 0, none⟩) n c1], .slice (some ⟨gv, 0, none⟩) n cv] w fun r w' => ∃ h0 k0 h1 k1, r = .returned (.tuple #[.agg #[.int .i64 ((absS t (encI n t vs) n * (E0 + (q % (t : Int)).toNat) : Nat) : Int), .slice (some ⟨h0, 0, none⟩) n k0, .slice (some ⟨h1, 0, none⟩) n k1], .bool true]) ∧ IsI w' h0 (timesI n a0 (cenI n t (encI n t vs)) q) ∧ IsI w' h1 (timesI n a1 (cenI n t (encI n t vs)) q) ∧ Up w w' := by
  have ht := g.t3
  have ht2 := g.ht
  obtain ⟨hd1, hd2, hd3⟩ := g.half
  have L0 : Hid _ := l0
  have L1 : Hid _ := l1
  have D0 : Hid _ := d0
  have D1 : Hid _ := d1
  clear l0 l1 d0 d1
  rw [← sizeN_cen]
  rw [← sizeN_cen] at hfit
  have hm := mod_bounds (show (0 : Int) < (t : Int) by omega) q
  have HF : Hid _ := hfit
  have HRR : Hid (∀ W, Calls Try.prog 124 #[.agg #[.int .i64 n, .int .i64 t, .int .i64 q, .int .i64 b]] W fun r w' => r = .returned (.int .i64 ((q % (t : Int)).toNat : Int)) ∧ Up W w') := fun W => by
    have := Rest_calls n t q b W (by omega) (by omega) (by omega) hq2
    rw [show ((q % (t : Int)).toNat : Int) = q % (t : Int) by omega]
    exact this
  have hRb : (q % (t : Int)).toNat ≤ 1021 := by omega
  generalize (q % (t : Int)).toNat = R at HF HRR hRb ⊢
  have LV : Hid _ := lv
  have DV : Hid _ := hbv
  have HEB := encI_lt g vs
  have hWb : ∀ i, i < n → ((cenI n t (encI n t vs)).getD i 0).natAbs ≤ 510 := fun i hi => by
    rw [cenI, getD_range hi]
    have h1 := HEB i hi
    have h2 := cenC_bounds (t : Int) ((encI n t vs).getD i 0) h1.1 h1.2
    omega
  have hSz := sizeN_le (cenI n t (encI n t vs)) 510 n n (Nat.le_refl _) hWb
  have hSz2 : n * 510 ≤ 16 * 510 := Nat.mul_le_mul_right _ (by omega)
  have HWS : Hid (∀ i, i < n → ((cenI n t (encI n t vs)).getD i 0).natAbs ≤ 1048576) := fun i hi => Nat.le_trans (hWb i hi) (by omega)
  have HWB : Hid (Bnd (cenI n t (encI n t vs)) 1073741824) := Bnd_map (by omega) fun i hi => by
    have h1 := HEB i hi
    have h2 := cenC_bounds (t : Int) ((encI n t vs).getD i 0) h1.1 h1.2
    omega
  have HWL : Hid _ := cenI_length n t (encI n t vs)
  have HCen : Hid (∀ W, IsI W gv vs → Calls Try.prog 125 #[.agg #[.int .i64 n, .int .i64 t, .int .i64 q, .int .i64 b], .slice (some ⟨gv, 0, none⟩) n cv] W fun e w' => ∃ v, e = .returned v ∧ OwnI w' W.heap.size v (cenI n t (encI n t vs)) ∧ Up W w') := fun W hi => centred_calls n t q b vs gv cv W g LV.out DV.out hi
  clear hWb HEB
  generalize cenI n t (encI n t vs) = ws at HF hSz HWS HWB HWL HCen ⊢
  have hMul : sizeN ws n * (E0 + R) ≤ 8160 * 1073742844 := Nat.mul_le_mul (by omega) (by omega)
  have hMI : ((sizeN ws n : Nat) : Int) * ((E0 : Int) + (R : Int)) = ((sizeN ws n * (E0 + R) : Nat) : Int) := by rw [Int.natCast_mul, Int.natCast_add]
  have e1 : IntKind.i64.wrap ((E0 : Int) + (R : Int)) = (E0 : Int) + (R : Int) := IntWalk.i64_in _ (by omega)
  have e2 : IntKind.i64.wrap (((sizeN ws n : Nat) : Int) * ((E0 : Int) + (R : Int))) = ((sizeN ws n * (E0 + R) : Nat) : Int) := by rw [hMI]; exact IntWalk.i64_in _ (by omega)
  have HSC : Hid (∀ W gw cw, IsI W gw ws → Calls Try.prog 126 #[.slice (some ⟨gw, 0, none⟩) n cw] W fun e w' => e = .returned (.int .i64 (sizeN ws n)) ∧ w' = W) := fun W gw cw hi => size_calls n ws gw cw W (by omega) HWL.out HWS.out hi
  generalize sizeN ws n * (E0 + R) = S at e2 HF hMul ⊢
  generalize sizeN ws n = Z at e2 HSC hSz
  clear hm hfit lv hbv hMI hSz
  obtain ⟨W, hW⟩ : ∃ W, W = ((w.alloc (.cells #[.int .i64 n, .int .i64 t, .int .i64 q, .int .i64 b] 26)).alloc (.cells #[.int .i64 E0, .slice (some ⟨g0, 0, none⟩) n c0, .slice (some ⟨g1, 0, none⟩) n c1] 89)).alloc (.cells #[.int .i64 0, .slice none 0 0, .slice none 0 0] 89) := ⟨_, rfl⟩
  have huW : Up w W := by rw [hW]; exact (((Up.refl _).alloc _).alloc _).alloc _
  have hsW : W.heap.size = w.heap.size + 3 := by rw [hW]; simp
  have HS0 : Hid (W.cell? ⟨w.heap.size, 0, none⟩ = some (.int .i64 (n : Int))) := show W.cell? ⟨w.heap.size, 0, none⟩ = some (.int .i64 (n : Int)) from by rw [hW]; simp [go_sem]
  have HS1 : Hid (W.cell? ⟨w.heap.size, 1, none⟩ = some (.int .i64 (t : Int))) := show W.cell? ⟨w.heap.size, 1, none⟩ = some (.int .i64 (t : Int)) from by rw [hW]; simp [go_sem]
  have HS2 : Hid (W.cell? ⟨w.heap.size, 2, none⟩ = some (.int .i64 q)) := show W.cell? ⟨w.heap.size, 2, none⟩ = some (.int .i64 q) from by rw [hW]; simp [go_sem]
  have HS3 : Hid (W.cell? ⟨w.heap.size, 3, none⟩ = some (.int .i64 b)) := show W.cell? ⟨w.heap.size, 3, none⟩ = some (.int .i64 b) from by rw [hW]; simp [go_sem]
  have HX0 : Hid (W.cell? ⟨w.heap.size + 1, 0, none⟩ = some (.int .i64 (E0 : Int))) := show W.cell? ⟨w.heap.size + 1, 0, none⟩ = some (.int .i64 (E0 : Int)) from by rw [hW]; simp [go_sem]
  have HX1 : Hid (W.cell? ⟨w.heap.size + 1, 1, none⟩ = some (.slice (some ⟨g0, 0, none⟩) n c0)) := show W.cell? ⟨w.heap.size + 1, 1, none⟩ = some (.slice (some ⟨g0, 0, none⟩) n c0) from by rw [hW]; simp [go_sem]
  have HX2 : Hid (W.cell? ⟨w.heap.size + 1, 2, none⟩ = some (.slice (some ⟨g1, 0, none⟩) n c1)) := show W.cell? ⟨w.heap.size + 1, 2, none⟩ = some (.slice (some ⟨g1, 0, none⟩) n c1) from by rw [hW]; simp [go_sem]
  have HK0 : Hid (W.cell? ⟨w.heap.size + 2, 0, none⟩ = some (.int .i64 0)) := show W.cell? ⟨w.heap.size + 2, 0, none⟩ = some (.int .i64 0) from by rw [hW]; simp [go_sem]
  have HK1 : Hid (W.cell? ⟨w.heap.size + 2, 1, none⟩ = some (.slice none 0 0)) := show W.cell? ⟨w.heap.size + 2, 1, none⟩ = some (.slice none 0 0) from by rw [hW]; simp [go_sem]
  have HK2 : Hid (W.cell? ⟨w.heap.size + 2, 2, none⟩ = some (.slice none 0 0)) := show W.cell? ⟨w.heap.size + 2, 2, none⟩ = some (.slice none 0 0) from by rw [hW]; simp [go_sem]
  have HZ : Hid (∀ o, W.frozen? ⟨w.heap.size + 2, o, none⟩ = false) := show ∀ o, W.frozen? ⟨w.heap.size + 2, o, none⟩ = false from fun o => by rw [hW]; simp [go_sem]
  have jv := iv.up huW
  go_enter Try.func92, Try.ntmps92
  go_wp2_with fail
  rw [← hW]
  clear hW
  refine Calls.mono (HCen.out _ jv) ?_
  rintro r w1 ⟨v1, rfl, ho1, hu1⟩
  obtain ⟨gw, cw, rfl, _, iw⟩ := ho1.is (ne_nil_of_length HWL.out (by omega))
  rw [HWL.out]
  clear ho1 jv HCen
  have hT0 := keepC hu1 HS0.out
  have hT1 := keepC hu1 HS1.out
  have hT2 := keepC hu1 HS2.out
  have hT3 := keepC hu1 HS3.out
  have hX0 := keepC hu1 HX0.out
  go_wp2_with fail
  go_region_held3 (fun w' => w'.cell? ⟨w.heap.size, 0, none⟩ = some (.int .i64 (n : Int)) ∧ w'.cell? ⟨w.heap.size, 1, none⟩ = some (.int .i64 (t : Int)) ∧ w'.cell? ⟨w.heap.size, 2, none⟩ = some (.int .i64 q) ∧ w'.cell? ⟨w.heap.size, 3, none⟩ = some (.int .i64 b) ∧ w'.cell? ⟨w.heap.size + 1, 0, none⟩ = some (.int .i64 (E0 : Int)))
    (first | go_keep | exact keepC5 hu2 (by assumption))
    ((first | (go_at_call 126; refine Calls.mono (HSC.out _ _ _ (by exact iw.up (Up.drew (Up.refl _)))) ?_; rintro r w' ⟨rfl, rfl⟩) | (go_at_call 124; refine Calls.mono (HRR.out _) ?_; rintro r w2 ⟨rfl, hu2⟩)))
  have hu12 : Up w1 w2 := Up.trans (Up.drew (Up.refl _)) hu2
  have hu02 := hu1.trans hu12
  clear hu2 e1 e2 hT0 hT1 hT2 hT3 hX0
  have hT0 := keepC hu02 HS0.out
  have hT1 := keepC hu02 HS1.out
  have hT2 := keepC hu02 HS2.out
  have hT3 := keepC hu02 HS3.out
  go_wp2_with fail
  refine (Fits_calls _ _ _ _ _ _ (by omega) (by omega) (by omega) hq2 (by omega)).mono ?_
  rintro r w3 ⟨rfl, hu3⟩
  rw [HF.out]
  have hu03 := hu02.trans hu3
  clear hT0 hT1 hT2 hT3
  have hT2 := keepC hu03 HS2.out
  have hX1 := keepC hu03 HX1.out
  have iw3 := iw.up (hu12.trans hu3)
  have j0 := i0.up (huW.trans hu03)
  go_wp2_with fail
  refine (ringMul_calls n a0 ws g0 gw c0 cw q _ (by omega) L0.out HWL.out (by omega) hq2 D0.out HWB.out j0 iw3).mono ?_
  rintro r w4 ⟨h4, rfl, ho4, hu4⟩
  have hu04 := hu03.trans hu4
  clear hT2 hX1 j0
  have hT2 := keepC hu04 HS2.out
  have hX2 := keepC hu04 HX2.out
  have j1 := i1.up (huW.trans hu04)
  go_wp2_with fail
  refine (ringMul_calls n a1 ws g1 gw c1 cw q _ (by omega) L1.out HWL.out (by omega) hq2 D1.out HWB.out j1 (iw3.up hu4)).mono ?_
  rintro r w5 ⟨h5, rfl, ho5, hu5⟩
  have hu05 := hu04.trans hu5
  clear hT2 hX2 j1
  have hk0 := keepC hu05 HK0.out
  have hk1 := keepC hu05 HK1.out
  have hk2 := keepC hu05 HK2.out
  have hz0 := ((bcell hu05).2 _ _ (by omega)).trans (HZ.out 0)
  have hz1 := ((bcell hu05).2 _ _ (by omega)).trans (HZ.out 1)
  have hz2 := ((bcell hu05).2 _ _ (by omega)).trans (HZ.out 2)
  go_wp2_with fail
  have hall : Below w.heap.size w w5 := huW.trans hu05
  have hs3 : w.heap.size + 3 ≤ w3.heap.size := by rw [← hsW]; exact Up.le hu03
  have hs4 : w.heap.size + 3 ≤ w4.heap.size := by rw [← hsW]; exact Up.le hu04
  have hb0 := (ho4.up hu5).base (base' := w.heap.size + 3) hs3
  have hb1 := ho5.base (base' := w.heap.size + 3) hs4
  refine bodyPost_ret (v := .tuple #[.agg #[.int .i64 (S : Int), .slice (some ⟨h4, 0, none⟩) n n, .slice (some ⟨h5, 0, none⟩) n n], .bool true]) (by simp [results, Try.results92, go_sem, hk0, hk1, hk2]) rfl ⟨h4, n, h5, n, rfl, ?_, ?_, ?_⟩
  · exact OwnI.isI (ownsRow_setCell_below (ownsRow_setCell_below (ownsRow_setCell_below hb0 (by simp) _) (by simp) _) (by simp) _)
  · exact OwnI.isI (ownsRow_setCell_below (ownsRow_setCell_below (ownsRow_setCell_below hb1 (by simp) _) (by simp) _) (by simp) _)
  · exact ((hall.setCell (by dsimp only; omega) _).setCell (by dsimp only; omega) _).setCell (by dsimp only; omega) _

set_option maxHeartbeats 1000000 in
theorem MulPlain_no (n t q b : Int) (x v : ByteArray) (k : Int) (hk : (k != 0) = true) (h : ∀ w, BothNo n t q b x v k w) (w : World) : PlainNo 45 n t q b x v k w := by
  have H : Hid _ := h
  clear h
  go_enter Try.func45, Try.ntmps45
  go_wp2_with fail
  refine Calls.mono (H.out _) ?_
  rintro e w1 ⟨rfl, hu1⟩
  go_wp2_with fail
  go_ret2
  exact ⟨rfl, (((Up.refl _).alloc _).trans hu1).alloc _⟩

set_option maxHeartbeats 4000000 in
theorem MulPlain_ok (n t : Nat) (q b : Int) (x v : ByteArray) (w : World) (hx : x.size ≤ maxLen) (hv : v.size ≤ maxLen) (g : NT n t) (hq : 2 ≤ q) (hq2 : q ≤ 1073741823) (hg : goodB n t q b = true) (h0 : ctB x.data.toList n t q = true) (hok : okL v.data.toList n 2 t = true) :
    Calls Try.prog 45 #[.agg #[.int .i64 n, .int .i64 t, .int .i64 q, .int .i64 b], .string x, .string v] w fun e w' => e = .returned (.tuple #[.string ⟨(mulPlainL n t q x.data.toList v.data.toList).1.toArray⟩, .int .i64 (mulPlainL n t q x.data.toList v.data.toList).2]) ∧ Up w w' := by
  have ht := g.t3
  have ht2 := g.ht
  obtain ⟨hd1, hd2, hd3⟩ := g.half
  have hm := mod_bounds (show (0 : Int) < (t : Int) by omega) q
  have hE0 := ctE_lt _ _ _ _ (by omega) (by omega) h0
  have HX0 : Hid _ := ct0_bnd x.data.toList n t q h0 hq2 1073741824 (by omega)
  have HX1 : Hid _ := ct1_bnd x.data.toList n t q h0 hq2 1073741824 (by omega)
  have HB : Hid _ := numsL_bounds v.data.toList 2 n t hok (by omega)
  have HA : Hid (mulPlainL n t q x.data.toList v.data.toList = tellL t q (absS t (encI n t (numsL v.data.toList 2 n)) n * (ctE x.data.toList + (q % (t : Int)).toNat)) (timesI n (ct0 x.data.toList n) (cenI n t (encI n t (numsL v.data.toList 2 n))) q) (timesI n (ct1 x.data.toList n) (cenI n t (encI n t (numsL v.data.toList 2 n))) q)) := rfl
  generalize mulPlainL n t q x.data.toList v.data.toList = ans at HA
  have L0 : Hid _ := ct0_length x.data.toList n
  have L1 : Hid _ := ct1_length x.data.toList n
  have LV : Hid _ := numsL_length v.data.toList 2 n
  go_enter Try.func45, Try.ntmps45
  go_wp2_with fail
  refine (readBoth_ok n t q b x v _ hx hv g hq hq2 hg h0 hok).mono ?_
  rintro e w2 ⟨g0, c0, g1, c1, gv, cv, rfl, i0, i1, iv, hu2⟩
  generalize ct0 x.data.toList n = a0 at i0 HX0 HA L0
  generalize ct1 x.data.toList n = a1 at i1 HX1 HA L1
  generalize numsL v.data.toList 2 n = vs at iv HB HA LV
  generalize ctE x.data.toList = E0 at hE0 HA ⊢
  have hAb := absS_le (t : Int) (encI n t vs) n n (Nat.le_refl _) (encI_lt g vs) (by omega)
  have hAb2 : n * 510 ≤ 16 * 510 := Nat.mul_le_mul_right _ (by omega)
  have hRb : (q % (t : Int)).toNat ≤ 1021 := by omega
  have hSb : absS t (encI n t vs) n * (E0 + (q % (t : Int)).toNat) ≤ 8160 * 1073742844 := Nat.mul_le_mul (by omega) (by omega)
  obtain ⟨W2, hW2⟩ : ∃ W, W = w2.alloc (.cells #[.int .i64 E0, .slice (some ⟨g0, 0, none⟩) n c0, .slice (some ⟨g1, 0, none⟩) n c1] 89) := ⟨_, rfl⟩
  have huA : Up w2 W2 := by rw [hW2]; exact (Up.refl _).alloc _
  have hX0 : W2.cell? ⟨w2.heap.size, 0, none⟩ = some (.int .i64 E0) := by rw [hW2]; simp
  have hX1 : W2.cell? ⟨w2.heap.size, 1, none⟩ = some (.slice (some ⟨g0, 0, none⟩) n c0) := by rw [hW2]; simp
  have hX2 : W2.cell? ⟨w2.heap.size, 2, none⟩ = some (.slice (some ⟨g1, 0, none⟩) n c1) := by rw [hW2]; simp
  have hu12 := hu2.trans huA
  obtain ⟨hc, hf⟩ := bcell hu12
  have HP0 : Hid _ := timesI_bounds n a0 (cenI n t (encI n t vs)) q (by omega)
  have HP1 : Hid _ := timesI_bounds n a1 (cenI n t (encI n t vs)) q (by omega)
  cases hfit : fitsB t q ((absS t (encI n t vs) n * (E0 + (q % (t : Int)).toNat) : Nat) : Int) with
  | false =>
    have HA2 : Hid (ans = ([], 4)) := by rw [HA.out, tellL, hfit]; exact rfl
    have HFit : Hid _ := hfit
    clear hfit hSb
    subst hW2
    go_wp2_with fail
    refine (cipherMulPlain_no n t E0 q b vs g0 c0 g1 c1 gv cv _ g hq hq2 hE0 HFit.out LV.out HB.out (iv.up huA)).mono ?_
    rintro e w4 ⟨rfl, hu4⟩
    clear hc hf hX0 hX1 hX2
    go_wp2_with fail
    refine (writeCipher_no _).mono ?_
    rintro e w5 ⟨rfl, hu5⟩
    go_wp2_with fail
    go_ret2
    exact ⟨by rw [HA2.out]; rfl, ((((Up.refl _).alloc _).trans hu12).trans hu4).trans (((Up.refl _).alloc _).trans hu5)⟩
  | true =>
    have HA2 : Hid (ans = (toldL (absS t (encI n t vs) n * (E0 + (q % (t : Int)).toNat)) (timesI n a0 (cenI n t (encI n t vs)) q) (timesI n a1 (cenI n t (encI n t vs)) q), 0)) := by rw [HA.out, tellL, hfit]; exact rfl
    have HFit : Hid _ := hfit
    clear hfit
    have HSb : Hid _ := hSb
    clear hSb
    subst hW2
    go_wp2_with fail
    refine (cipherMulPlain_ok n t E0 q b a0 a1 vs g0 c0 g1 c1 gv cv _ g hq hq2 hE0 HFit.out LV.out HB.out (iv.up huA) L0.out L1.out HX0.out HX1.out (i0.up huA) (i1.up huA)).mono ?_
    rintro e w4 ⟨k0, m0, k1, m1, rfl, i4, i5, hu4⟩
    have hSb := HSb.out
    generalize absS t (encI n t vs) n * (E0 + (q % (t : Int)).toNat) = S at HA2 hSb ⊢
    clear hc hf hX0 hX1 hX2 HSb hAb
    go_wp2_with fail
    refine (writeCipher_ok n S _ _ k0 k1 m0 m1 _ (by omega) (by omega) (timesI_length _ _ _ _) (timesI_length _ _ _ _) (fun i hi => by have := HP0.out i hi; omega) (fun i hi => by have := HP1.out i hi; omega) (i4.up ((Up.refl _).alloc _)) (i5.up ((Up.refl _).alloc _))).mono ?_
    rintro e w5 ⟨rfl, hu5⟩
    go_wp2_with fail
    go_ret2
    exact ⟨by rw [HA2.out]; rfl, ((((Up.refl _).alloc _).trans hu12).trans hu4).trans (((Up.refl _).alloc _).trans hu5)⟩

end Go.Proofs.Ytcjhgbljhpflfaa
