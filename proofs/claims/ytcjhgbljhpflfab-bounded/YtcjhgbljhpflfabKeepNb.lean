/-
  Walks: the true noise, as the statements reckon it.
-/
import Derived.Test.YtcjhgbljhpflfabKeepN
namespace Go.Proofs.Ytcjhgbljhpflfab
open Go.RowKit
set_option linter.unusedVariables false
set_option maxRecDepth 100000

theorem secI_three (k : List UInt8) (n i : Nat) (h : secB k n = true) (hi : i < n) : -1 ≤ (secI k n).getD i 0 ∧ (secI k n).getD i 0 ≤ 1 := by
  obtain ⟨_, _, h3⟩ := (secB_iff _ _).1 h
  have h4 := ((okL_iff _ _ _ _).1 h3).2 i hi
  have e : numL k.tail (i * 1) 1 = byteL k (i + 1) := by
    rw [← List.drop_one, numL_drop]
    simp [numL, Nat.add_comm]
  rw [e] at h4
  rw [secI, getD_range hi]
  omega

theorem idx_mod (n j i : Nat) (hn : 0 < n) (hj : j < n) (hi : i < n) : ((j : Int) - i) % (n : Int) = ((if j < i then n + j - i else j - i : Nat) : Int) := by
  by_cases h : j < i
  · rw [if_pos h, ← Int.add_emod_right (a := (j : Int) - i), Int.emod_eq_of_lt (by omega) (by omega)]
    omega
  · rw [if_neg h, Int.emod_eq_of_lt (by omega) (by omega)]
    omega

theorem mul_three (z x : Int) (h1 : -1 ≤ z) (h2 : z ≤ 1) (hx : 0 ≤ x) : -x ≤ z * x ∧ z * x ≤ x := by
  rcases (show z = -1 ∨ z = 0 ∨ z = 1 by omega) with rfl | rfl | rfl <;> omega

set_option maxHeartbeats 16000000 in
theorem noise_box (g n t : Nat) (q b : Int) (k c : List UInt8) (ms : List Int) (E : Nat) (w : World) (p : GoodP n t q b) (hk : secB k n = true) (hB : BoxAt w g n t q b k) (hc : IsCT n t q (secI k n) c ms E) :
    Calls Try.prog 18 #[.pointer (some ⟨g, 0, none⟩), .string ⟨c.toArray⟩] w fun e w' => ∃ r : Int, e = .returned (.int .i64 r) ∧ 0 ≤ r ∧ r ≤ (E : Int) ∧ Up w w' := by
  have ht := p.nt.t3
  have ht2 := p.nt.ht
  obtain ⟨hd1, hd2, hd3⟩ := p.nt.half
  have hq0 := p.q1
  have hq2 := p.q2
  have hkl : k.length = n + 1 := ((secB_iff _ _).1 hk).1
  have hcl : c.length = 6 + 8 * n := ((ctB_iff _ _ _ _).1 hc.ct).1
  have h256 : ((256 ^ 2 : Nat) : Int) = 65536 := by decide
  have hlt := fits_lt (by omega) (by omega) hc.fits
  have hdb := decI_bounds p.nt ms
  have HDe : Hid (∀ W, Calls Try.prog 50 #[.agg #[.int .i64 n, .int .i64 t, .int .i64 q, .int .i64 b], .string ⟨k.toArray⟩, .string ⟨c.toArray⟩] W fun e w' => e = .returned (.tuple #[.string ⟨(textsL 2 (decI n t ms)).toArray⟩, .int .i64 0]) ∧ Up W w') := fun W => by
    have := Decrypt_ok n t q b ⟨k.toArray⟩ ⟨c.toArray⟩ W (by show k.toArray.size ≤ _; rw [List.size_toArray, hkl]; unfold maxLen; omega) (by show c.toArray.size ≤ _; rw [List.size_toArray, hcl]; unfold maxLen; omega) p.nt p.q1 p.q2 p.good (by rw [bytes_back]; exact hk) (by rw [bytes_back]; exact hc.ct)
    rw [bytes_back, bytes_back, hc.opens (by omega) (by omega) (by omega)] at this
    exact this
  have dsm : ∀ i, i < n → 0 ≤ (decI n t ms).getD i 0 ∧ (decI n t ms).getD i 0 < (t : Int) := fun i hi => by
    rw [decI, getD_range hi]
    exact valI_bounds p.nt ms i
  have HEn : Hid (∀ W, Calls Try.prog 51 #[.agg #[.int .i64 n, .int .i64 t, .int .i64 q, .int .i64 b], .string ⟨(textsL 2 (decI n t ms)).toArray⟩] W fun e w' => e = .returned (.tuple #[.string ⟨(textsL 2 ms).toArray⟩, .int .i64 0]) ∧ Up W w') := fun W => by
    have := Encode_ok n t q b ⟨(textsL 2 (decI n t ms)).toArray⟩ W (size_texts' _ n (decI_length _ _ _) (by omega)) p.nt p.good (by rw [bytes_back]; exact okL_texts _ n 2 t (decI_length _ _ _) dsm (by omega))
    rw [bytes_back, nums_texts _ n 2 t (decI_length _ _ _) dsm (by omega), enc_dec p.nt ms hc.len hc.small] at this
    exact this
  have HMs : Hid ((⟨(textsL 2 ms).toArray⟩ : ByteArray).size ≤ maxLen) := size_texts' ms n hc.len (by omega)
  have hMl : (((⟨(textsL 2 ms).toArray⟩ : ByteArray).size : Nat) : Int) = 2 * (n : Int) := by
    show ((textsL 2 ms).toArray.size : Int) = _
    rw [List.size_toArray, textsL_length, hc.len]; omega
  have hCl : (((⟨c.toArray⟩ : ByteArray).size : Nat) : Int) = 6 + 8 * (n : Int) := by
    show (c.toArray.size : Int) = _
    rw [List.size_toArray, hcl]; omega
  have HCs : Hid ((⟨c.toArray⟩ : ByteArray).size ≤ maxLen) := show c.toArray.size ≤ maxLen by rw [List.size_toArray, hcl]; unfold maxLen; omega
  have HKs : Hid ((⟨k.toArray⟩ : ByteArray).size ≤ maxLen) := show k.toArray.size ≤ maxLen by rw [List.size_toArray, hkl]; unfold maxLen; omega
  have HMx : Hid (∀ j, j < n → (256 * (byteL (⟨(textsL 2 ms).toArray⟩ : ByteArray).data.toList (2 * j) : Int) + (byteL (⟨(textsL 2 ms).toArray⟩ : ByteArray).data.toList (2 * j + 1) : Int)) = ms.getD j 0) := fun j hj => by
    have hb := hc.small j hj
    have e := numL_texts [] [] ms 2 j (by rw [hc.len]; exact hj) (toNat_lt hb.1 hb.2 (by omega))
    rw [List.append_nil, List.nil_append, List.length_nil, Nat.zero_add] at e
    rw [bytes_back]
    have e2 : numL (textsL 2 ms) (2 * j) 2 = 256 * byteL (textsL 2 ms) (2 * j) + byteL (textsL 2 ms) (2 * j + 1) := by simp [numL]
    omega
  have HC0 : Hid (∀ j, j < n → ((numL (⟨c.toArray⟩ : ByteArray).data.toList (6 + 4 * j) 4 : Nat) : Int) = (ct0 c n).getD j 0) := fun j hj => by
    rw [bytes_back, ct0, getD_range hj]
  have HC1 : Hid (∀ j, j < n → ((numL (⟨c.toArray⟩ : ByteArray).data.toList (6 + 4 * n + 4 * j) 4 : Nat) : Int) = (ct1 c n).getD j 0) := fun j hj => by
    rw [bytes_back, ct1, getD_range hj]
  have HKx : Hid (∀ u, u < n → ((byteL (⟨k.toArray⟩ : ByteArray).data.toList (u + 1) : Nat) : Int) - 1 = (secI k n).getD u 0) := fun u hu => by
    rw [bytes_back, secI, getD_range hu]
  have HS3 : Hid _ := fun i hi => secI_three k n i hk hi
  have HB0 : Hid (∀ j, j < n → 0 ≤ (ct0 c n).getD j 0 ∧ (ct0 c n).getD j 0 ≤ 1073741823) := fun j hj => ⟨by rw [ct0, getD_range hj]; exact Int.natCast_nonneg _, (ct0_bnd c n t q hc.ct hq2 1073741823 (by omega) j).2⟩
  have HB1 : Hid (∀ j, j < n → 0 ≤ (ct1 c n).getD j 0 ∧ (ct1 c n).getD j 0 ≤ 1073741823) := fun j hj => ⟨by rw [ct1, getD_range hj]; exact Int.natCast_nonneg _, (ct1_bnd c n t q hc.ct hq2 1073741823 (by omega) j).2⟩
  have HSm : Hid _ := hc.small
  have HNo : Hid _ := fun j hj => noise_at (by omega : (0 : Int) < q) hc j hj
  have HN0 : Hid (∀ j, nzN n t q (secI k n) (ct0 c n) (ct1 c n) ms j = (ct0 c n).getD j 0 - q / (t : Int) * ms.getD j 0 + sumI (nzT (secI k n) (ct1 c n) n j) n) := fun j => rfl
  have HNs : Hid (∀ j i, sumI (nzT (secI k n) (ct1 c n) n j) (i + 1) = sumI (nzT (secI k n) (ct1 c n) n j) i + nzS (secI k n) n j i * (ct1 c n).getD i 0) := fun j i => rfl
  have HNz : Hid (∀ j, sumI (nzT (secI k n) (ct1 c n) n j) 0 = 0) := fun j => rfl
  have HNS : Hid (∀ j i, nzS (secI k n) n j i = if j < i then -((secI k n).getD (n + j - i) 0) else (secI k n).getD (j - i) 0) := fun j i => rfl
  generalize nzN n t q (secI k n) (ct0 c n) (ct1 c n) ms = NZ at HNo HN0
  generalize hSU : (fun j => sumI (nzT (secI k n) (ct1 c n) n j)) = SU
  have HSU : Hid (∀ j i, sumI (nzT (secI k n) (ct1 c n) n j) i = SU j i) := fun j i => by rw [← hSU]
  simp only [HSU.out] at HN0 HNs HNz
  clear HSU hSU
  generalize ct0 c n = A0 at HC0 HB0 HN0
  generalize ct1 c n = A1 at HC1 HB1 HNs
  generalize nzS (secI k n) n = ZS at HNs HNS
  generalize secI k n = SS at HKx HS3 HNS
  generalize (⟨(textsL 2 (decI n t ms)).toArray⟩ : ByteArray) = T at HDe HEn
  generalize (⟨(textsL 2 ms).toArray⟩ : ByteArray) = M at HEn HMs hMl HMx
  generalize (⟨c.toArray⟩ : ByteArray) = C at HDe hCl HCs HC0 HC1
  have HB : Hid _ := hB
  have hc0 := hB.c0
  have hc1 := hB.c1
  have hc2 := hB.c2
  have hc3 := hB.c3
  have hc4 := hB.c4
  generalize (⟨k.toArray⟩ : ByteArray) = K at HDe hc4 HKs HKx
  have hn16 : n ≤ 16 := by omega
  have hn4 : 4 ≤ n := by omega
  clear hB hk hkl hcl h256 hdb dsm hc hd3 hd1 hd2
  go_enter Try.func18, Try.ntmps18
  go_wp2_with fail
  go_region_held3 (fun w' => w'.cell? ⟨g, 0, none⟩ = some (.int .i64 (n : Int)) ∧ w'.cell? ⟨g, 1, none⟩ = some (.int .i64 (t : Int)) ∧ w'.cell? ⟨g, 2, none⟩ = some (.int .i64 q) ∧ w'.cell? ⟨g, 3, none⟩ = some (.int .i64 b) ∧ w'.cell? ⟨g, 4, none⟩ = some (.string K))
    (first | go_keep | exact keepC5 hu2 (by assumption))
    ((first | (go_at_call 50; refine Calls.mono (HDe.out _) ?_; rintro e w2 ⟨rfl, hu2⟩)))
  have hu : Up w w2 := Up.trans (Up.drew (Up.refl _)) hu2
  clear hu2
  have hcK := keepC hu hc4
  have hca := keepC hu hc0
  have hcb := keepC hu hc1
  have hcc := keepC hu hc2
  have hcd := keepC hu hc3
  clear hc0 hc1 hc2 hc3 hc4
  go_wp2_with fail
  refine Calls.mono (HEn.out _) ?_
  rintro e w3 ⟨rfl, hu3⟩
  have hu03 := hu.trans hu3
  have KK : Hid (w3.cell? ⟨g, 4, none⟩ = some (.string K)) := keepC hu3 hcK
  clear hcK hca hcb hcc hcd hu3 hu
  have hB3 := HB.out.up hu03
  have hc0 := hB3.c0
  clear hB3
  go_wp2_with fail
  refine (must_calls g _).mono ?_
  rintro e w4 ⟨rfl, rfl⟩
  clear hc0
  go_wp2_with fail
  go_loopw [9, 10] (fun sm sk wr => ∃ (j : Nat) (M0 : Int), j ≤ n ∧ sk = .int .i64 (j : Int) ∧ sm = .int .i64 M0 ∧ 0 ≤ M0 ∧ M0 ≤ (E : Int) ∧ Up w4 wr) (fun _ sk _ => n - (intOf sk).toNat)
  case atStart => exact ⟨0, 0, Nat.zero_le _, rfl, rfl, Int.le_refl _, by omega, Up.refl _⟩
  case round =>
    obtain ⟨j, M0, hj, rfl, rfl, hM0, hM1, hur⟩ := hrel
    have hBr := HB.out.up (hu03.trans hur)
    have hc0 := hBr.c0
    have hc1 := hBr.c1
    have hc2 := hBr.c2
    have hc5 := hBr.c5
    have hcK := keepC hur KK.out
    clear hBr
    by_cases hlt2 : j < n
    · have HX1 : Hid (∀ W, Calls Try.prog 52 #[.string C, .int .i64 (6 + 4 * (j : Int))] W fun e w' => e = .returned (.int .i64 (A0.getD j 0)) ∧ w' = W) := fun W => by
        have := number_calls C (6 + 4 * j) W HCs.out (by omega)
        rw [HC0.out j hlt2, show ((6 + 4 * j : Nat) : Int) = 6 + 4 * (j : Int) by omega] at this
        exact this
      have hx0 := HB0.out j hlt2
      have hmj := HMx.out j hlt2
      have hsm := HSm.out j hlt2
      have hbx := byteL_lt M.data.toList (2 * j)
      have hby := byteL_lt M.data.toList (2 * j + 1)
      have HY1 : Hid (byteL M.data.toList (2 * (j : Int)).toNat = byteL M.data.toList (2 * j)) := show _ = _ by rw [show (2 * (j : Int)).toNat = 2 * j by omega]
      have HY2 : Hid (byteL M.data.toList (2 * (j : Int) + 1).toNat = byteL M.data.toList (2 * j + 1)) := show _ = _ by rw [show (2 * (j : Int) + 1).toNat = 2 * j + 1 by omega]
      have HZj : Hid _ := HN0.out j
      have HNj : Hid _ := HNo.out j hlt2
      have HNsj : Hid _ := HNs.out j
      have HNzj : Hid _ := HNz.out j
      generalize byteL M.data.toList (2 * j) = x at hmj hbx HY1
      generalize byteL M.data.toList (2 * j + 1) = y at hmj hby HY2
      generalize ms.getD j 0 = mj at hmj hsm HZj
      generalize A0.getD j 0 = X0 at HX1 hx0 HZj
      generalize NZ j = Nj at HZj HNj
      have hD := Int.ediv_nonneg (show (0 : Int) ≤ q by omega) (show (0 : Int) ≤ (t : Int) by omega)
      have hD2 : q / (t : Int) * (t : Int) ≤ q := by
        have h1 := Int.mul_ediv_add_emod q (t : Int)
        have h2 := mod_bounds (show (0 : Int) < (t : Int) by omega) q
        rw [Int.mul_comm] at h1
        omega
      have hDl : q / (t : Int) ≤ q := Int.ediv_le_self _ (by omega)
      have e3 : q.tdiv (t : Int) = q / (t : Int) := Int.tdiv_eq_ediv_of_nonneg (by omega)
      generalize q / (t : Int) = D at hD hD2 hDl e3 HZj
      have hP0 : 0 ≤ D * mj := Int.mul_nonneg hD (by omega)
      have hP1 : D * mj ≤ q := Int.le_trans (Int.mul_le_mul_of_nonneg_left (by omega) hD) hD2
      have e1 : IntKind.i64.wrap (4 * (j : Int)) = 4 * (j : Int) := IntWalk.i64_in _ (by omega)
      have e2 : IntKind.i64.wrap (6 + 4 * (j : Int)) = 6 + 4 * (j : Int) := IntWalk.i64_in _ (by omega)
      have e3' : IntKind.i64.wrap (q.tdiv (t : Int)) = D := by rw [e3]; exact IntWalk.i64_in _ (by omega)
      have e3'' : IntKind.i64.wrap D = D := IntWalk.i64_in _ (by omega)
      have e4 : IntKind.i64.wrap (2 * (j : Int)) = 2 * (j : Int) := IntWalk.i64_in _ (by omega)
      have e5 : IntKind.i64.wrap (2 * (j : Int) + 1) = 2 * (j : Int) + 1 := IntWalk.i64_in _ (by omega)
      have e6 : IntKind.i64.wrap (256 * (x : Int)) = 256 * (x : Int) := IntWalk.i64_in _ (by omega)
      have e7 : IntKind.i64.wrap (256 * (x : Int) + (y : Int)) = mj := by rw [hmj]; exact IntWalk.i64_in _ (by omega)
      obtain ⟨P, hPP⟩ : ∃ P, P = D * mj := ⟨_, rfl⟩
      rw [← hPP] at hP0 hP1 HZj
      have e8 : IntKind.i64.wrap (D * mj) = P := by rw [← hPP]; exact IntWalk.i64_in _ (by omega)
      clear hPP
      have e9 : IntKind.i64.wrap (X0 - P) = X0 - P := IntWalk.i64_in _ (by omega)
      have et1 : ¬ (t : Int) = 0 := by omega
      have et2 : ¬ t = 0 := by omega
      have et0 : ((t : Int) == 0) = false := beq_eq_false_iff_ne.2 et1
      have HMs2 : Hid _ := HMs.out
      clear hmj
      go_wp2_with fail
      go_region_held3 (fun w' => w'.cell? ⟨g, 1, none⟩ = some (.int .i64 (t : Int)) ∧ w'.cell? ⟨g, 2, none⟩ = some (.int .i64 q))
        (first | go_keep)
        ((first | (go_at_call 52; refine Calls.mono (HX1.out _) ?_; rintro e w' ⟨rfl, rfl⟩) | (go_at_call 36; refine (octet_calls _ _ _ HMs2.out (by omega)).mono ?_; rintro e w' ⟨rfl, rfl⟩; first | rw [HY1.out] | rw [HY2.out])))
      have hur2 : Up w4 wr.drew := Up.drew hur
      generalize wr.drew = wq at hur2 ⊢
      clear e1 e2 e3 e3' e3'' e4 e5 e6 e7 e8 e9 et0 et1 et2 hc0 hc1 hc2 hc5 hcK hbx hby hsm
      obtain ⟨Z, hZ⟩ : ∃ Z, Z = X0 - P := ⟨_, rfl⟩
      have hZ1 : -1073741824 ≤ Z := by omega
      have hZ2 : Z ≤ 1073741824 := by omega
      rw [← hZ]
      have HZE : Hid (Nj = Z + SU j n) := show _ = _ by rw [HZj.out, hZ]
      clear hZ HZj
      go_wp2_with fail
      go_loopw [11, 12] (fun sn si wx => ∃ (i : Nat) (S : Int), i ≤ n ∧ si = .int .i64 (i : Int) ∧ sn = .int .i64 S ∧ Hid (S = Z + SU j i) ∧ -((i : Int) + 1) * 1073741824 ≤ S ∧ S ≤ ((i : Int) + 1) * 1073741824 ∧ Up w4 wx) (fun _ si _ => n - (intOf si).toNat)
      case atStart => exact ⟨0, Z, Nat.zero_le _, rfl, rfl, by show _ = _; rw [HNzj.out]; omega, by omega, by omega, hur2⟩
      case round =>
        obtain ⟨i, S, hi, rfl, rfl, HSe, hS1, hS2, hux⟩ := hrel
        have hBx := HB.out.up (hu03.trans hux)
        have hc0 := hBx.c0
        have hc2 := hBx.c2
        have hcK := keepC hux KK.out
        clear hBx
        by_cases hi2 : i < n
        · have HMd : Hid (((j : Int) - (i : Int)) % (n : Int) = ((if j < i then n + j - i else j - i : Nat) : Int)) := idx_mod n j i (by omega) hlt2 hi2
          have hu1 : (if j < i then n + j - i else j - i) < n := by split <;> omega
          have HNu : Hid (∀ W, Calls Try.prog 52 #[.string C, .int .i64 (6 + 4 * (n : Int) + 4 * (i : Int))] W fun e w' => e = .returned (.int .i64 (A1.getD i 0)) ∧ w' = W) := fun W => by
            have := number_calls C (6 + 4 * n + 4 * i) W HCs.out (by omega)
            rw [HC1.out i hi2, show ((6 + 4 * n + 4 * i : Nat) : Int) = 6 + 4 * (n : Int) + 4 * (i : Int) by omega] at this
            exact this
          have hx1 := HB1.out i hi2
          have HNi : Hid _ := HNsj.out i
          have HZi : Hid _ := HNS.out j i
          generalize hu : (if j < i then n + j - i else j - i) = u at HMd hu1
          have HU : Hid _ := hu
          clear hu
          have hs3 := HS3.out u hu1
          have hkx := HKx.out u hu1
          have HKy : Hid (byteL K.data.toList (1 + (u : Int)).toNat = byteL K.data.toList (u + 1)) := show _ = _ by rw [show (1 + (u : Int)).toNat = u + 1 by omega]
          have hyb := byteL_lt K.data.toList (u + 1)
          generalize byteL K.data.toList (u + 1) = y2 at hkx HKy hyb
          generalize hz : SS.getD u 0 = z at hs3 hkx
          have Hz : Hid _ := hz
          clear hz
          generalize A1.getD i 0 = X1 at HNu hx1 HNi
          have e1 : IntKind.i64.wrap ((j : Int) - (i : Int)) = (j : Int) - (i : Int) := IntWalk.i64_in _ (by omega)
          have e2 : IntKind.i64.wrap (1 + (u : Int)) = 1 + (u : Int) := IntWalk.i64_in _ (by omega)
          have e3 : IntKind.i64.wrap ((y2 : Int) - 1) = z := by rw [hkx]; exact IntWalk.i64_in _ (by omega)
          clear hkx
          have HKs2 : Hid _ := HKs.out
          obtain ⟨sv, hsv⟩ : ∃ sv, sv = ZS j i := ⟨_, rfl⟩
          have hsv2 : sv = if j < i then -z else z := by
            rw [hsv, HZi.out]
            split
            · rename_i h1
              have hU := HU.out
              rw [if_pos h1] at hU
              rw [hU, Hz.out]
            · rename_i h1
              have hU := HU.out
              rw [if_neg h1] at hU
              rw [hU, Hz.out]
          rw [← hsv] at HNi
          clear hsv
          have hsb : -1 ≤ sv ∧ sv ≤ 1 := by rw [hsv2]; split <;> omega
          have hpr := mul_three sv X1 hsb.1 hsb.2 hx1.1
          have HNx : Hid (S + sv * X1 = Z + SU j (i + 1)) := show _ = _ by rw [HNi.out, HSe.out]; omega
          obtain ⟨PZ, hPZ⟩ : ∃ PZ, PZ = sv * X1 := ⟨_, rfl⟩
          rw [← hPZ] at hpr HNx
          have E5 : Hid (wrap64 (sv * X1) = PZ) := show wrap64 (sv * X1) = PZ by rw [← hPZ]; exact IntWalk.wrap64_in _ (by omega)
          have E6 : Hid (wrap64 (S + PZ) = S + PZ) := show wrap64 (S + PZ) = S + PZ from IntWalk.wrap64_in _ (by omega)
          clear hPZ
          have hn0 : (n : Int) ≠ 0 := by omega
          go_wp2_with fail
          go_region_held3 (fun w' => w'.cell? ⟨g, 0, none⟩ = some (.int .i64 (n : Int)) ∧ w'.cell? ⟨g, 4, none⟩ = some (.string K))
            (first | go_keep)
            ((first | (go_at_call 53; refine (keepMod_calls _ _ _ (by omega) (by omega)).mono ?_; rintro e w' ⟨rfl, rfl⟩; rw [HMd.out]) | (go_at_call 36; refine (octet_calls _ _ _ HKs2.out (by omega)).mono ?_; rintro e w' ⟨rfl, rfl⟩; rw [HKy.out])))
          have hux2 : Up w4 wr.drew := Up.drew hux
          have hcq := keepC (Up.drew (Up.refl wr)) hc0
          generalize wr.drew = wz at hux2 hcq ⊢
          clear hc0 hc2 hcK e1 e2 e3
          by_cases hji : j < i
          · rw [if_pos hji] at hsv2
            have hzz : z = -sv := by omega
            have e7 : IntKind.i64.wrap (-z) = sv := by rw [← hsv2]; exact IntWalk.i64_in _ (by omega)
            have hji2 : (j : Int) < (i : Int) := by omega
            clear hsv2
            go_wp2_with fail
            refine Calls.mono (HNu.out _) ?_
            rintro e w' ⟨rfl, rfl⟩
            go_wp2_with fail
            rw [E5.out, E6.out]
            go_roundw
            case rel => exact ⟨i + 1, S + PZ, by omega, by go_num, rfl, HNx.out, by omega, by omega, hux2⟩
            case measure => simp [intOf]; omega
          · rw [if_neg hji] at hsv2
            subst hsv2
            have hji2 : ¬ (j : Int) < (i : Int) := by omega
            go_wp2_with fail
            refine Calls.mono (HNu.out _) ?_
            rintro e w' ⟨rfl, rfl⟩
            go_wp2_with fail
            rw [E5.out, E6.out]
            go_roundw
            case rel => exact ⟨i + 1, S + PZ, by omega, by go_num, rfl, HNx.out, by omega, by omega, hux2⟩
            case measure => simp [intOf]; omega
        · obtain rfl : i = n := by omega
          have hcen := HNj.out
          have hcb := cenA_bounds q Nj (by omega)
          have hmb := mod_bounds (show (0 : Int) < q by omega) S
          have hSN : Nj = S := by rw [HZE.out, HSe.out]
          rw [hSN] at hcen hcb
          have HCe : Hid (cenA q S = if 2 * (S % q) > q then q - S % q else S % q) := rfl
          clear hcK hSN HZE HNj
          go_wp2_with fail
          refine (keepMod_calls S q _ (by omega) (by omega)).mono ?_
          rintro e w' ⟨rfl, rfl⟩
          generalize hr : S % q = r at hmb HCe ⊢
          clear hr
          generalize cenA q S = ce at hcen hcb HCe
          by_cases h2 : 2 * r > q
          · have hce : ce = q - r := by rw [HCe.out, if_pos h2]
            subst hce
            by_cases h3 : M0 < q - r
            · go_wp2_with fail
              go_roundw
              case rel => exact ⟨j + 1, q - r, by omega, by go_num, by first | rfl | go_num, by omega, by omega, hux⟩
              case measure => simp [intOf]; omega
            · go_wp2_with fail
              go_roundw
              case rel => exact ⟨j + 1, M0, by omega, by go_num, rfl, by omega, by omega, hux⟩
              case measure => simp [intOf]; omega
          · have hce : ce = r := by rw [HCe.out, if_neg h2]
            subst hce
            by_cases h3 : M0 < ce
            · go_wp2_with fail
              go_roundw
              case rel => exact ⟨j + 1, ce, by omega, by go_num, by first | rfl | go_num, by omega, by omega, hux⟩
              case measure => simp [intOf]; omega
            · go_wp2_with fail
              go_roundw
              case rel => exact ⟨j + 1, M0, by omega, by go_num, rfl, by omega, by omega, hux⟩
              case measure => simp [intOf]; omega
    · obtain rfl : j = n := by omega
      clear hc1 hc2 hc5 hcK
      go_wp2_with fail
      go_ret
      exact ⟨M0, rfl, hM0, hM1, hu03.trans hur⟩

end Go.Proofs.Ytcjhgbljhpflfab
