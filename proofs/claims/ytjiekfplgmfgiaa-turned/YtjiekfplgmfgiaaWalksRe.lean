/-
  Walks: the reference's hidden.
  Walks: the reference's Key and TurnKey.
-/
import Derived.Test.YtjiekfplgmfgiaaWalksRc
namespace Go.Proofs.Ytjiekfplgmfgiaa
open Go.RowKit
set_option linter.unusedVariables false
set_option maxRecDepth 100000

theorem keepU {a k : Nat} {u : Value} {W W' : World} (hu : Up W W') (hS : W.cell? ⟨a, k, none⟩ = some u) : W'.cell? ⟨a, k, none⟩ = some u :=
  (hu.cell (p := ⟨a, k, none⟩) (World.block_lt_of_cell? W ⟨a, k, none⟩ hS)).trans hS

theorem getD_out (xs : List Int) (i : Nat) (h : xs.length ≤ i) : xs.getD i 0 = 0 := by
  rw [List.getD_eq_getElem?_getD, List.getElem?_eq_none h]; rfl

theorem Bnd_map {f : Nat → Int} {n : Nat} {m : Int} (hm : 0 ≤ m) (h : ∀ i, i < n → -m ≤ f i ∧ f i ≤ m) : Bnd ((List.range n).map f) m := by
  intro i
  by_cases hi : i < n
  · rw [getD_range hi]; exact h i hi
  · rw [getD_out _ _ (by simp; omega)]; omega

theorem Bnd_mod {f : Nat → Int} {n : Nat} {q m : Int} (hq : 0 < q) (hm : q ≤ m) (e : ∀ i, ∃ x, f i = x % q) : Bnd ((List.range n).map f) m := by
  refine Bnd_map (by omega) fun i _ => ?_
  obtain ⟨x, hx⟩ := e i
  have := mod_bounds hq x
  rw [hx]
  omega

theorem plusI_length (n : Nat) (xs ys : List Int) (q : Int) : (plusI n xs ys q).length = n := by simp [plusI]
theorem scaledI_length (n : Nat) (xs : List Int) (k q : Int) : (scaledI n xs k q).length = n := by simp [scaledI]
theorem timesI_length (n : Nat) (xs ys : List Int) (q : Int) : (timesI n xs ys q).length = n := by simp [timesI]
theorem pairA_length (l : List UInt8) (q : Int) (n at0 : Nat) : (pairA l q n at0).length = n := by simp [pairA]
theorem pairE_length (l : List UInt8) (n at0 : Nat) : (pairE l n at0).length = n := by simp [pairE]
theorem secI_length (l : List UInt8) (n : Nat) : (secI l n).length = n := by simp [secI]
theorem cubI_length (n : Nat) (xs : List Int) (q : Int) : (cubI n xs q).length = n := by simp [cubI]

theorem pairE_bnd (l : List UInt8) (n at0 : Nat) (m : Int) (hm : 2 ≤ m) : Bnd (pairE l n at0) m := by
  refine Bnd_map (by omega) fun i _ => ?_
  have := byteL_lt l (at0 + 4 * n + i)
  unfold prE
  omega

/-- m, hidden by a drawn pair, times k: c -/
def hidI (n : Nat) (s m : List Int) (k q : Int) (l : List UInt8) (at0 : Nat) : List Int :=
  plusI n (plusI n (pairE l n at0) (scaledI n m k q) q) (scaledI n (timesI n (pairA l q n at0) s q) (-1) q) q

theorem hidI_length (n : Nat) (s m : List Int) (k q : Int) (l : List UInt8) (at0 : Nat) : (hidI n s m k q l at0).length = n := plusI_length _ _ _ _

set_option maxHeartbeats 4000000 in
theorem hidden_calls (n at0 : Nat) (t q b k : Int) (ss ms : List Int) (gs gm cs cm : Nat) (d : ByteArray) (w : World) (hd : d.size ≤ maxLen) (hn : n ≤ 16) (hn1 : 1 ≤ n) (hat : at0 ≤ 1048576) (hq : 0 < q) (hq2 : q ≤ 1073741823) (hk1 : -1073741824 ≤ k) (hk2 : k ≤ 1073741824)
    (hls : ss.length = n) (hlm : ms.length = n) (is1 : IsI w gs ss) (im : IsI w gm ms) :
    Calls Try.prog 74 #[.agg #[.int .i64 n, .int .i64 t, .int .i64 q, .int .i64 b], .slice (some ⟨gs, 0, none⟩) n cs, .slice (some ⟨gm, 0, none⟩) n cm, .int .i64 k, .string d, .int .i64 at0] w
      fun e w' => ∃ vc va, e = .returned (.tuple #[vc, va]) ∧ OwnI w' w.heap.size vc (hidI n ss ms k q d.data.toList at0) ∧ OwnI w' w.heap.size va (pairA d.data.toList q n at0) ∧ Up w w' := by
  have HLS : Hid _ := hls
  have HLM : Hid _ := hlm
  clear hls hlm
  go_enter Try.func74, Try.ntmps74
  go_wp2_with fail
  refine (Pair_calls n at0 t q b d _ hd hn hat hq hq2).mono ?_
  rintro e w1 ⟨va, ve, rfl, hoa, hoe, hu1⟩
  obtain ⟨ga, ca, rfl, hga, ia⟩ := hoa.is (ne_nil_of_length (pairA_length _ _ _ _) (by omega))
  obtain ⟨ge, ce, rfl, hge, ie⟩ := hoe.is (ne_nil_of_length (pairE_length _ _ _) (by omega))
  rw [pairA_length, pairE_length] at *
  clear hoe
  obtain ⟨hc, hf⟩ := bcell hu1
  have hct : w1.cell? ⟨w.heap.size, 2, none⟩ = some (.int .i64 q) := by rw [hc _ _ (by simp)]; simp
  have im1 := (im.up ((Up.refl _).alloc _)).up hu1
  have is2 := (is1.up ((Up.refl _).alloc _)).up hu1
  clear hc hf
  go_wp2_with fail
  go_region_held3 (fun w' => w'.cell? ⟨w.heap.size, 2, none⟩ = some (.int .i64 q))
    (first | go_keep | exact keepU hu3 (by assumption) | exact keepU hu2 (by assumption))
    ((first | (go_at_call 91; refine (Scaled_calls n ms gm cm k q _ hn HLM.out hq hq2 hk1 hk2 (by exact im1.up (Up.drew (Up.refl _)))).mono ?_; rintro e w2 ⟨v2, rfl, ho2, hu2⟩; obtain ⟨g2, c2, rfl, hg2, i2⟩ := ho2.is (ne_nil_of_length (scaledI_length _ _ _ _) (by omega)); rw [scaledI_length]) | (go_at_call 83; refine (Plus_calls n _ _ ge g2 ce c2 q _ hn (pairE_length _ _ _) (scaledI_length _ _ _ _) hq hq2 (pairE_bnd _ _ _ _ (by omega)) (Bnd_mod hq (by omega) (fun i => ⟨_, rfl⟩)) (by exact (ie.up (Up.drew (Up.refl _))).up hu2) i2).mono ?_; rintro e w3 ⟨v3, rfl, ho3, hu3⟩; obtain ⟨g3, c3, rfl, hg3, i3⟩ := ho3.is (ne_nil_of_length (plusI_length _ _ _ _) (by omega)); rw [plusI_length])))
  have hct3 : w3.cell? ⟨w.heap.size, 2, none⟩ = some (.int .i64 q) := keepU hu3 (keepU hu2 (by exact hct))
  have hu13 : Up w1 w3 := Up.trans (Up.trans (Up.drew (Up.refl _)) hu2) hu3
  have ia3 := ia.up hu13
  have is3 := is2.up hu13
  clear hct hu2 hu3 ho2 ho3 i2
  go_wp2_with fail
  go_region_held3 (fun w' => w'.cell? ⟨w.heap.size, 2, none⟩ = some (.int .i64 q))
    (first | go_keep | exact keepU hu6 (by assumption) | exact keepU hu5 (by assumption) | exact keepU hu4 (by assumption))
    ((first | (go_at_call 84; refine (Times_calls n _ ss ga gs ca cs q _ hn (pairA_length _ _ _ _) HLS.out hq hq2 (Bnd_mod hq (by omega) (fun i => ⟨_, rfl⟩)) (by exact ia3.up (Up.drew (Up.refl _))) (by exact is3.up (Up.drew (Up.refl _)))).mono ?_; rintro e w4 ⟨v4, rfl, ho4, hu4⟩; obtain ⟨g4, c4, rfl, hg4, i4⟩ := ho4.is (ne_nil_of_length (timesI_length _ _ _ _) (by omega)); rw [timesI_length]) | (go_at_call 91; refine (Scaled_calls n _ g4 c4 (-1) q _ hn (timesI_length _ _ _ _) hq hq2 (by omega) (by omega) i4).mono ?_; rintro e w5 ⟨v5, rfl, ho5, hu5⟩; obtain ⟨g5, c5, rfl, hg5, i5⟩ := ho5.is (ne_nil_of_length (scaledI_length _ _ _ _) (by omega)); rw [scaledI_length]) | (go_at_call 83; refine (Plus_calls n _ _ g3 g5 c3 c5 q _ hn (plusI_length _ _ _ _) (scaledI_length _ _ _ _) hq hq2 (Bnd_mod hq (by omega) (fun i => ⟨_, rfl⟩)) (Bnd_mod hq (by omega) (fun i => ⟨_, rfl⟩)) (by exact ((i3.up (Up.drew (Up.refl _))).up hu4).up hu5) i5).mono ?_; rintro e w6 ⟨v6, rfl, ho6, hu6⟩)))
  have hu36 : Up w3 w6 := Up.trans (Up.trans (Up.trans (Up.drew (Up.refl _)) hu4) hu5) hu6
  have hsz5 : w.heap.size ≤ w5.heap.size := by
    have h1 := hu1.size
    have h2 := hu13.size
    have h3 := (Up.trans (Up.trans (Up.drew (Up.refl w3)) hu4) hu5).size
    simp at h1
    omega
  have hoa6 := hoa.up (hu13.trans hu36)
  clear hct3 hu4 hu5 hu6 ho4 ho5 i3 i4 i5 ia3 is3 hoa
  go_wp2_with fail
  go_ret2
  refine ⟨_, _, rfl, ho6.base hsz5, hoa6.base (by simp), ((((Up.refl _).alloc _).trans hu1).trans hu13).trans hu36⟩

end Go.Proofs.Ytjiekfplgmfgiaa

namespace Go.Proofs.Ytjiekfplgmfgiaa
open Go.RowKit
set_option linter.unusedVariables false
set_option maxRecDepth 100000

/-- the key of these draws -/
def keyL (l : List UInt8) (n : Nat) : List UInt8 := 75 :: (List.range n).map fun i => UInt8.ofNat (byteL l i % 3)

theorem keyL_succ (l : List UInt8) (n : Nat) : keyL l (n + 1) = keyL l n ++ [UInt8.ofNat (byteL l n % 3)] := by simp [keyL, List.range_succ]
theorem keyL_length (l : List UInt8) (n : Nat) : (keyL l n).length = n + 1 := by simp [keyL]

theorem add_str (xs ys : List UInt8) (hx : xs.length ≤ 1000000) (hy : ys.length ≤ 1000000) (W : World) : (Op.stringOp .add ⟨xs.toArray⟩ ⟨ys.toArray⟩).run Try.prog W = .ok (.string ⟨(xs ++ ys).toArray⟩) W :=
  run_string_add_lists (P := Try.prog) W xs ys (by omega) (by omega)

set_option maxHeartbeats 1000000 in
theorem refKey_ok (n : Nat) (t q b : Int) (s : ByteArray) (w : World) (hs : s.size ≤ maxLen) (hn : n ≤ 16) (hg : goodB n t q b = true) :
    Calls Try.prog 25 #[.agg #[.int .i64 n, .int .i64 t, .int .i64 q, .int .i64 b], .string s] w fun e w' => e = .returned (.tuple #[.string ⟨(keyL s.data.toList n).toArray⟩, .int .i64 0]) ∧ Up w w' := by
  go_enter Try.func25, Try.ntmps25
  go_wp2_with fail
  refine (refGood_calls _ _ _ _ _).mono ?_
  rintro e w1 ⟨rfl, hu1⟩
  go_wp2_with fail
  go_loopw [7, 8] (fun v j wr => ∃ k : Nat, k ≤ n ∧ j = .int .i64 (k : Int) ∧ v = .string ⟨(keyL s.data.toList k).toArray⟩ ∧ Up w1 wr) (fun _ j _ => n - (intOf j).toNat)
  case atStart => exact ⟨0, Nat.zero_le _, rfl, rfl, Up.refl _⟩
  case round =>
    obtain ⟨k, hk, rfl, rfl, hu⟩ := hrel
    obtain ⟨hc, hf⟩ := bcell (hu1.trans hu)
    by_cases hlt : k < n
    · have hb := byteL_lt s.data.toList k
      have HK : Hid _ := keyL_succ s.data.toList k
      have hadd := add_str (keyL s.data.toList k) [UInt8.ofNat (byteL s.data.toList k % 3)] (by rw [keyL_length]; omega) (by simp)
      have HT : Hid (∀ W, Calls Try.prog 67 #[.int .i64 ((byteL s.data.toList k : Int) % 3), .int .i64 1] W fun e w' => e = .returned (.string ⟨[UInt8.ofNat (byteL s.data.toList k % 3)].toArray⟩) ∧ Up W w') := fun W => by
        have h := Text_calls 1 (by omega) ((byteL s.data.toList k : Int) % 3) 1 W (by omega) (by omega) rfl
        have e : textL ((byteL s.data.toList k : Int) % 3).toNat 1 = [UInt8.ofNat (byteL s.data.toList k % 3)] := by
          have e1 : ((byteL s.data.toList k : Int) % 3).toNat = byteL s.data.toList k % 3 := by omega
          have e2 : byteL s.data.toList k % 3 % 256 = byteL s.data.toList k % 3 := by omega
          simp [textL, e1, e2]
        rw [e] at h
        exact h
      rw [← HK.out] at hadd
      generalize hkl : keyL s.data.toList (k + 1) = kl at hadd HK
      have HKL : Hid _ := hkl
      clear hkl
      go_wp2_with fail
      refine (Byte_calls _ _ _ hs (by omega)).mono ?_
      rintro e w' ⟨rfl, rfl⟩
      rw [Int.toNat_natCast]
      go_wp2_with fail
      refine Calls.mono (HT.out _) ?_
      rintro e w2 ⟨rfl, hu2⟩
      clear HT hc hf
      generalize [UInt8.ofNat (byteL s.data.toList k % 3)].toArray = tx at hadd
      go_wp2_with fail
      go_roundw
      case rel => exact ⟨k + 1, by omega, by go_num, by rw [HKL.out], hu.trans hu2⟩
      case measure => simp [intOf]; omega
    · obtain rfl : k = n := by omega
      go_wp2_with fail
      go_ret2
      exact ⟨rfl, (((Up.refl _).alloc _).trans hu1).trans hu⟩

set_option maxHeartbeats 400000 in
theorem refKey_bad (n t q b : Int) (s : ByteArray) (w : World) (hg : goodB n t q b = false) :
    Calls Try.prog 25 #[.agg #[.int .i64 n, .int .i64 t, .int .i64 q, .int .i64 b], .string s] w fun e w' => e = .returned (.tuple #[.string ⟨#[]⟩, .int .i64 1]) ∧ Up w w' := by
  go_enter Try.func25, Try.ntmps25
  go_wp2_with (go_at_call 18; refine (refGood_calls _ _ _ _ _).mono ?_; rintro e w' ⟨rfl, hu⟩)
  go_ret2
  exact ⟨rfl, ((Up.refl _).alloc _).trans hu⟩

set_option maxHeartbeats 400000 in
theorem refTurnKey_bad (n t q b : Int) (k s : ByteArray) (w : World) (hg : goodB n t q b = false) :
    Calls Try.prog 27 #[.agg #[.int .i64 n, .int .i64 t, .int .i64 q, .int .i64 b], .string k, .string s] w fun e w' => e = .returned (.tuple #[.string ⟨#[]⟩, .int .i64 1]) ∧ Up w w' := by
  go_enter Try.func27, Try.ntmps27
  go_wp2_with (go_at_call 18; refine (refGood_calls _ _ _ _ _).mono ?_; rintro e w' ⟨rfl, hu⟩)
  go_ret2
  exact ⟨rfl, ((Up.refl _).alloc _).trans hu⟩

set_option maxHeartbeats 1000000 in
theorem refTurnKey_form (n : Nat) (t q b : Int) (k s : ByteArray) (w : World) (hk : k.size ≤ maxLen) (hn : n ≤ 16) (hg : goodB n t q b = true) (h : secB k.data.toList n = false) :
    Calls Try.prog 27 #[.agg #[.int .i64 n, .int .i64 t, .int .i64 q, .int .i64 b], .string k, .string s] w fun e w' => e = .returned (.tuple #[.string ⟨#[]⟩, .int .i64 2]) ∧ Up w w' := by
  go_enter Try.func27, Try.ntmps27
  go_wp2_with fail
  refine (refGood_calls _ _ _ _ _).mono ?_
  rintro e w1 ⟨rfl, hu1⟩
  obtain ⟨hc, hf⟩ := bcell hu1
  go_wp2_with fail
  refine (Secret_no n t q b k _ hk hn h).mono ?_
  rintro e w2 ⟨rfl, hu2⟩
  go_wp2_with fail
  go_ret2
  exact ⟨rfl, (((Up.refl _).alloc _).trans hu1).trans hu2⟩

/-- the least number of digits -/
structure DigOf (q b : Int) (L : Nat) : Prop where
  top : q ≤ 2 ^ (b.toNat * L)
  low : ∀ j, j < L → (2 : Int) ^ (b.toNat * j) < q

theorem DigOf.le {q b : Int} {L : Nat} (h : DigOf q b L) (hb : 1 ≤ b) (hq : q ≤ 1073741823) : L ≤ 30 := by
  rcases Nat.lt_or_ge 30 L with c | c
  · exfalso
    have h3 := h.low 30 c
    have h4 : (2 : Int) ^ (1 * 30) ≤ 2 ^ (b.toNat * 30) := by
      have : (2 : Nat) ^ (1 * 30) ≤ 2 ^ (b.toNat * 30) := Nat.pow_le_pow_right (by omega) (Nat.mul_le_mul_right _ (by omega))
      exact_mod_cast this
    have h5 : (2 : Int) ^ (1 * 30) = 1073741824 := by decide
    omega
  · exact c

/-- the pairs of a turning key, the first L -/
def tkL (n : Nat) (ss : List Int) (q b : Int) (l : List UInt8) : Nat → List UInt8
  | 0 => [82]
  | i + 1 => tkL n ss q b l i ++ textsL 4 (hidI n ss (cubI n ss q) (2 ^ (b.toNat * i)) q l (5 * n * i)) ++ textsL 4 (pairA l q n (5 * n * i))

theorem tkL_length (n : Nat) (ss : List Int) (q b : Int) (l : List UInt8) (i : Nat) : (tkL n ss q b l i).length = 1 + 8 * n * i := by
  induction i with
  | zero => rfl
  | succ i ih =>
    simp only [tkL, List.length_append, ih, textsL_length, hidI_length, pairA_length]
    rw [Nat.mul_succ]
    omega

theorem secI_bnd (l : List UInt8) (n : Nat) : Bnd (secI l n) 4294967296 := by
  refine Bnd_map (by omega) fun i _ => ?_
  have := byteL_lt l (i + 1)
  omega

theorem plusI_bounds (n : Nat) (xs ys : List Int) (q : Int) (hq : 0 < q) (i : Nat) (hi : i < (plusI n xs ys q).length) : 0 ≤ (plusI n xs ys q).getD i 0 ∧ (plusI n xs ys q).getD i 0 < q := by
  rw [plusI_length] at hi
  unfold plusI
  rw [getD_range hi]
  exact mod_bounds hq _

theorem hidI_bounds (n : Nat) (ss ms : List Int) (k q : Int) (l : List UInt8) (at0 : Nat) (hq : 0 < q) (i : Nat) (hi : i < (hidI n ss ms k q l at0).length) : 0 ≤ (hidI n ss ms k q l at0).getD i 0 ∧ (hidI n ss ms k q l at0).getD i 0 < q := plusI_bounds n _ _ q hq i hi

theorem pairA_bounds (l : List UInt8) (q : Int) (n at0 : Nat) (hq : 0 < q) (i : Nat) (hi : i < (pairA l q n at0).length) : 0 ≤ (pairA l q n at0).getD i 0 ∧ (pairA l q n at0).getD i 0 < q := by
  rw [pairA_length] at hi
  unfold pairA
  rw [getD_range hi]
  exact mod_bounds hq _

theorem keep4 {a : Nat} {u0 u1 u2 u3 : Value} {W W' : World} (hu : Up W W') (hS : W.cell? ⟨a, 0, none⟩ = some u0 ∧ W.cell? ⟨a, 1, none⟩ = some u1 ∧ W.cell? ⟨a, 2, none⟩ = some u2 ∧ W.cell? ⟨a, 3, none⟩ = some u3) :
    W'.cell? ⟨a, 0, none⟩ = some u0 ∧ W'.cell? ⟨a, 1, none⟩ = some u1 ∧ W'.cell? ⟨a, 2, none⟩ = some u2 ∧ W'.cell? ⟨a, 3, none⟩ = some u3 :=
  ⟨keepU hu hS.1, keepU hu hS.2.1, keepU hu hS.2.2.1, keepU hu hS.2.2.2⟩

theorem pow_b (b : Int) (hb : 1 ≤ b) (hb2 : b ≤ 8) : (2 : Int) ^ b.toNat % 1048576 = 2 ^ b.toNat ∧ (2 : Int) ^ b.toNat ≤ 256 ∧ 2 ≤ (2 : Int) ^ b.toNat := by
  obtain ⟨m, rfl⟩ := Int.eq_ofNat_of_zero_le (a := b) (by omega)
  rw [Int.toNat_natCast]
  rcases (show m = 1 ∨ m = 2 ∨ m = 3 ∨ m = 4 ∨ m = 5 ∨ m = 6 ∨ m = 7 ∨ m = 8 from by omega) with rfl | rfl | rfl | rfl | rfl | rfl | rfl | rfl <;> decide

set_option maxHeartbeats 4000000 in
theorem refTurnKey_ok (n L : Nat) (t q b : Int) (k s : ByteArray) (w : World) (hk : k.size ≤ maxLen) (hs : s.size ≤ maxLen) (hn : n = 4 ∨ n = 8 ∨ n = 16) (hq : 2 ≤ q) (hq2 : q ≤ 1073741823) (hb : 1 ≤ b) (hb2 : b ≤ 8) (hL : DigOf q b L) (hg : goodB n t q b = true) (h : secB k.data.toList n = true) :
    Calls Try.prog 27 #[.agg #[.int .i64 n, .int .i64 t, .int .i64 q, .int .i64 b], .string k, .string s] w fun e w' => e = .returned (.tuple #[.string ⟨(tkL n (secI k.data.toList n) q b s.data.toList L).toArray⟩, .int .i64 0]) ∧ Up w w' := by
  have hL30 := hL.le hb hq2
  have hn2 : n ≤ 16 := by omega
  have hn3 : 4 ≤ n := by omega
  have HN : Hid _ := hn
  have HLo : Hid _ := hL.low
  have HTop : Hid _ := hL.top
  clear hn hL
  go_enter Try.func27, Try.ntmps27
  go_wp2_with fail
  refine (refGood_calls _ _ _ _ _).mono ?_
  rintro e w1 ⟨rfl, hu1⟩
  obtain ⟨hc, hf⟩ := bcell hu1
  go_wp2_with fail
  refine (Secret_ok n t q b k _ hk hn2 (by omega) h).mono ?_
  rintro e w2 ⟨v, rfl, hown, hu2⟩
  obtain ⟨gs, cs, rfl, _, is1⟩ := hown.is (ne_nil_of_length (secI_length _ _) (by omega))
  rw [secI_length]
  have hu12 := hu1.trans hu2
  clear hc hf hown hu1 hu2
  have HB : Hid _ := secI_bnd k.data.toList n
  have HSL : Hid _ := secI_length k.data.toList n
  generalize hss : secI k.data.toList n = ss at is1 HB HSL
  have HSS : Hid _ := hss
  clear hss
  go_wp2_with fail
  go_loopw [11, 12, 13] (fun o m j wr => ∃ i : Nat, i ≤ L ∧ j = .int .i64 (i : Int) ∧ m = .int .i64 (2 ^ (b.toNat * i)) ∧ o = .string ⟨(tkL n ss q b s.data.toList i).toArray⟩ ∧ Up w2 wr) (fun _ _ j _ => L - (intOf j).toNat)
  case atStart => exact ⟨0, Nat.zero_le _, rfl, by simp, rfl, Up.refl _⟩
  case round =>
    obtain ⟨i, hi, rfl, rfl, rfl, hur⟩ := hrel
    obtain ⟨hc, hf⟩ := bcell (hu12.trans hur)
    go_wp2_with fail
    refine (Digits_calls L _ _ _ _ _ hq hq2 hb hb2 HTop.out HLo.out).mono ?_
    rintro e w3 ⟨rfl, hu3⟩
    have hur3 := hur.trans hu3
    clear hc hf hur hu3
    by_cases hiL : i < L
    · have hlow := HLo.out i hiL
      have hpos : 1 ≤ (2 : Int) ^ (b.toNat * i) := by
        have : 1 ≤ (2 : Nat) ^ (b.toNat * i) := Nat.one_le_two_pow
        exact_mod_cast this
      have HS1 : Hid ((2 : Int) ^ (b.toNat * i) * 2 ^ b.toNat = 2 ^ (b.toNat * (i + 1))) := by
        show _ = _
        rw [← Int.pow_add, Nat.mul_succ]
      have HTK : Hid (tkL n ss q b s.data.toList (i + 1) = tkL n ss q b s.data.toList i ++ textsL 4 (hidI n ss (cubI n ss q) (2 ^ (b.toNat * i)) q s.data.toList (5 * n * i)) ++ textsL 4 (pairA s.data.toList q n (5 * n * i))) := rfl
      have htl := tkL_length n ss q b s.data.toList i
      have hnm : 5 * n * i ≤ 5 * 16 * 30 := Nat.mul_le_mul (Nat.mul_le_mul (Nat.le_refl _) hn2) (by omega)
      have hnm8 : 8 * n * i ≤ 8 * 16 * 30 := Nat.mul_le_mul (Nat.mul_le_mul (Nat.le_refl _) hn2) (by omega)
      have hnmI : 5 * (n : Int) * (i : Int) = ((5 * n * i : Nat) : Int) := by rw [Int.natCast_mul, Int.natCast_mul]; rfl
      generalize 5 * n * i = a0 at hnm hnmI HTK
      generalize (2 : Int) ^ (b.toNat * i) = v at hlow hpos HS1 HTK
      have e1 : IntKind.i64.wrap (5 * (n : Int)) = 5 * (n : Int) := IntWalk.i64_in _ (by omega)
      have e2 : IntKind.i64.wrap (5 * (n : Int) * (i : Int)) = (a0 : Int) := by rw [hnmI]; exact IntWalk.i64_in _ (by omega)
      have is3 := is1.up hur3
      obtain ⟨hc, hf⟩ := bcell (hu12.trans hur3)
      have hS3 : w3.cell? ⟨w.heap.size, 0, none⟩ = some (.int .i64 (n : Int)) ∧ w3.cell? ⟨w.heap.size, 1, none⟩ = some (.int .i64 t) ∧ w3.cell? ⟨w.heap.size, 2, none⟩ = some (.int .i64 q) ∧ w3.cell? ⟨w.heap.size, 3, none⟩ = some (.int .i64 b) := by
        refine ⟨?_, ?_, ?_, ?_⟩ <;> (rw [hc _ _ (by simp)]; simp)
      obtain ⟨hS0, hS1, hS2, hS3'⟩ := hS3
      have HH : Hid _ := hnmI
      clear hnmI hc hf
      go_wp2_with fail
      go_region_held3 (fun w' => w'.cell? ⟨w.heap.size, 0, none⟩ = some (.int .i64 (n : Int)) ∧ w'.cell? ⟨w.heap.size, 1, none⟩ = some (.int .i64 t) ∧ w'.cell? ⟨w.heap.size, 2, none⟩ = some (.int .i64 q) ∧ w'.cell? ⟨w.heap.size, 3, none⟩ = some (.int .i64 b))
        (first | go_keep | exact keep4 hu5 (by assumption) | exact keep4 hu4 (by assumption))
        ((first | (go_at_call 75; refine (Cubed_calls n ss gs cs q _ HN.out HSL.out (by omega) hq2 HB.out (by exact is3.up (Up.drew (Up.refl _)))).mono ?_; rintro e w4 ⟨v4, rfl, ho4, hu4⟩; obtain ⟨g4, c4, rfl, hg4, i4⟩ := ho4.is (ne_nil_of_length (cubI_length _ _ _) (by omega)); rw [cubI_length]) | (go_at_call 74; refine (hidden_calls n a0 t q b v ss (cubI n ss q) gs g4 cs c4 s _ hs hn2 (by omega) (by omega) (by omega) hq2 (by omega) (by omega) HSL.out (cubI_length _ _ _) (by exact (is3.up (Up.drew (Up.refl _))).up hu4) i4).mono ?_; rintro e w5 ⟨vc, va, rfl, hoc, hoa, hu5⟩)))
      obtain ⟨gc, cc, rfl, _, ic⟩ := hoc.is (ne_nil_of_length (hidI_length _ _ _ _ _ _ _) (by omega))
      obtain ⟨ga, ca, rfl, _, ia⟩ := hoa.is (ne_nil_of_length (pairA_length _ _ _ _) (by omega))
      have hlc := hidI_length n ss (cubI n ss q) v q s.data.toList a0
      have hla := pairA_length s.data.toList q n a0
      have hbc : ∀ j, j < (hidI n ss (cubI n ss q) v q s.data.toList a0).length → 0 ≤ (hidI n ss (cubI n ss q) v q s.data.toList a0).getD j 0 ∧ (hidI n ss (cubI n ss q) v q s.data.toList a0).getD j 0 ≤ 4611686018427387904 := fun j hj => by
        have := hidI_bounds n ss (cubI n ss q) v q s.data.toList a0 (by omega) j hj
        exact ⟨this.1, by omega⟩
      have hba : ∀ j, j < (pairA s.data.toList q n a0).length → 0 ≤ (pairA s.data.toList q n a0).getD j 0 ∧ (pairA s.data.toList q n a0).getD j 0 ≤ 4611686018427387904 := fun j hj => by
        have := pairA_bounds s.data.toList q n a0 (by omega) j hj
        exact ⟨this.1, by omega⟩
      have HBC : Hid _ := hbc
      have HBA : Hid _ := hba
      generalize hidI n ss (cubI n ss q) v q s.data.toList a0 = hc0 at HTK ic hlc HBC
      generalize pairA s.data.toList q n a0 = ha0 at HTK ia hla HBA
      have hadd1 := add_str (tkL n ss q b s.data.toList i) (textsL 4 hc0) (by omega) (by rw [textsL_length]; omega)
      have hadd2 := add_str (tkL n ss q b s.data.toList i ++ textsL 4 hc0) (textsL 4 ha0) (by rw [List.length_append, textsL_length]; omega) (by rw [textsL_length]; omega)
      rw [← HTK.out] at hadd2
      generalize htk1 : tkL n ss q b s.data.toList (i + 1) = tk1 at hadd2
      have HTK1 : Hid _ := htk1
      generalize tkL n ss q b s.data.toList i ++ textsL 4 hc0 = tk0 at hadd1 hadd2
      have HLC : Hid _ := hlc
      have HLA : Hid _ := hla
      have hu35 : Up w3 w5 := Up.trans (Up.trans (Up.drew (Up.refl _)) hu4) hu5
      have hur5 := hur3.trans hu35
      clear hbc hba htl HTK htk1 hlc hla hoc hoa hu4 hu5 ho4 i4 is3 e1 e2 hS0 hS1 hS2 hS3' hu35 hur3
      go_wp2_with fail
      refine (Texts_calls hc0 gc cc 4 _ (by omega) (by rw [HLC.out]; omega) HBC.out ic).mono ?_
      rintro e w6 ⟨rfl, hu6⟩
      generalize textsL 4 hc0 = tc at hadd1
      go_wp2_with fail
      refine (Texts_calls ha0 ga ca 4 _ (by omega) (by rw [HLA.out]; omega) HBA.out (ia.up hu6)).mono ?_
      rintro e w7 ⟨rfl, hu7⟩
      have hur7 := (hur5.trans hu6).trans hu7
      obtain ⟨hc, hf⟩ := bcell (hu12.trans hur7)
      clear hu6 hu7 hur5 ia ic hadd1
      generalize textsL 4 ha0 = ta at hadd2
      go_wp2_with fail
      refine (raised_calls _ _ _ _ (by omega) (by omega) (by omega) (by omega) (by omega) (by omega)).mono ?_
      rintro e w' ⟨rfl, rfl⟩
      have hpow : (2 : Int) ^ b.toNat % 1048576 = 2 ^ b.toNat ∧ (2 : Int) ^ b.toNat ≤ 256 ∧ 2 ≤ (2 : Int) ^ b.toNat := pow_b b hb hb2
      rw [hpow.1]
      have hp2 := hpow.2.1
      have hp3 := hpow.2.2
      clear hpow hadd2
      generalize (2 : Int) ^ b.toNat = p at hp2 hp3 HS1
      have h3 : 0 ≤ v * p := Int.mul_nonneg (by omega) (by omega)
      have h4 : v * p ≤ 1073741823 * 256 := Int.mul_le_mul (by omega) (by omega) (by omega) (by omega)
      go_wp2_with fail
      go_roundw
      case rel => exact ⟨i + 1, by omega, by go_num, by rw [← HS1.out], by rw [HTK1.out], hur7⟩
      case measure => simp [intOf]; omega
    · obtain rfl : i = L := by omega
      go_wp2_with fail
      go_ret2
      exact ⟨by rw [HSS.out]; rfl, (((Up.refl _).alloc _).trans hu12).trans hur3⟩

end Go.Proofs.Ytjiekfplgmfgiaa
