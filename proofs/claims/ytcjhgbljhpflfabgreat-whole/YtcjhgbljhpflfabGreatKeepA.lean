/-
  Texts that are written and read again; ciphertexts, what they hold, and what comes of them. No program here.
-/
import Derived.Test.YtcjhgbljhpflfabGreatMathK
import Derived.Test.YtcjhgbljhpflfabGreatWalksY
namespace Go.Proofs.YtcjhgbljhpflfabGreat
open Go.RowKit
set_option linter.unusedVariables false

theorem byteL_at (A B : List UInt8) (b : UInt8) : byteL (A ++ b :: B) A.length = b.toNat := by
  unfold byteL
  rw [List.getD_eq_getElem?_getD, List.getElem?_append_right (Nat.le_refl _), Nat.sub_self]
  rfl

theorem numL_text (k : Nat) : ∀ (A B : List UInt8) (x : Nat), x < 256 ^ k → numL (A ++ (textL x k ++ B)) A.length k = x := by
  induction k with
  | zero =>
    intro A B x hx
    have : x = 0 := by simpa using hx
    subst this
    rfl
  | succ k ih =>
    intro A B x hx
    show 256 * numL (A ++ ((textL (x / 256) k ++ [UInt8.ofNat (x % 256)]) ++ B)) A.length k + byteL (A ++ ((textL (x / 256) k ++ [UInt8.ofNat (x % 256)]) ++ B)) (A.length + k) = x
    have e1 : A ++ ((textL (x / 256) k ++ [UInt8.ofNat (x % 256)]) ++ B) = A ++ (textL (x / 256) k ++ (UInt8.ofNat (x % 256) :: B)) := by simp
    have e2 : A ++ (textL (x / 256) k ++ (UInt8.ofNat (x % 256) :: B)) = (A ++ textL (x / 256) k) ++ (UInt8.ofNat (x % 256) :: B) := by simp
    have h1 : x / 256 < 256 ^ k := Nat.div_lt_of_lt_mul (by rw [Nat.pow_succ, Nat.mul_comm] at hx; exact hx)
    rw [e1, ih A _ _ h1, e2]
    have e3 := byteL_at (A ++ textL (x / 256) k) B (UInt8.ofNat (x % 256))
    rw [List.length_append, textL_length] at e3
    rw [e3]
    have : (UInt8.ofNat (x % 256)).toNat = x % 256 := by simp
    rw [this]
    omega

theorem textsL_append (n : Nat) (xs ys : List Int) : textsL n (xs ++ ys) = textsL n xs ++ textsL n ys := by
  induction xs with
  | nil => rfl
  | cons x xs ih => simp [textsL, ih]

theorem split_at (xs : List Int) (i : Nat) (h : i < xs.length) : xs = xs.take i ++ xs.getD i 0 :: xs.drop (i + 1) := by
  rw [List.getD_eq_getElem?_getD, List.getElem?_eq_getElem h]
  simp

theorem numL_texts (A B : List UInt8) (xs : List Int) (w i : Nat) (hi : i < xs.length) (hx : (xs.getD i 0).toNat < 256 ^ w) : numL (A ++ (textsL w xs ++ B)) (A.length + w * i) w = (xs.getD i 0).toNat := by
  have e := split_at xs i hi
  have e2 : textsL w xs = textsL w (xs.take i) ++ (textL (xs.getD i 0).toNat w ++ textsL w (xs.drop (i + 1))) := by
    conv => lhs; rw [e]
    rw [textsL_append]
    rfl
  rw [e2]
  have e3 : A ++ (textsL w (xs.take i) ++ (textL (xs.getD i 0).toNat w ++ textsL w (xs.drop (i + 1))) ++ B) = (A ++ textsL w (xs.take i)) ++ (textL (xs.getD i 0).toNat w ++ (textsL w (xs.drop (i + 1)) ++ B)) := by simp
  have e4 := numL_text w (A ++ textsL w (xs.take i)) (textsL w (xs.drop (i + 1)) ++ B) _ hx
  rw [List.length_append, textsL_length, List.length_take, Nat.min_eq_left (Nat.le_of_lt hi)] at e4
  rw [e3, e4]

/-- a list is what lies at its places -/
theorem list_range (xs : List Int) (n : Nat) (hl : xs.length = n) : (List.range n).map (fun i => xs.getD i 0) = xs := by
  apply List.ext_getElem
  · simp [hl]
  · intro i h1 h2
    simp [List.getD_eq_getElem?_getD, List.getElem?_eq_getElem h2]

theorem list_same {xs ys : List Int} {n : Nat} (h1 : xs.length = n) (h2 : ys.length = n) (h : ∀ i, i < n → xs.getD i 0 = ys.getD i 0) : xs = ys := by
  rw [← list_range xs n h1, ← list_range ys n h2]
  exact List.map_congr_left fun i hi => h i (List.mem_range.1 hi)

theorem toNat_lt {x m : Int} {k : Nat} (h0 : 0 ≤ x) (h1 : x < m) (hm : m ≤ ((256 ^ k : Nat) : Int)) : x.toNat < 256 ^ k := by omega

theorem okL_texts (xs : List Int) (n w : Nat) (m : Int) (hl : xs.length = n) (hb : ∀ i, i < n → 0 ≤ xs.getD i 0 ∧ xs.getD i 0 < m) (hm : m ≤ ((256 ^ w : Nat) : Int)) : okL (textsL w xs) n w m = true := by
  rw [okL_iff]
  refine ⟨by rw [textsL_length, hl, Nat.mul_comm], fun i hi => ?_⟩
  obtain ⟨h0, h1⟩ := hb i hi
  have e := numL_texts [] [] xs w i (by omega) (toNat_lt h0 h1 hm)
  rw [List.append_nil, List.nil_append, List.length_nil, Nat.zero_add] at e
  rw [Nat.mul_comm, e]
  omega

theorem nums_texts (xs : List Int) (n w : Nat) (m : Int) (hl : xs.length = n) (hb : ∀ i, i < n → 0 ≤ xs.getD i 0 ∧ xs.getD i 0 < m) (hm : m ≤ ((256 ^ w : Nat) : Int)) : numsL (textsL w xs) w n = xs := by
  rw [numsL_range]
  conv => rhs; rw [← list_range xs n hl]
  refine List.map_congr_left fun i hi => ?_
  have hi := List.mem_range.1 hi
  obtain ⟨h0, h1⟩ := hb i hi
  have e := numL_texts [] [] xs w i (by omega) (toNat_lt h0 h1 hm)
  rw [List.append_nil, List.nil_append, List.length_nil, Nat.zero_add] at e
  rw [Nat.mul_comm, e]
  omega

/-- a ciphertext that is written, read again -/
theorem told_read (n e : Nat) (t q : Int) (c0 c1 : List Int) (h0 : c0.length = n) (h1 : c1.length = n) (hq : q ≤ 4294967296) (b0 : ∀ i, i < n → 0 ≤ c0.getD i 0 ∧ c0.getD i 0 < q) (b1 : ∀ i, i < n → 0 ≤ c1.getD i 0 ∧ c1.getD i 0 < q) (he : e < 1099511627776) (hf : fitsB t q e = true) :
    ctB (toldL e c0 c1) n t q = true ∧ ctE (toldL e c0 c1) = e ∧ ct0 (toldL e c0 c1) n = c0 ∧ ct1 (toldL e c0 c1) n = c1 := by
  have hp : ((256 ^ 4 : Nat) : Int) = 4294967296 := by decide
  have a0 : toldL e c0 c1 = [67] ++ (textL e 5 ++ (textsL 4 c0 ++ textsL 4 c1)) := by unfold toldL; simp
  have a1 : toldL e c0 c1 = ([67] ++ textL e 5) ++ (textsL 4 c0 ++ textsL 4 c1) := by unfold toldL; simp
  have a2 : toldL e c0 c1 = ([67] ++ textL e 5 ++ textsL 4 c0) ++ (textsL 4 c1 ++ []) := by unfold toldL; simp
  have l1 : ([67] ++ textL e 5).length = 6 := by rw [List.length_append, textL_length]; rfl
  have l2 : ([67] ++ textL e 5 ++ textsL 4 c0).length = 6 + 4 * n := by rw [List.length_append, l1, textsL_length, h0]
  have eE : ctE (toldL e c0 c1) = e := by
    unfold ctE
    rw [a0]
    exact numL_text 5 [67] _ e (by have : (256 : Nat) ^ 5 = 1099511627776 := by decide
                                   omega)
  have e0 : ct0 (toldL e c0 c1) n = c0 := by
    unfold ct0
    conv => rhs; rw [← list_range c0 n h0]
    refine List.map_congr_left fun i hi => ?_
    have hi := List.mem_range.1 hi
    have e := numL_texts ([67] ++ textL e 5) (textsL 4 c1) c0 4 i (by omega) (toNat_lt (b0 i hi).1 (b0 i hi).2 (by omega))
    rw [l1] at e
    rw [a1, e]
    have := b0 i hi
    omega
  have e1 : ct1 (toldL e c0 c1) n = c1 := by
    unfold ct1
    conv => rhs; rw [← list_range c1 n h1]
    refine List.map_congr_left fun i hi => ?_
    have hi := List.mem_range.1 hi
    have e := numL_texts ([67] ++ textL e 5 ++ textsL 4 c0) [] c1 4 i (by omega) (toNat_lt (b1 i hi).1 (b1 i hi).2 (by omega))
    rw [l2] at e
    rw [a2, e]
    have := b1 i hi
    omega
  refine ⟨?_, eE, e0, e1⟩
  rw [ctB_iff]
  refine ⟨?_, ?_, ?_, ?_, ?_⟩
  · rw [a2, List.length_append, l2, List.append_nil, textsL_length, h1]; omega
  · rw [a0]; rfl
  · have : ((toldL e c0 c1).take (6 + 4 * n)).drop 6 = textsL 4 c0 := by
      rw [a2, ← l2, List.take_left, ← l1, List.drop_left]
    rw [this]
    exact okL_texts c0 n 4 q h0 b0 (by omega)
  · have : (toldL e c0 c1).drop (6 + 4 * n) = textsL 4 c1 := by
      rw [a2, ← l2, List.drop_left, List.append_nil]
    rw [this]
    exact okL_texts c1 n 4 q h1 b1 (by omega)
  · rw [eE]; exact hf

/-- l is a ciphertext with the bound E, and holds the polynomial ms under the key s -/
structure IsCT (n t : Nat) (q : Int) (s : List Int) (l : List UInt8) (ms : List Int) (E : Nat) : Prop where
  ct : ctB l n t q = true
  bound : ctE l = E
  len : ms.length = n
  small : ∀ i, i < n → 0 ≤ ms.getD i 0 ∧ ms.getD i 0 < (t : Int)
  holds : Holds n t q s (ct0 l n) (ct1 l n) ms E

theorem IsCT.fits {n t : Nat} {q : Int} {s : List Int} {l : List UInt8} {ms : List Int} {E : Nat} (h : IsCT n t q s l ms E) : fitsB t q E = true := by
  have := ((ctB_iff _ _ _ _).1 h.ct).2.2.2.2
  rw [h.bound] at this
  exact this

/-- what Decrypt makes of it -/
theorem IsCT.opens {n t : Nat} {q : Int} {k l : List UInt8} {ms : List Int} {E : Nat} (hn : 0 < n) (ht : 1 ≤ t) (hq : 0 < q) (h : IsCT n t q (secI k n) l ms E) : openL n t q k l = textsL 2 (decI n t ms) := by
  have e : openI n t q (mixI n q l k) = ms := by
    refine list_same (n := n) (by simp [openI]) h.len fun i hi => ?_
    rw [openI, getD_range hi]
    exact h.holds.opens hn (by omega) hq h.small h.fits i hi
  show textsL 2 (decI n t (openI n t q (mixI n q l k))) = _
  rw [e]

theorem prE_bounds (l : List UInt8) (n at0 i : Nat) : -2 ≤ prE l n at0 i ∧ prE l n at0 i ≤ 2 := by
  unfold prE
  omega

theorem encI_small {n t : Nat} (g : NT n t) (xs : List Int) : ∀ i, i < n → 0 ≤ (encI n t xs).getD i 0 ∧ (encI n t xs).getD i 0 < (t : Int) := encI_lt g xs

theorem mod_ex {a b q : Int} (h : a % q = b % q) : ∃ k, a = b + q * k := by
  refine ⟨a / q - b / q, ?_⟩
  have h1 := Int.mul_ediv_add_emod a q
  have h2 := Int.mul_ediv_add_emod b q
  rw [Int.mul_sub]
  omega

theorem fits_lt {t q : Int} {e : Nat} (ht : 1 ≤ t) (hq : 0 ≤ q) (h : fitsB t q e = true) : (e : Int) < q := by
  rcases Int.lt_or_le (e : Int) q with c | c
  · exact c
  · rw [fitsB_far ht hq c] at h
    exact absurd h (by decide)

/-- what is hidden -/
theorem hide_holds (n t : Nat) (q : Int) (hn : 0 < n) (s m : List Int) (d : List UInt8) : Holds n t q s (hidI n s m (q / (t : Int)) q d 0) (pairA d q n 0) m 2 := by
  refine ⟨prE d n 0, fun i _ => prE_bounds d n 0 i, fun i hi => ?_⟩
  unfold mixF hidI
  have eA : ringF n (pairE d n 0) i = prE d n 0 i := by rw [ringF_at n _ i hi, pairE, getD_range hi]
  have h1 := ringF_plus n hn (plusI n (pairE d n 0) (scaledI n m (q / (t : Int)) q) q) (scaledI n (timesI n (pairA d q n 0) s q) (-1) q) q i
  have h2 := ringF_plus n hn (pairE d n 0) (scaledI n m (q / (t : Int)) q) q i
  have h3 := ringF_scaled n hn (timesI n (pairA d q n 0) s q) (-1) q i
  have h4 := ringF_times n hn (pairA d q n 0) s q i
  have h5 := ringF_scaled n hn m (q / (t : Int)) q i
  rw [ringF_at n m i hi] at h5
  rw [eA] at h2
  generalize ringF n (plusI n (plusI n (pairE d n 0) (scaledI n m (q / (t : Int)) q) q) (scaledI n (timesI n (pairA d q n 0) s q) (-1) q) q) i = a at h1 ⊢
  generalize ringF n (plusI n (pairE d n 0) (scaledI n m (q / (t : Int)) q) q) i = b at h1 h2
  generalize ringF n (scaledI n (timesI n (pairA d q n 0) s q) (-1) q) i = c at h1 h3
  generalize ringF n (timesI n (pairA d q n 0) s q) i = y at h3 h4
  generalize ringF n (scaledI n m (q / (t : Int)) q) i = x at h2 h5
  generalize conv n (ringF n (pairA d q n 0)) (ringF n s) i = z at h4 ⊢
  obtain ⟨k1, h1⟩ := mod_ex h1
  obtain ⟨k2, h2⟩ := mod_ex h2
  obtain ⟨k3, h3⟩ := mod_ex h3
  obtain ⟨k4, h4⟩ := mod_ex h4
  obtain ⟨k5, h5⟩ := mod_ex h5
  have e : a + z = q / (t : Int) * m.getD i 0 + prE d n 0 i + q * (k1 + k2 + k3 - k4 + k5) := by
    rw [Int.mul_add, Int.mul_sub, Int.mul_add, Int.mul_add]
    omega
  rw [e, Int.add_mul_emod_self_left]

theorem hide_ct {n t : Nat} (g : NT n t) (q : Int) (hq : 2 ≤ q) (hq2 : q ≤ 1073741823) (hfit : fitsB t q 2 = true) (k v d : List UInt8) : IsCT n t q (secI k n) (hideL n t q k v d) (encI n t (numsL v 2 n)) 2 := by
  have hn : 0 < n := by have := g.half; omega
  obtain ⟨h1, h2, h3, h4⟩ := told_read n 2 t q (hidI n (secI k n) (encI n t (numsL v 2 n)) (q / (t : Int)) q d 0) (pairA d q n 0) (hidI_length _ _ _ _ _ _ _) (pairA_length _ _ _ _) (by omega)
    (fun i hi => plusI_bounds _ _ _ _ (by omega) i (by rw [plusI_length]; exact hi)) (fun i hi => pairA_bounds _ _ _ _ (by omega) i (by rw [pairA_length]; exact hi)) (by omega) hfit
  have hh := hide_holds n t q hn (secI k n) (encI n t (numsL v 2 n)) d
  refine ⟨h1, h2, encI_length _ _ _, encI_small g _, ?_⟩
  unfold hideL
  rw [h3, h4]
  exact hh

theorem add_ct {n t : Nat} (g : NT n t) (q : Int) (hq : 2 ≤ q) (hq2 : q ≤ 1073741823) (s : List Int) (x y : List UInt8) (ms ls : List Int) (E F : Nat) (hx : IsCT n t q s x ms E) (hy : IsCT n t q s y ls F) (hfit : fitsB t q ((E + F + (q % (t : Int)).toNat : Nat) : Int) = true) :
    (addL n t q x y).2 = 0 ∧ IsCT n t q s (addL n t q x y).1 (plusI n ms ls t) (E + F + (q % (t : Int)).toNat) := by
  have hn : 0 < n := by have := g.half; omega
  have ht := g.t3
  have ht2 := g.ht
  have hR := mod_bounds (show (0 : Int) < (t : Int) by omega) q
  have hE := ctE_lt _ _ _ _ (by omega) (by omega) hx.ct
  have hF := ctE_lt _ _ _ _ (by omega) (by omega) hy.ct
  rw [hx.bound] at hE
  rw [hy.bound] at hF
  have e : addL n t q x y = (toldL (E + F + (q % (t : Int)).toNat) (plusI n (ct0 x n) (ct0 y n) q) (plusI n (ct1 x n) (ct1 y n) q), 0) := by
    unfold addL tellL
    rw [hx.bound, hy.bound, if_pos hfit]
  rw [e]
  obtain ⟨h1, h2, h3, h4⟩ := told_read n (E + F + (q % (t : Int)).toNat) t q (plusI n (ct0 x n) (ct0 y n) q) (plusI n (ct1 x n) (ct1 y n) q) (plusI_length _ _ _ _) (plusI_length _ _ _ _) (by omega)
    (fun i hi => plusI_bounds _ _ _ _ (by omega) i (by rw [plusI_length]; exact hi)) (fun i hi => plusI_bounds _ _ _ _ (by omega) i (by rw [plusI_length]; exact hi)) (by omega) hfit
  refine ⟨rfl, h1, h2, plusI_length _ _ _ _, fun i hi => plusI_bounds _ _ _ _ (by omega) i (by rw [plusI_length]; exact hi), ?_⟩
  show Holds n t q s (ct0 (toldL _ _ _) n) (ct1 (toldL _ _ _) n) _ _
  rw [h3, h4]
  exact Holds.add hn (by omega) hx.holds hy.holds hx.small hy.small (by omega)

theorem Holds.addPlain {n : Nat} {t q : Int} {s c0 c1 ms ls : List Int} {E G : Int} (hn : 0 < n) (ht : 0 < t) (hc : Holds n t q s c0 c1 ms E)
    (hm : ∀ i, i < n → 0 ≤ ms.getD i 0 ∧ ms.getD i 0 < t) (hl : ∀ i, i < n → 0 ≤ ls.getD i 0 ∧ ls.getD i 0 < t) (hG : E + q % t ≤ G) : Holds n t q s (plusI n c0 (scaledI n ls (q / t) q) q) c1 (plusI n ms ls t) G := by
  obtain ⟨e, he, hce⟩ := hc
  have hR := mod_bounds ht q
  refine Holds.wrap (fun i => ms.getD i 0 + ls.getD i 0) e (E + q % t) (fun i hi => by rw [plusI, getD_range hi]; rfl) ?_ hG ?_
  · intro i hi
    have h1 := he i hi
    have h3 := hm i hi
    have h4 := hl i hi
    obtain ⟨b1, b2⟩ := ediv_small (x := ms.getD i 0 + ls.getD i 0) ht (by omega) (by omega)
    have c1 : q % t * ((ms.getD i 0 + ls.getD i 0) / t) ≤ q % t * 1 := Int.mul_le_mul_of_nonneg_left b2 hR.1
    have c2 : 0 ≤ q % t * ((ms.getD i 0 + ls.getD i 0) / t) := Int.mul_nonneg hR.1 b1
    rw [Int.mul_one] at c1
    constructor <;> omega
  · intro i hi
    have e0 := hce i hi
    unfold mixF at e0 ⊢
    rw [← add_mod_left, ringF_plus n hn, ← add_mod_right (ringF n c0 i), ringF_scaled n hn, add_mod_right, add_mod_left, ringF_at n ls i hi, Int.mul_add]
    have e1 : ringF n c0 i + q / t * ls.getD i 0 + conv n (ringF n c1) (ringF n s) i = (ringF n c0 i + conv n (ringF n c1) (ringF n s) i) + q / t * ls.getD i 0 := by omega
    have e2 : q / t * ms.getD i 0 + q / t * ls.getD i 0 + e i = (q / t * ms.getD i 0 + e i) + q / t * ls.getD i 0 := by omega
    rw [e1, e2, ← add_mod_left, e0, add_mod_left]

theorem addPlain_ct {n t : Nat} (g : NT n t) (q : Int) (hq : 2 ≤ q) (hq2 : q ≤ 1073741823) (s : List Int) (x v : List UInt8) (ms : List Int) (E : Nat) (hx : IsCT n t q s x ms E) (hfit : fitsB t q ((E + (q % (t : Int)).toNat : Nat) : Int) = true) :
    (addPlainL n t q x v).2 = 0 ∧ IsCT n t q s (addPlainL n t q x v).1 (plusI n ms (encI n t (numsL v 2 n)) t) (E + (q % (t : Int)).toNat) := by
  have hn : 0 < n := by have := g.half; omega
  have ht := g.t3
  have ht2 := g.ht
  have hR := mod_bounds (show (0 : Int) < (t : Int) by omega) q
  have hE := ctE_lt _ _ _ _ (by omega) (by omega) hx.ct
  rw [hx.bound] at hE
  have e : addPlainL n t q x v = (toldL (E + (q % (t : Int)).toNat) (plusI n (ct0 x n) (scaledI n (encI n t (numsL v 2 n)) (q / (t : Int)) q) q) (ct1 x n), 0) := by
    unfold addPlainL tellL
    rw [hx.bound, if_pos hfit]
  rw [e]
  obtain ⟨h1, h2, h3, h4⟩ := told_read n (E + (q % (t : Int)).toNat) t q (plusI n (ct0 x n) (scaledI n (encI n t (numsL v 2 n)) (q / (t : Int)) q) q) (ct1 x n) (plusI_length _ _ _ _) (ct1_length _ _) (by omega)
    (fun i hi => plusI_bounds _ _ _ _ (by omega) i (by rw [plusI_length]; exact hi)) (fun i hi => ct1_bounds _ _ _ _ hx.ct i (by rw [ct1_length]; exact hi)) (by omega) hfit
  refine ⟨rfl, h1, h2, plusI_length _ _ _ _, fun i hi => plusI_bounds _ _ _ _ (by omega) i (by rw [plusI_length]; exact hi), ?_⟩
  show Holds n t q s (ct0 (toldL _ _ _) n) (ct1 (toldL _ _ _) n) _ _
  rw [h3, h4]
  exact Holds.addPlain hn (by omega) hx.holds hx.small (encI_small g _) (by omega)

theorem sizeF_cen (n t : Nat) (ms : List Int) : sizeF n (ringF n (cenI n t ms)) = (absS t ms n : Int) := by
  unfold sizeF absS
  rw [cast_sumN]
  refine sumI_congr fun i hi => ?_
  rw [ringF_at n _ i hi, cenI, getD_range hi]

theorem mul_ct {n t : Nat} (g : NT n t) (q : Int) (hq : 2 ≤ q) (hq2 : q ≤ 1073741823) (s : List Int) (x v : List UInt8) (ms : List Int) (E : Nat) (hx : IsCT n t q s x ms E) (hfit : fitsB t q ((absS t (encI n t (numsL v 2 n)) n * (E + (q % (t : Int)).toNat) : Nat) : Int) = true) :
    (mulPlainL n t q x v).2 = 0 ∧ IsCT n t q s (mulPlainL n t q x v).1 (timesI n ms (cenI n t (encI n t (numsL v 2 n))) t) (absS t (encI n t (numsL v 2 n)) n * (E + (q % (t : Int)).toNat)) := by
  have hn : 0 < n := by have := g.half; omega
  have ht := g.t3
  have ht2 := g.ht
  have hd := g.half
  have hR := mod_bounds (show (0 : Int) < (t : Int) by omega) q
  have hE := ctE_lt _ _ _ _ (by omega) (by omega) hx.ct
  rw [hx.bound] at hE
  have hAb := absS_le (t : Int) (encI n t (numsL v 2 n)) n n (Nat.le_refl _) (encI_lt g _) (by omega)
  have hAb2 : n * 510 ≤ 16 * 510 := Nat.mul_le_mul_right _ (by omega)
  have hSb : absS t (encI n t (numsL v 2 n)) n * (E + (q % (t : Int)).toNat) ≤ 8160 * 1073742844 := Nat.mul_le_mul (by omega) (by omega)
  have hlt := fits_lt (by omega) (by omega) hfit
  have e : mulPlainL n t q x v = (toldL (absS t (encI n t (numsL v 2 n)) n * (E + (q % (t : Int)).toNat)) (timesI n (ct0 x n) (cenI n t (encI n t (numsL v 2 n))) q) (timesI n (ct1 x n) (cenI n t (encI n t (numsL v 2 n))) q), 0) := by
    unfold mulPlainL tellL
    rw [hx.bound, if_pos hfit]
  rw [e]
  obtain ⟨h1, h2, h3, h4⟩ := told_read n (absS t (encI n t (numsL v 2 n)) n * (E + (q % (t : Int)).toNat)) t q (timesI n (ct0 x n) (cenI n t (encI n t (numsL v 2 n))) q) (timesI n (ct1 x n) (cenI n t (encI n t (numsL v 2 n))) q) (timesI_length _ _ _ _) (timesI_length _ _ _ _) (by omega)
    (fun i hi => timesI_bounds _ _ _ _ (by omega) i (by rw [timesI_length]; exact hi)) (fun i hi => timesI_bounds _ _ _ _ (by omega) i (by rw [timesI_length]; exact hi)) (by omega) hfit
  refine ⟨rfl, h1, h2, timesI_length _ _ _ _, fun i hi => timesI_bounds _ _ _ _ (by omega) i (by rw [timesI_length]; exact hi), ?_⟩
  show Holds n t q s (ct0 (toldL _ _ _) n) (ct1 (toldL _ _ _) n) _ _
  rw [h3, h4]
  refine Holds.mul hn (by omega) hx.holds hx.small (sizeF_cen n t _) ?_
  rw [Int.natCast_mul, Int.natCast_add]
  have : ((q % (t : Int)).toNat : Int) = q % (t : Int) := by omega
  rw [this]
  exact Int.le_refl _

/-! what the slots are -/

theorem dec_enc {n t : Nat} (g : NT n t) (vs : List Int) (hl : vs.length = n) (hb : ∀ i, i < n → 0 ≤ vs.getD i 0 ∧ vs.getD i 0 < (t : Int)) : decI n t (encI n t vs) = vs := by
  refine list_same (n := n) (decI_length _ _ _) hl fun i hi => ?_
  rw [decI, getD_range hi]
  exact valI_enc g vs i hi (hb i hi).1 (hb i hi).2

theorem dec_plus {n t : Nat} (hn : 0 < n) (ms ls : List Int) : decI n t (plusI n ms ls t) = plusI n (decI n t ms) (decI n t ls) t := by
  refine list_same (n := n) (decI_length _ _ _) (plusI_length _ _ _ _) fun i hi => ?_
  rw [decI, getD_range hi, valI_plus hn, plusI, getD_range hi, plusC, decI, decI, getD_range hi, getD_range hi]

theorem cen_mod {n t : Nat} (ms : List Int) (i : Nat) (hi : i < n) : (cenI n t ms).getD i 0 % (t : Int) = ms.getD i 0 % (t : Int) := by
  rw [cenI, getD_range hi]
  unfold cenC
  split
  · exact Int.sub_emod_right _ _
  · rfl

/-- products, slot by slot -/
def prodI (n : Nat) (xs ys : List Int) (t : Int) : List Int := (List.range n).map fun i => xs.getD i 0 * ys.getD i 0 % t

theorem dec_times {n t : Nat} (g : NT n t) (ms ls : List Int) : decI n t (timesI n ms (cenI n t ls) t) = prodI n (decI n t ms) (decI n t ls) t := by
  refine list_same (n := n) (decI_length _ _ _) (by simp [prodI]) fun i hi => ?_
  rw [decI, getD_range hi, valI_times g _ _ i hi, valI_mod (fun j hj => cen_mod ls j hj), prodI, getD_range hi, decI, decI, getD_range hi, getD_range hi]

/-! keys -/

theorem sec_key (d : List UInt8) (n : Nat) : secB (keyL d n) n = true := by
  rw [secB_iff, okL_iff]
  refine ⟨keyL_length d n, rfl, ?_, fun i hi => ?_⟩
  · rw [List.length_tail, keyL_length]; omega
  · have e : numL (keyL d n).tail (i * 1) 1 = (UInt8.ofNat (byteL d i % 3)).toNat := by
      show 256 * numL (keyL d n).tail (i * 1) 0 + byteL (keyL d n).tail (i * 1 + 0) = _
      show 256 * 0 + byteL ((List.range n).map fun i => UInt8.ofNat (byteL d i % 3)) (i * 1 + 0) = _
      unfold byteL
      rw [Nat.mul_one, Nat.add_zero, List.getD_eq_getElem?_getD, List.getElem?_map, List.getElem?_range hi]
      simp
    rw [e]
    have : (UInt8.ofNat (byteL d i % 3)).toNat = byteL d i % 3 := by simp; omega
    rw [this]
    omega

end Go.Proofs.YtcjhgbljhpflfabGreat
