/-
  The true noise of a ciphertext, and how it is reckoned.
-/
import Derived.Test.YtcjhgbljhpflfabKeepE
import Derived.Test.YtcjhgbljhpflfabCodeT
namespace Go.Proofs.Ytcjhgbljhpflfab
open Go.RowKit
set_option linter.unusedVariables false
set_option maxRecDepth 100000

theorem size_texts' (vs : List Int) (n : Nat) (hl : vs.length = n) (hn : n ≤ 16) : (⟨(textsL 2 vs).toArray⟩ : ByteArray).size ≤ maxLen := by
  show (textsL 2 vs).toArray.size ≤ _
  rw [List.size_toArray, textsL_length, hl]; unfold maxLen; omega

/-! a polynomial comes back from its slots -/

def chkOrth2 (n t : Nat) : Bool :=
  (List.range n).all fun i => (List.range n).all fun j =>
    Nat.beq (sumN (fun k => ptN n t k ^ j * (ptN n t k ^ (2 * n - i) % t)) n * (n ^ (t - 2) % t) % t) (if i = j then 1 else 0)

set_option maxRecDepth 100000 in
theorem all_orth2 : goodPairs.all (fun p => chkOrth2 p.1 p.2) = true := by decide +kernel

theorem orth2_fact {n t : Nat} (g : NT n t) (i j : Nat) (hi : i < n) (hj : j < n) :
    sumI (fun k => pI n t k ^ j * (pI n t k ^ (2 * n - i) % (t : Int))) n * overN n t % (t : Int) = if i = j then 1 else 0 := by
  have ht := g.t3
  have h := chk_of all_orth2 g
  have h2 := List.all_eq_true.1 (List.all_eq_true.1 h i (by simpa using hi)) j (by simpa using hj)
  have h3 := Nat.eq_of_beq_eq_true h2
  have e : ((t : Int) - 2).toNat = t - 2 := by omega
  have h4 := congrArg (fun x : Nat => (x : Int)) h3
  simp only [Int.natCast_emod, Int.natCast_mul, cast_sumN, Int.natCast_pow] at h4
  unfold overN pI
  rw [e, h4]
  split <;> rfl

theorem enc_dec {n t : Nat} (g : NT n t) (ms : List Int) (hl : ms.length = n) (hm : ∀ i, i < n → 0 ≤ ms.getD i 0 ∧ ms.getD i 0 < (t : Int)) : encI n t (decI n t ms) = ms := by
  refine list_same (n := n) (encI_length _ _ _) hl fun i hi => ?_
  rw [encI, getD_range hi]
  unfold encC
  rw [mul_mod_left]
  have h1 : sumI (fun k => (decI n t ms).getD k 0 * (pI n t k ^ (2 * n - i) % (t : Int))) n * overN n t % (t : Int)
      = sumI (fun k => sumI (fun j => ms.getD j 0 * (overN n t * (pI n t k ^ j * (pI n t k ^ (2 * n - i) % (t : Int))))) n) n % (t : Int) := by
    rw [Int.mul_comm, ← sumI_mul]
    refine sumI_mod _ fun k hk => ?_
    rw [decI, getD_range hk, valI]
    have e : ∀ j, ms.getD j 0 * (overN n t * (pI n t k ^ j * (pI n t k ^ (2 * n - i) % (t : Int)))) = (overN n t * (pI n t k ^ (2 * n - i) % (t : Int))) * (ms.getD j 0 * pI n t k ^ j) := fun j => by
      generalize pI n t k ^ j = a
      generalize pI n t k ^ (2 * n - i) % (t : Int) = b
      generalize overN n t = c
      generalize ms.getD j 0 = d
      rw [Int.mul_left_comm d c, Int.mul_assoc c b, Int.mul_left_comm b d a, Int.mul_comm b a]
    simp only [e, sumI_mul]
    rw [Int.mul_left_comm, mul_mod_left, Int.mul_comm]
  rw [h1, sumI_comm]
  have h2 : sumI (fun j => sumI (fun k => ms.getD j 0 * (overN n t * (pI n t k ^ j * (pI n t k ^ (2 * n - i) % (t : Int))))) n) n % (t : Int)
      = sumI (fun j => ms.getD j 0 * (if i = j then 1 else 0)) n % (t : Int) := by
    refine sumI_mod _ fun j hj => ?_
    simp only [sumI_mul]
    rw [Int.mul_comm (overN n t), ← mul_mod_right, orth2_fact g i j hi hj]
  rw [h2, sumI_one _ i n hi fun j _ hne => by rw [if_neg (fun c => hne c.symm), Int.mul_zero], if_pos rfl, Int.mul_one]
  exact Int.emod_eq_of_lt (hm i hi).1 (hm i hi).2

/-! the noise of one coefficient -/

/-- one product of the sum: the key's number k - i places on, with its sign -/
def nzS (s : List Int) (n k i : Nat) : Int := if k < i then -(s.getD (n + k - i) 0) else s.getD (k - i) 0
def nzT (s c1 : List Int) (n k i : Nat) : Int := nzS s n k i * c1.getD i 0
/-- c0 + c1 s - DELTA m -/
def nzN (n t : Nat) (q : Int) (s c0 c1 ms : List Int) (k : Nat) : Int := c0.getD k 0 - q / (t : Int) * ms.getD k 0 + sumI (nzT s c1 n k) n
/-- without its sign -/
def cenA (q x : Int) : Int := if 2 * (x % q) > q then q - x % q else x % q

theorem nz_ring (n k i : Nat) (s : List Int) (hk : k < n) (hi : i < n) : ringF n s ((k : Int) - i) = nzS s n k i := by
  unfold ringF nzS
  by_cases h : k < i
  · rw [if_pos h]
    have e : ((k : Int) - i) % (2 * n : Int) = (k : Int) - i + 2 * n := by
      rw [← Int.add_emod_right (a := (k : Int) - i)]
      exact Int.emod_eq_of_lt (by omega) (by omega)
    rw [e, if_neg (by omega)]
    congr 2
    omega
  · rw [if_neg h]
    have e : ((k : Int) - i) % (2 * n : Int) = (k : Int) - i := Int.emod_eq_of_lt (by omega) (by omega)
    rw [e, if_pos (by omega)]
    congr 1
    omega

theorem nz_conv (n k : Nat) (s c1 : List Int) (hk : k < n) : conv n (ringF n c1) (ringF n s) k = sumI (nzT s c1 n k) n := by
  refine sumI_congr fun i hi => ?_
  rw [ringF_at n c1 i hi, nz_ring n k i s hk hi, Int.mul_comm]
  rfl

theorem cenA_bounds (q x : Int) (hq : 0 < q) : 0 ≤ cenA q x ∧ cenA q x < q := by
  have h := mod_bounds hq x
  unfold cenA
  split <;> omega

theorem cenA_le (q x e E : Int) (hq : 0 < q) (h : x % q = e % q) (h1 : -E ≤ e) (h2 : e ≤ E) : cenA q x ≤ E := by
  have hb := mod_bounds hq x
  have hd := Int.mul_ediv_add_emod e q
  unfold cenA
  rw [h] at hb ⊢
  by_cases he : 0 ≤ e
  · have : e % q ≤ e := by
      have h0 : 0 ≤ e / q := Int.ediv_nonneg he (by omega)
      have h3 : 0 ≤ q * (e / q) := Int.mul_nonneg (by omega) h0
      omega
    split <;> omega
  · have h0 : e / q ≤ -1 := by
      have := Int.ediv_lt_of_lt_mul (a := e) (b := 0) (c := q) hq (by omega)
      omega
    have h3 : q * (e / q) ≤ q * (-1) := Int.mul_le_mul_of_nonneg_left h0 (by omega)
    rw [Int.mul_neg, Int.mul_one] at h3
    split <;> omega

theorem noise_at {n t : Nat} {q : Int} {s : List Int} {c : List UInt8} {ms : List Int} {E : Nat} (hq : 0 < q) (h : IsCT n t q s c ms E) (k : Nat) (hk : k < n) : cenA q (nzN n t q s (ct0 c n) (ct1 c n) ms k) ≤ E := by
  obtain ⟨e, he, hce⟩ := h.holds
  refine cenA_le q _ (e k) E hq ?_ (he k hk).1 (he k hk).2
  have h1 := hce k hk
  unfold mixF at h1
  rw [ringF_at n _ k hk, nz_conv n k s _ hk] at h1
  obtain ⟨c', h1⟩ := mod_ex h1
  have e1 : nzN n t q s (ct0 c n) (ct1 c n) ms k = e k + q * c' := by
    unfold nzN
    omega
  rw [e1, Int.add_mul_emod_self_left]

/-! how it is reckoned -/

theorem or_shift (k : Nat) (hk : k ≤ 24) (v y : Int) (h0 : 0 ≤ v) (h1 : v < 4294967296) (hy0 : 0 ≤ y) (hy : y < 2 ^ k) : bits .or .i64 (v * 2 ^ k) y = v * 2 ^ k + y := by
  obtain ⟨m, rfl⟩ := Int.eq_ofNat_of_zero_le h0
  obtain ⟨z, rfl⟩ := Int.eq_ofNat_of_zero_le hy0
  have hp : (2 : Nat) ^ k ≤ 2 ^ 24 := Nat.pow_le_pow_right (by omega) hk
  have hz : z < 2 ^ k := by exact_mod_cast hy
  have e24 : (2 : Nat) ^ 24 = 16777216 := by decide
  have hmk : m * 2 ^ k ≤ 4294967296 * 16777216 := Nat.mul_le_mul (by omega) (by omega)
  have ec : (m : Int) * 2 ^ k = ((m * 2 ^ k : Nat) : Int) := by rw [Int.natCast_mul, Int.natCast_pow]; rfl
  rw [ec]
  show IntKind.i64.wrap ((BitVec.ofInt 64 ((m * 2 ^ k : Nat) : Int) ||| BitVec.ofInt 64 (z : Int)).toNat : Nat) = _
  have h2 : ((BitVec.ofInt 64 ((m * 2 ^ k : Nat) : Int) ||| BitVec.ofInt 64 (z : Int)).toNat : Nat) = m * 2 ^ k + z := by
    rw [BitVec.toNat_or]
    have a1 : (BitVec.ofInt 64 ((m * 2 ^ k : Nat) : Int)).toNat = m * 2 ^ k := by
      rw [BitVec.toNat_ofInt]; omega
    have a2 : (BitVec.ofInt 64 (z : Int)).toNat = z := by
      rw [BitVec.toNat_ofInt]; omega
    rw [a1, a2]
    have := Nat.two_pow_add_eq_or_of_lt (i := k) (b := z) hz m
    rw [Nat.mul_comm] at this
    rw [← this]
  rw [h2, IntWalk.i64_in _ (by omega)]
  simp

set_option maxHeartbeats 2000000 in
theorem number_calls (s : ByteArray) (i : Nat) (w : World) (hs : s.size ≤ maxLen) (hi : i ≤ 1000000) :
    Calls Try.prog 52 #[.string s, .int .i64 (i : Int)] w fun e w' => e = .returned (.int .i64 (numL s.data.toList i 4 : Nat)) ∧ w' = w := by
  have b0 := byteL_lt s.data.toList i
  have b1 := byteL_lt s.data.toList (i + 1)
  have b2 := byteL_lt s.data.toList (i + 2)
  have b3 := byteL_lt s.data.toList (i + 3)
  have HN : Hid (numL s.data.toList i 4 = 256 * (256 * (256 * byteL s.data.toList i + byteL s.data.toList (i + 1)) + byteL s.data.toList (i + 2)) + byteL s.data.toList (i + 3)) := by
    show numL s.data.toList i 4 = _
    simp [numL]
  have H0 : Hid (∀ W, Calls Try.prog 36 #[.string s, .int .i64 (i : Int)] W fun e w' => e = .returned (.int .i64 (byteL s.data.toList i : Nat)) ∧ w' = W) := fun W => by
    have := octet_calls s (i : Int) W hs (by omega)
    rw [Int.toNat_natCast] at this
    exact this
  have H1 : Hid (∀ W, Calls Try.prog 36 #[.string s, .int .i64 ((i : Int) + 1)] W fun e w' => e = .returned (.int .i64 (byteL s.data.toList (i + 1) : Nat)) ∧ w' = W) := fun W => by
    have := octet_calls s ((i : Int) + 1) W hs (by omega)
    rw [show ((i : Int) + 1).toNat = i + 1 by omega] at this
    exact this
  have H2 : Hid (∀ W, Calls Try.prog 36 #[.string s, .int .i64 ((i : Int) + 2)] W fun e w' => e = .returned (.int .i64 (byteL s.data.toList (i + 2) : Nat)) ∧ w' = W) := fun W => by
    have := octet_calls s ((i : Int) + 2) W hs (by omega)
    rw [show ((i : Int) + 2).toNat = i + 2 by omega] at this
    exact this
  have H3 : Hid (∀ W, Calls Try.prog 36 #[.string s, .int .i64 ((i : Int) + 3)] W fun e w' => e = .returned (.int .i64 (byteL s.data.toList (i + 3) : Nat)) ∧ w' = W) := fun W => by
    have := octet_calls s ((i : Int) + 3) W hs (by omega)
    rw [show ((i : Int) + 3).toNat = i + 3 by omega] at this
    exact this
  generalize byteL s.data.toList i = x0 at b0 HN H0
  generalize byteL s.data.toList (i + 1) = x1 at b1 HN H1
  generalize byteL s.data.toList (i + 2) = x2 at b2 HN H2
  generalize byteL s.data.toList (i + 3) = x3 at b3 HN H3
  have o1 : bits .or .i64 ((x0 : Int) * 16777216) ((x1 : Int) * 65536) = (x0 : Int) * 16777216 + (x1 : Int) * 65536 := or_shift 24 (by omega) (x0 : Int) _ (by omega) (by omega) (by omega) (by omega)
  have o2 : bits .or .i64 ((x0 : Int) * 16777216 + (x1 : Int) * 65536) ((x2 : Int) * 256) = (x0 : Int) * 16777216 + (x1 : Int) * 65536 + (x2 : Int) * 256 := by
    have := or_shift 16 (by omega) ((x0 : Int) * 256 + (x1 : Int)) ((x2 : Int) * 256) (by omega) (by omega) (by omega) (by omega)
    rw [show ((x0 : Int) * 256 + (x1 : Int)) * 2 ^ 16 = (x0 : Int) * 16777216 + (x1 : Int) * 65536 by omega] at this
    exact this
  have o3 : bits .or .i64 ((x0 : Int) * 16777216 + (x1 : Int) * 65536 + (x2 : Int) * 256) (x3 : Int) = (x0 : Int) * 16777216 + (x1 : Int) * 65536 + (x2 : Int) * 256 + (x3 : Int) := by
    have := or_shift 8 (by omega) ((x0 : Int) * 65536 + (x1 : Int) * 256 + (x2 : Int)) (x3 : Int) (by omega) (by omega) (by omega) (by omega)
    rw [show ((x0 : Int) * 65536 + (x1 : Int) * 256 + (x2 : Int)) * 2 ^ 8 = (x0 : Int) * 16777216 + (x1 : Int) * 65536 + (x2 : Int) * 256 by omega] at this
    exact this
  go_enter Try.func52, Try.ntmps52
  go_wp2_with fail
  refine Calls.mono (H0.out _) ?_
  rintro e w1 ⟨rfl, rfl⟩
  go_wp2_with fail
  refine Calls.mono (H1.out _) ?_
  rintro e w1 ⟨rfl, rfl⟩
  go_wp2_with fail
  refine Calls.mono (H2.out _) ?_
  rintro e w1 ⟨rfl, rfl⟩
  go_wp2_with fail
  refine Calls.mono (H3.out _) ?_
  rintro e w1 ⟨rfl, rfl⟩
  go_wp2_with fail
  go_ret
  refine ⟨ret_int ?_, rfl⟩
  rw [HN.out]
  omega

end Go.Proofs.Ytcjhgbljhpflfab
