/-
  x^3 in the place of x: rows, products, slots. No program here.
  Turning: what a turning key is, what comes of a ciphertext, its noise. No program here.
  Walks: digits, slots ahead, of the statements without the document's answer.
-/
import Derived.Test.YtcjhgbljhpflfabGreatKeepA
import Derived.Test.YtcjhgbljhpflfabGreatWalksY
import Derived.Test.YtcjhgbljhpflfabGreatKeepB
namespace Go.Proofs.YtcjhgbljhpflfabGreat
open Go.RowKit
set_option linter.unusedVariables false

/-- a row with x^3 in the place of x: 11 is one over 3, by 2N -/
def cubF (f : Int → Int) (z : Int) : Int := f (11 * z)

theorem Anti.twice {n : Nat} {f : Int → Int} (h : Anti n f) (z : Int) : f (z + 2 * n) = f z := by
  have h1 := h (z + n)
  have h2 := h z
  rw [show z + (2 * n : Int) = z + n + n by omega, h1, h2]
  omega

theorem cubF_anti {n : Nat} {f : Int → Int} (h : Anti n f) : Anti n (cubF f) := by
  intro z
  show f (11 * (z + n)) = -f (11 * z)
  rw [show 11 * (z + (n : Int)) = 11 * z + n + 2 * n + 2 * n + 2 * n + 2 * n + 2 * n by omega, h.twice, h.twice, h.twice, h.twice, h.twice, h]

theorem cub_facts (n : Nat) (hn : n = 4 ∨ n = 8 ∨ n = 16) : ∀ i, i < n → kOf n i < n ∧ (if 3 * kOf n i % (2 * n) = i then (11 * i) % (2 * n) = kOf n i else (11 * i) % (2 * n) = kOf n i + n) := by
  rcases hn with rfl | rfl | rfl <;> decide

/-- the list and the row -/
theorem cub_at (n : Nat) (hn : n = 4 ∨ n = 8 ∨ n = 16) (xs : List Int) (i : Nat) (hi : i < n) : cubF (ringF n xs) i = if 3 * kOf n i % (2 * n) = i then xs.getD (kOf n i) 0 else -(xs.getD (kOf n i) 0) := by
  obtain ⟨h1, h2⟩ := cub_facts n hn i hi
  have e0 : (11 * (i : Int)) % (2 * n : Int) = ((11 * i % (2 * n) : Nat) : Int) := by
    rw [Int.natCast_emod, Int.natCast_mul, Int.natCast_mul]; rfl
  show ringF n xs (11 * (i : Int)) = _
  unfold ringF
  rw [e0]
  by_cases c : 3 * kOf n i % (2 * n) = i
  · rw [if_pos c] at h2
    rw [if_pos c, h2, if_pos (by omega)]
    rfl
  · rw [if_neg c] at h2
    rw [if_neg c, h2, if_neg (by omega)]
    congr 2
    omega

theorem cubI_at (n : Nat) (hn : n = 4 ∨ n = 8 ∨ n = 16) (xs : List Int) (q : Int) (i : Nat) (hi : i < n) : (cubI n xs q).getD i 0 = cubF (ringF n xs) i % q := by
  rw [cubI, getD_range hi, cubC, cub_at n hn xs i hi]
  split <;> rfl

theorem ringF_cub (n : Nat) (hn : n = 4 ∨ n = 8 ∨ n = 16) (xs : List Int) (q : Int) (z : Int) : ringF n (cubI n xs q) z % q = cubF (ringF n xs) z % q := by
  have h0 : 0 < n := by omega
  refine Anti.ext h0 (ringF_anti n h0 _) (cubF_anti (ringF_anti n h0 xs)) ?_ z
  intro i hi
  rw [ringF_at n _ i hi, cubI_at n hn xs q i hi, Int.emod_emod]

theorem per_mod {n : Nat} {q : Int} {h : Int → Int} (hp : ∀ z, h (z + n) % q = h z % q) (k : Nat) : ∀ z, h (z + n * k) % q = h z % q := by
  induction k with
  | zero => intro z; simp
  | succ k ih =>
    intro z
    rw [show z + (n : Int) * ((k + 1 : Nat) : Int) = (z + n * k) + n by rw [Int.natCast_add, Int.mul_add]; omega, hp, ih]

/-- the places times 11, by N, are all places -/
theorem sum_eleven (n : Nat) (hn : n = 4 ∨ n = 8 ∨ n = 16) (q : Int) (h : Int → Int) (hp : ∀ z, h (z + n) % q = h z % q) : sumI (fun i => h (11 * i)) n % q = sumI (fun i => h i) n % q := by
  have key : ∀ (a : Nat) (k : Nat), h ((a + n * k : Nat) : Int) % q = h (a : Int) % q := fun a k => by
    have := per_mod hp k (a : Int)
    rw [show ((a + n * k : Nat) : Int) = (a : Int) + n * k by rw [Int.natCast_add, Int.natCast_mul]]
    exact this
  have e : ∀ i : Nat, h (11 * (i : Int)) % q = h ((11 * i % n : Nat) : Int) % q := fun i => by
    have := key (11 * i % n) (11 * i / n)
    rw [Nat.mod_add_div] at this
    rw [← this]
    congr 1
  rw [sumI_mod q (h := fun i => h ((11 * i % n : Nat) : Int)) (fun i _ => e i)]
  congr 1
  rcases hn with rfl | rfl | rfl
  · simp only [sumI, Nat.reduceMul, Nat.reduceMod]; omega
  · simp only [sumI, Nat.reduceMul, Nat.reduceMod]; omega
  · simp only [sumI, Nat.reduceMul, Nat.reduceMod]; omega

/-- products -/
theorem conv_cub (n : Nat) (hn : n = 4 ∨ n = 8 ∨ n = 16) (f g : Int → Int) (hf : Anti n f) (hg : Anti n g) (k : Int) : conv n (cubF f) (cubF g) k = cubF (conv n f g) k := by
  have e := sum_eleven n hn 0 (fun z => f z * g (11 * k - z)) (mul_anti hf hg (11 * k) 0)
  simp only [Int.emod_zero] at e
  show sumI (fun i => f (11 * (i : Int)) * g (11 * (k - i))) n = sumI (fun i => f i * g (11 * k - i)) n
  rw [← e]
  refine sumI_congr fun i _ => ?_
  rw [show 11 * (k - (i : Int)) = 11 * k - 11 * i by omega]

/-! slots -/

/-- the point ahead -/
def aheadN (n j : Nat) : Nat := j / (n / 2) * (n / 2) + (j + 1) % (n / 2)

def chkAhead (n t : Nat) : Bool := (List.range n).all fun j => Nat.beq (ptN n t j ^ 3 % t) (ptN n t (aheadN n j))

set_option maxRecDepth 100000 in
theorem all_ahead : goodPairs.all (fun p => chkAhead p.1 p.2) = true := by decide +kernel

theorem pI_ahead {n t : Nat} (g : NT n t) (j : Nat) (hj : j < n) : pI n t j ^ 3 % (t : Int) = pI n t (aheadN n j) := by
  have h := chk_of all_ahead g
  have h2 := Nat.eq_of_beq_eq_true (List.all_eq_true.1 h j (by simpa using hj))
  unfold pI
  rw [← cast_pow_mod, h2]

/-- the places times 3, by N, are all places -/
theorem sum_three (n : Nat) (hn : n = 4 ∨ n = 8 ∨ n = 16) (q : Int) (h : Nat → Int) (hp : ∀ k, h (k + n) % q = h k % q) : sumI (fun i => h (3 * i)) n % q = sumI h n % q := by
  have key : ∀ (a k : Nat), h (a + n * k) % q = h a % q := fun a k => by
    induction k with
    | zero => simp
    | succ k ih => rw [Nat.mul_succ, ← Nat.add_assoc, hp, ih]
  have e : ∀ i : Nat, h (3 * i) % q = h (3 * i % n) % q := fun i => by
    have := key (3 * i % n) (3 * i / n)
    rw [Nat.mod_add_div] at this
    rw [← this]
  rw [sumI_mod q (h := fun i => h (3 * i % n)) (fun i _ => e i)]
  congr 1
  rcases hn with rfl | rfl | rfl
  · simp only [sumI, Nat.reduceMul, Nat.reduceMod]; omega
  · simp only [sumI, Nat.reduceMul, Nat.reduceMod]; omega
  · simp only [sumI, Nat.reduceMul, Nat.reduceMod]; omega

theorem anti_many {n : Nat} {f : Int → Int} (h : Anti n f) (z : Int) (k : Nat) : f (z + 2 * n * k) = f z := by
  induction k with
  | zero => simp
  | succ k ih =>
    have := h.twice (z + 2 * n * k)
    rw [show z + 2 * (n : Int) * ((k + 1 : Nat) : Int) = z + 2 * n * k + 2 * n by rw [Int.natCast_add, Int.mul_add]; omega, this, ih]

theorem evalF_cub (n : Nat) (hn : n = 4 ∨ n = 8 ∨ n = 16) (p t : Int) (hp : (p ^ n + 1) % t = 0) (f : Int → Int) (hf : Anti n f) : evalF n p (cubF f) % t = evalF n (p ^ 3) f % t := by
  have hper : ∀ k : Nat, (fun k : Nat => cubF f k * p ^ k) (k + n) % t = (fun k : Nat => cubF f k * p ^ k) k % t := fun k => by
    show cubF f ((k + n : Nat) : Int) * p ^ (k + n) % t = cubF f (k : Int) * p ^ k % t
    have h1 := cubF_anti hf (k : Int)
    rw [show ((k + n : Nat) : Int) = (k : Int) + n by omega, h1, Int.pow_add]
    obtain ⟨c, hc⟩ : ∃ c, p ^ n = -1 + t * c := by
      obtain ⟨c, hc⟩ := mod_ex (a := p ^ n) (b := -1) (q := t) (by
        have e : p ^ n = (p ^ n + 1) + -1 := by omega
        rw [e, ← add_mod_left, hp, Int.zero_add])
      exact ⟨c, hc⟩
    have e2 : -cubF f (k : Int) * (p ^ k * p ^ n) = cubF f (k : Int) * p ^ k + t * (-(cubF f (k : Int) * p ^ k) * c) := by
      rw [hc, Int.mul_add, Int.mul_neg, Int.mul_one, Int.mul_add, Int.neg_mul_neg, Int.neg_mul, Int.neg_mul, Int.mul_neg]
      rw [Int.mul_left_comm (p ^ k) t c, Int.mul_left_comm (cubF f (k : Int)) t, Int.mul_assoc]
    rw [e2, Int.add_mul_emod_self_left]
  have e := sum_three n hn t (fun k => cubF f k * p ^ k) hper
  show sumI (fun k => cubF f k * p ^ k) n % t = _
  rw [← e]
  show _ = sumI (fun k => f k * (p ^ 3) ^ k) n % t
  congr 1
  refine sumI_congr fun i _ => ?_
  show cubF f ((3 * i : Nat) : Int) * p ^ (3 * i) = f i * (p ^ 3) ^ i
  rw [← Int.pow_mul]
  congr 1
  show f (11 * ((3 * i : Nat) : Int)) = f i
  rcases hn with rfl | rfl | rfl
  · have := anti_many hf (i : Int) (4 * i)
    rw [← this]; congr 1; omega
  · have := anti_many hf (i : Int) (2 * i)
    rw [← this]; congr 1; omega
  · have := anti_many hf (i : Int) i
    rw [← this]; congr 1; omega

theorem evalF_pow_mod (n : Nat) (p t : Int) (f : Int → Int) : evalF n (p % t) f % t = evalF n p f % t :=
  sumI_mod t fun i _ => by rw [← mul_mod_right, pow_mod_mod, mul_mod_right]

/-- each slot takes the place of the one ahead of it -/
theorem valI_cub {n t : Nat} (g : NT n t) (ms : List Int) (j : Nat) (hj : j < n) : valI n t (cubI n ms t) j = valI n t ms (aheadN n j) := by
  have h0 : 0 < n := by omega
  rw [valI_eval, evalF_mod (fun i _ => ringF_cub n g.hn ms t i), evalF_cub n g.hn _ _ (pI_neg g j hj) _ (ringF_anti n h0 ms), valI_eval, ← evalF_pow_mod, pI_ahead g j hj]

/-- the slots, each in the place of the one ahead of it in its row -/
def aheadI (n : Nat) (xs : List Int) : List Int := (List.range n).map fun j => xs.getD (aheadN n j) 0

theorem aheadN_lt {n t : Nat} (g : NT n t) (j : Nat) (hj : j < n) : aheadN n j < n := by
  have key : ∀ n, n = 4 ∨ n = 8 ∨ n = 16 → ∀ j, j < n → aheadN n j < n := by
    intro n hn
    rcases hn with rfl | rfl | rfl <;> decide
  exact key n g.hn j hj

theorem dec_cub {n t : Nat} (g : NT n t) (ms : List Int) : decI n t (cubI n ms t) = aheadI n (decI n t ms) := by
  refine list_same (n := n) (decI_length _ _ _) (by simp [aheadI]) fun j hj => ?_
  rw [decI, getD_range hj, valI_cub g ms j hj, aheadI, getD_range hj, decI, getD_range (aheadN_lt g j hj)]

end Go.Proofs.YtcjhgbljhpflfabGreat

namespace Go.Proofs.YtcjhgbljhpflfabGreat
open Go.RowKit
set_option linter.unusedVariables false

theorem tk_rest (n : Nat) (ss : List Int) (q b : Int) (l : List UInt8) (i : Nat) : ∀ L, i < L → ∃ rest, tkL n ss q b l L = tkL n ss q b l i ++ (textsL 4 (hidI n ss (cubI n ss q) (2 ^ (b.toNat * i)) q l (5 * n * i)) ++ (textsL 4 (pairA l q n (5 * n * i)) ++ rest)) := by
  intro L
  induction L with
  | zero => intro h; omega
  | succ L ih =>
    intro h
    by_cases e : i = L
    · subst e
      exact ⟨[], by simp [tkL]⟩
    · obtain ⟨rest, hr⟩ := ih (by omega)
      refine ⟨rest ++ (textsL 4 (hidI n ss (cubI n ss q) (2 ^ (b.toNat * L)) q l (5 * n * L)) ++ textsL 4 (pairA l q n (5 * n * L))), ?_⟩
      simp only [tkL]
      rw [hr]
      simp

theorem tk_read0 (n : Nat) (ss : List Int) (q b : Int) (l : List UInt8) (L i : Nat) (hi : i < L) (hq : 0 < q) (hq2 : q ≤ 4294967296) : tkP (tkL n ss q b l L) n (2 * i) = hidI n ss (cubI n ss q) (2 ^ (b.toNat * i)) q l (5 * n * i) := by
  have hp : ((256 ^ 4 : Nat) : Int) = 4294967296 := by decide
  obtain ⟨rest, hr⟩ := tk_rest n ss q b l i L hi
  refine list_same (n := n) (tkP_length _ _ _) (hidI_length _ _ _ _ _ _ _) fun j hj => ?_
  have hb := hidI_bounds n ss (cubI n ss q) (2 ^ (b.toNat * i)) q l (5 * n * i) hq j (by rw [hidI_length]; exact hj)
  have e := numL_texts (tkL n ss q b l i) (textsL 4 (pairA l q n (5 * n * i)) ++ rest) (hidI n ss (cubI n ss q) (2 ^ (b.toNat * i)) q l (5 * n * i)) 4 j (by rw [hidI_length]; exact hj) (toNat_lt hb.1 hb.2 (by omega))
  rw [← hr, tkL_length] at e
  rw [tkP, getD_range hj, show 1 + 4 * (n * (2 * i)) + 4 * j = 1 + 8 * n * i + 4 * j by rw [show n * (2 * i) = 2 * (n * i) by rw [Nat.mul_left_comm], show 8 * n * i = 8 * (n * i) by rw [Nat.mul_assoc]]; omega, e]
  omega

theorem tk_read1 (n : Nat) (ss : List Int) (q b : Int) (l : List UInt8) (L i : Nat) (hi : i < L) (hq : 0 < q) (hq2 : q ≤ 4294967296) : tkP (tkL n ss q b l L) n (2 * i + 1) = pairA l q n (5 * n * i) := by
  have hp : ((256 ^ 4 : Nat) : Int) = 4294967296 := by decide
  obtain ⟨rest, hr⟩ := tk_rest n ss q b l i L hi
  refine list_same (n := n) (tkP_length _ _ _) (pairA_length _ _ _ _) fun j hj => ?_
  have hb := pairA_bounds l q n (5 * n * i) hq j (by rw [pairA_length]; exact hj)
  have e := numL_texts (tkL n ss q b l i ++ textsL 4 (hidI n ss (cubI n ss q) (2 ^ (b.toNat * i)) q l (5 * n * i))) rest (pairA l q n (5 * n * i)) 4 j (by rw [pairA_length]; exact hj) (toNat_lt hb.1 hb.2 (by omega))
  rw [List.append_assoc, ← hr, List.length_append, tkL_length, textsL_length, hidI_length] at e
  rw [tkP, getD_range hj, show 1 + 4 * (n * (2 * i + 1)) + 4 * j = 1 + 8 * n * i + 4 * n + 4 * j by rw [Nat.mul_succ, show n * (2 * i) = 2 * (n * i) by rw [Nat.mul_left_comm], show 8 * n * i = 8 * (n * i) by rw [Nat.mul_assoc]]; omega, e]
  omega

theorem tn_ok (n : Nat) (ss : List Int) (q b : Int) (l : List UInt8) (L : Nat) (hn : 0 < n) (hq : 0 < q) (hq2 : q ≤ 4294967296) : tnB (tkL n ss q b l L) (2 * n * L) q = true := by
  rw [tnB_iff]
  refine ⟨by rw [tkL_length, Nat.mul_assoc, Nat.mul_assoc]; omega, ?_, ?_⟩
  · induction L with
    | zero => rfl
    | succ L ih =>
      obtain ⟨rest, hr⟩ := tk_rest n ss q b l 0 (L + 1) (by omega)
      rw [hr]
      rfl
  · rw [okL_iff]
    refine ⟨by rw [List.length_tail, tkL_length, show 8 * n * L = 8 * (n * L) by rw [Nat.mul_assoc], show 2 * n * L = 2 * (n * L) by rw [Nat.mul_assoc]]; omega, fun k hk => ?_⟩
    have hk2 : k / n < 2 * L := Nat.div_lt_of_lt_mul (by rw [show n * (2 * L) = 2 * n * L by rw [Nat.mul_comm 2 n, Nat.mul_assoc]]; exact hk)
    have hj : k % n < n := Nat.mod_lt _ hn
    have e1 : (numL (tkL n ss q b l L) (1 + 4 * (n * (k / n)) + 4 * (k % n)) 4 : Int) = (tkP (tkL n ss q b l L) n (k / n)).getD (k % n) 0 := by rw [tkP, getD_range hj]
    have e2 : n * (k / n) + k % n = k := Nat.div_add_mod k n
    rw [← List.drop_one, numL_drop, show 1 + k * 4 = 1 + 4 * (n * (k / n)) + 4 * (k % n) by omega, e1]
    obtain ⟨i, hi⟩ : ∃ i, k / n = 2 * i ∨ k / n = 2 * i + 1 := ⟨k / n / 2, by omega⟩
    rcases hi with hi | hi
    · rw [hi, tk_read0 n ss q b l L i (by omega) hq hq2]
      exact (hidI_bounds n ss (cubI n ss q) (2 ^ (b.toNat * i)) q l (5 * n * i) hq (k % n) (by rw [hidI_length]; exact hj)).2
    · rw [hi, tk_read1 n ss q b l L i (by omega) hq hq2]
      exact (pairA_bounds l q n (5 * n * i) hq (k % n) (by rw [pairA_length]; exact hj)).2

/-- digits -/
theorem digit_sum (x B : Int) (hB : 0 < B) (i : Nat) : sumI (fun j => B ^ j * (x / B ^ j % B)) i + B ^ i * (x / B ^ i) = x := by
  induction i with
  | zero => simp [sumI]
  | succ i ih =>
    have h1 := Int.mul_ediv_add_emod (x / B ^ i) B
    have h2 : x / B ^ i / B = x / B ^ (i + 1) := by rw [Int.pow_succ, Int.ediv_ediv_of_nonneg (Int.le_of_lt (Int.pow_pos hB))]
    simp only [sumI]
    rw [h2] at h1
    have h3 : B ^ i * (x / B ^ i) = B ^ i * (B * (x / B ^ (i + 1))) + B ^ i * (x / B ^ i % B) := by rw [← Int.mul_add, h1]
    have h4 : B ^ (i + 1) * (x / B ^ (i + 1)) = B ^ i * (B * (x / B ^ (i + 1))) := by rw [Int.pow_succ, Int.mul_assoc]
    rw [h4]
    omega

/-- what the first digits make together -/
def lowF (n : Nat) (X : List Int) (B : Int) : Nat → Int → Int
  | 0, _ => 0
  | i + 1, z => lowF n X B i z + B ^ i * ringF n (digI n X B i) z

theorem lowF_anti (n : Nat) (hn : 0 < n) (X : List Int) (B : Int) (i : Nat) : Anti n (lowF n X B i) := by
  induction i with
  | zero => intro z; rfl
  | succ i ih =>
    intro z
    show lowF n X B i (z + n) + B ^ i * ringF n (digI n X B i) (z + n) = -(lowF n X B i z + B ^ i * ringF n (digI n X B i) z)
    rw [ih, ringF_anti n hn, Int.mul_neg]
    omega

theorem lowF_at (n : Nat) (X : List Int) (B : Int) (i k : Nat) (hk : k < n) : lowF n X B i k = sumI (fun j => B ^ j * (X.getD k 0 / B ^ j % B)) i := by
  induction i with
  | zero => rfl
  | succ i ih =>
    show lowF n X B i k + B ^ i * ringF n (digI n X B i) k = _
    rw [ih, ringF_at n _ k hk, digI, getD_range hk]
    rfl

theorem lowF_all (n : Nat) (hn : 0 < n) (X : List Int) (B : Int) (L : Nat) (hB : 0 < B) (hX : ∀ k, k < n → 0 ≤ X.getD k 0 ∧ X.getD k 0 < B ^ L) (z : Int) : lowF n X B L z = ringF n X z := by
  have := Anti.ext (q := 0) hn (lowF_anti n hn X B L) (ringF_anti n hn X) (fun k hk => by
    rw [lowF_at n X B L k hk, ringF_at n X k hk]
    have h := digit_sum (X.getD k 0) B hB L
    rw [Int.ediv_eq_zero_of_lt (hX k hk).1 (hX k hk).2, Int.mul_zero, Int.add_zero] at h
    rw [h]) z
  simpa using this

/-- the noise that the digits bring -/
def errF (n : Nat) (X : List Int) (B : Int) (d : List UInt8) : Nat → Int → Int
  | 0, _ => 0
  | i + 1, z => errF n X B d i z + conv n (ringF n (pairE d n (5 * n * i))) (ringF n (digI n X B i)) z

theorem sizeF_dig (n : Nat) (X : List Int) (B : Int) (i : Nat) (hB : 0 < B) : sizeF n (ringF n (digI n X B i)) ≤ n * (B - 1) := by
  have h : sizeF n (ringF n (digI n X B i)) ≤ sumI (fun _ => B - 1) n := sumI_le fun k hk => by
    rw [ringF_at n _ k hk, digI, getD_range hk]
    have := mod_bounds hB (X.getD k 0 / B ^ i)
    unfold digC
    omega
  have e : ∀ n : Nat, sumI (fun _ => B - 1) n = n * (B - 1) := by
    intro n
    induction n with
    | zero => simp [sumI]
    | succ n ih =>
      simp only [sumI]
      rw [ih, Int.natCast_add, Int.add_mul, show ((1 : Nat) : Int) = 1 from rfl, Int.one_mul]
  rw [e] at h
  exact h

theorem errF_le (n : Nat) (hn : 0 < n) (X : List Int) (B : Int) (d : List UInt8) (hB : 0 < B) (i : Nat) (z : Int) : errF n X B d i z ≤ i * (n * (B - 1)) * 2 ∧ -(i * (n * (B - 1)) * 2) ≤ errF n X B d i z := by
  induction i with
  | zero => simp [errF]
  | succ i ih =>
    have hc := conv_le n (ringF n (pairE d n (5 * n * i))) (ringF n (digI n X B i)) (ringF_anti n hn _) 2 (fun j hj => by
      rw [ringF_at n _ j hj, pairE, getD_range hj]
      exact prE_bounds d n (5 * n * i) j) z
    have hs := sizeF_dig n X B i hB
    show errF n X B d i z + conv n (ringF n (pairE d n (5 * n * i))) (ringF n (digI n X B i)) z ≤ _ ∧ _ ≤ errF n X B d i z + conv n (ringF n (pairE d n (5 * n * i))) (ringF n (digI n X B i)) z
    have e : ((i + 1 : Nat) : Int) * ((n : Int) * (B - 1)) * 2 = (i : Int) * ((n : Int) * (B - 1)) * 2 + 2 * ((n : Int) * (B - 1)) := by
      rw [Int.natCast_add, Int.add_mul, Int.add_mul, show ((1 : Nat) : Int) = 1 from rfl, Int.one_mul, Int.mul_comm ((n : Int) * (B - 1)) 2]
    rw [e]
    constructor <;> omega

/-- the part of a turning key that lies over the turned secret -/
theorem hid_row (n : Nat) (hn : n = 4 ∨ n = 8 ∨ n = 16) (s : List Int) (k q : Int) (d : List UInt8) (a : Nat) (z : Int) : ringF n (hidI n s (cubI n s q) k q d a) z % q = (ringF n (pairE d n a) z + k * cubF (ringF n s) z - conv n (ringF n (pairA d q n a)) (ringF n s) z) % q := by
  have h0 : 0 < n := by omega
  unfold hidI
  have h1 := ringF_plus n h0 (plusI n (pairE d n a) (scaledI n (cubI n s q) k q) q) (scaledI n (timesI n (pairA d q n a) s q) (-1) q) q z
  have h2 := ringF_plus n h0 (pairE d n a) (scaledI n (cubI n s q) k q) q z
  have h3 := ringF_scaled n h0 (timesI n (pairA d q n a) s q) (-1) q z
  have h4 := ringF_times n h0 (pairA d q n a) s q z
  have h5 := ringF_scaled n h0 (cubI n s q) k q z
  have h6 := ringF_cub n hn s q z
  generalize ringF n (plusI n (plusI n (pairE d n a) (scaledI n (cubI n s q) k q) q) (scaledI n (timesI n (pairA d q n a) s q) (-1) q) q) z = A at h1 ⊢
  generalize ringF n (plusI n (pairE d n a) (scaledI n (cubI n s q) k q) q) z = B at h1 h2
  generalize ringF n (scaledI n (timesI n (pairA d q n a) s q) (-1) q) z = C at h1 h3
  generalize ringF n (timesI n (pairA d q n a) s q) z = Y at h3 h4
  generalize ringF n (scaledI n (cubI n s q) k q) z = X at h2 h5
  generalize ringF n (cubI n s q) z = U at h5 h6
  generalize cubF (ringF n s) z = V at h6 ⊢
  generalize conv n (ringF n (pairA d q n a)) (ringF n s) z = Z at h4 ⊢
  generalize ringF n (pairE d n a) z = E at h2 ⊢
  obtain ⟨k1, h1⟩ := mod_ex h1
  obtain ⟨k2, h2⟩ := mod_ex h2
  obtain ⟨k3, h3⟩ := mod_ex h3
  obtain ⟨k4, h4⟩ := mod_ex h4
  obtain ⟨k5, h5⟩ := mod_ex h5
  obtain ⟨k6, h6⟩ := mod_ex h6
  have e5 : k * U = k * V + q * (k * k6) := by rw [h6, Int.mul_add, Int.mul_left_comm]
  have e : A = E + k * V - Z + q * (k1 + k2 + k3 - k4 + k5 + k * k6) := by
    rw [Int.mul_add, Int.mul_add, Int.mul_sub, Int.mul_add, Int.mul_add]
    omega
  rw [e, Int.add_mul_emod_self_left]

/-- turned, digit by digit -/
theorem turn_sum (n : Nat) (hn : n = 4 ∨ n = 8 ∨ n = 16) (s : List Int) (q b : Int) (B : Int) (hB : B = 2 ^ b.toNat) (d : List UInt8) (L : Nat) (hq : 0 < q) (hq2 : q ≤ 4294967296) (C X : List Int) : ∀ i, i ≤ L → ∀ z,
    (ringF n (turn0 n q B C X (tkL n s q b d L) i) z + conv n (ringF n (turn1 n q B X (tkL n s q b d L) i)) (ringF n s) z) % q = (ringF n C z + conv n (lowF n X B i) (cubF (ringF n s)) z + errF n X B d i z) % q := by
  have h0 : 0 < n := by omega
  have hs := ringF_anti n h0 s
  have hcs := cubF_anti hs
  intro i
  induction i with
  | zero =>
    intro _ z
    have e1 : ∀ y, ringF n (turn1 n q B X (tkL n s q b d L) 0) y % q = (fun _ => 0 : Int → Int) y % q := by
      intro y
      refine Anti.ext (g := fun _ => 0) h0 (ringF_anti n h0 _) (fun _ => show (0 : Int) = -0 from rfl) (fun j hj => ?_) y
      rw [ringF_at n _ j hj]
      simp only [turn1]
      rw [getD_range hj]
    have e2 := conv_mod (n := n) (q := q) (g := ringF n s) (g' := ringF n s) e1 (fun _ => rfl) z
    have e3 : conv n (fun _ => 0) (ringF n s) z = 0 := by
      show sumI (fun i => (0 : Int) * ringF n s (z - (i : Int))) n = 0
      rw [show (fun i : Nat => (0 : Int) * ringF n s (z - (i : Int))) = fun _ => 0 from funext fun i => Int.zero_mul _]
      exact sumI_zero n
    have e4 : conv n (lowF n X B 0) (cubF (ringF n s)) z = 0 := by
      show sumI (fun i => (0 : Int) * cubF (ringF n s) (z - (i : Int))) n = 0
      rw [show (fun i : Nat => (0 : Int) * cubF (ringF n s) (z - (i : Int))) = fun _ => 0 from funext fun i => Int.zero_mul _]
      exact sumI_zero n
    rw [e4, ← add_mod_right, e2, add_mod_right, e3]
    show (ringF n C z + 0) % q = (ringF n C z + 0 + 0) % q
    rw [Int.add_zero, Int.add_zero]
  | succ i ih =>
    intro hi z
    have hI := ih (by omega) z
    have hl0 := tk_read0 n s q b d L i (by omega) hq hq2
    have hl1 := tk_read1 n s q b d L i (by omega) hq hq2
    have hBi : (2 : Int) ^ (b.toNat * i) = B ^ i := by rw [hB, ← Int.pow_mul]
    rw [hBi] at hl0
    simp only [turn0, turn1]
    generalize turn0 n q B C X (tkL n s q b d L) i = T0 at hI ⊢
    generalize turn1 n q B X (tkL n s q b d L) i = T1 at hI ⊢
    rw [hl0, hl1]
    have hD := ringF_anti n h0 (digI n X B i)
    have hA := ringF_anti n h0 (pairA d q n (5 * n * i))
    -- c0
    have p1 := ringF_plus n h0 T0 (timesI n (hidI n s (cubI n s q) (B ^ i) q d (5 * n * i)) (digI n X B i) q) q z
    have p2 := ringF_times n h0 (hidI n s (cubI n s q) (B ^ i) q d (5 * n * i)) (digI n X B i) q z
    have p3 := conv_mod (n := n) (q := q) (g := ringF n (digI n X B i)) (g' := ringF n (digI n X B i)) (fun y => hid_row n hn s (B ^ i) q d (5 * n * i) y) (fun _ => rfl) z
    have p4 : conv n (fun y => ringF n (pairE d n (5 * n * i)) y + B ^ i * cubF (ringF n s) y - conv n (ringF n (pairA d q n (5 * n * i))) (ringF n s) y) (ringF n (digI n X B i)) z
        = conv n (ringF n (pairE d n (5 * n * i))) (ringF n (digI n X B i)) z + B ^ i * conv n (ringF n (digI n X B i)) (cubF (ringF n s)) z - conv n (conv n (ringF n (pairA d q n (5 * n * i))) (ringF n s)) (ringF n (digI n X B i)) z := by
      rw [conv_comm n (ringF n (digI n X B i)) (cubF (ringF n s)) hD hcs, ← conv_mul_left, ← conv_add_left]
      unfold conv
      have : ∀ (f h : Nat → Int) (m : Nat), sumI f m - sumI h m = sumI (fun i => f i - h i) m := by
        intro f h m
        induction m with
        | zero => rfl
        | succ m ih => simp only [sumI]; rw [← ih]; omega
      rw [this]
      exact sumI_congr fun j _ => Int.sub_mul _ _ _
    rw [p4] at p3
    -- c1
    have r1 := conv_mod (n := n) (q := q) (g := ringF n s) (g' := ringF n s) (fun y => ringF_plus n h0 T1 (timesI n (pairA d q n (5 * n * i)) (digI n X B i) q) q y) (fun _ => rfl) z
    rw [conv_add_left] at r1
    have r2 := conv_mod (n := n) (q := q) (g := ringF n s) (g' := ringF n s) (fun y => ringF_times n h0 (pairA d q n (5 * n * i)) (digI n X B i) q y) (fun _ => rfl) z
    have r3 : conv n (conv n (ringF n (pairA d q n (5 * n * i))) (ringF n (digI n X B i))) (ringF n s) z = conv n (conv n (ringF n (pairA d q n (5 * n * i))) (ringF n s)) (ringF n (digI n X B i)) z := by
      rw [conv_assoc n _ _ _ hD hs, conv_assoc n _ _ _ hs hD, show conv n (ringF n (digI n X B i)) (ringF n s) = conv n (ringF n s) (ringF n (digI n X B i)) from funext fun k => conv_comm n _ _ hD hs k]
    rw [r3] at r2
    -- the right side
    have t1 : conv n (lowF n X B (i + 1)) (cubF (ringF n s)) z = conv n (lowF n X B i) (cubF (ringF n s)) z + B ^ i * conv n (ringF n (digI n X B i)) (cubF (ringF n s)) z := by
      show conv n (fun y => lowF n X B i y + B ^ i * ringF n (digI n X B i) y) (cubF (ringF n s)) z = _
      rw [conv_add_left, conv_mul_left]
    have t2 : errF n X B d (i + 1) z = errF n X B d i z + conv n (ringF n (pairE d n (5 * n * i))) (ringF n (digI n X B i)) z := rfl
    rw [t1, t2]
    generalize conv n (ringF n (pairE d n (5 * n * i))) (ringF n (digI n X B i)) z = G1 at p3 ⊢
    generalize B ^ i * conv n (ringF n (digI n X B i)) (cubF (ringF n s)) z = G2 at p3 ⊢
    generalize conv n (conv n (ringF n (pairA d q n (5 * n * i))) (ringF n s)) (ringF n (digI n X B i)) z = G3 at p3 r2
    generalize conv n (lowF n X B i) (cubF (ringF n s)) z = G4 at hI ⊢
    generalize errF n X B d i z = G5 at hI ⊢
    generalize conv n (ringF n (timesI n (pairA d q n (5 * n * i)) (digI n X B i) q)) (ringF n s) z = G6 at r1 r2
    generalize conv n (ringF n (plusI n T1 (timesI n (pairA d q n (5 * n * i)) (digI n X B i) q) q)) (ringF n s) z = G7 at r1 ⊢
    generalize conv n (ringF n T1) (ringF n s) z = G8 at r1 hI
    generalize ringF n (plusI n T0 (timesI n (hidI n s (cubI n s q) (B ^ i) q d (5 * n * i)) (digI n X B i) q) q) z = G9 at p1 ⊢
    generalize ringF n (timesI n (hidI n s (cubI n s q) (B ^ i) q d (5 * n * i)) (digI n X B i) q) z = G10 at p1 p2
    generalize conv n (ringF n (hidI n s (cubI n s q) (B ^ i) q d (5 * n * i))) (ringF n (digI n X B i)) z = G11 at p2 p3
    generalize ringF n T0 z = G12 at p1 hI
    generalize ringF n C z = G13 at hI ⊢
    obtain ⟨k1, p1⟩ := mod_ex p1
    obtain ⟨k2, p2⟩ := mod_ex p2
    obtain ⟨k3, p3⟩ := mod_ex p3
    obtain ⟨k4, r1⟩ := mod_ex r1
    obtain ⟨k5, r2⟩ := mod_ex r2
    obtain ⟨k6, hI⟩ := mod_ex hI
    have e : G9 + G7 = G13 + (G4 + G2) + (G5 + G1) + q * (k1 + k2 + k3 + k4 + k5 + k6) := by
      rw [Int.mul_add, Int.mul_add, Int.mul_add, Int.mul_add, Int.mul_add]
      omega
    rw [e, Int.add_mul_emod_self_left]

theorem mixF_anti (n : Nat) (hn : 0 < n) (s c0 c1 : List Int) : Anti n (mixF n s c0 c1) := by
  intro z
  show ringF n c0 (z + n) + conv n (ringF n c1) (ringF n s) (z + n) = -(ringF n c0 z + conv n (ringF n c1) (ringF n s) z)
  rw [ringF_anti n hn, conv_anti n _ _ (ringF_anti n hn s)]
  omega

theorem ringF_le (n : Nat) (hn : 0 < n) (xs : List Int) (E : Int) (h : ∀ i, i < n → -E ≤ xs.getD i 0 ∧ xs.getD i 0 ≤ E) (z : Int) : -E ≤ ringF n xs z ∧ ringF n xs z ≤ E := by
  have h0 : 0 ≤ z % (2 * n : Int) := Int.emod_nonneg _ (by omega)
  have h1 : z % (2 * n : Int) < 2 * n := Int.emod_lt_of_pos _ (by omega)
  unfold ringF
  split
  · exact h _ (by omega)
  · have := h (z % (2 * n : Int) - n).toNat (by omega)
    omega

/-- what a turned ciphertext holds -/
theorem Holds.turn {n : Nat} {t q b B : Int} {s c0 c1 ms : List Int} {E G : Int} {L : Nat} (hn : n = 4 ∨ n = 8 ∨ n = 16) (ht : 0 < t) (hB : B = 2 ^ b.toNat) (hq : 0 < q) (hq2 : q ≤ 4294967296) (hL : q ≤ B ^ L) (d : List UInt8) (hc : Holds n t q s c0 c1 ms E)
    (hm : ∀ i, i < n → 0 ≤ ms.getD i 0 ∧ ms.getD i 0 < t) (hG : E + q % t + L * (n * (B - 1)) * 2 ≤ G) :
    Holds n t q s (turn0 n q B (cubI n c0 q) (cubI n c1 q) (tkL n s q b d L) L) (turn1 n q B (cubI n c1 q) (tkL n s q b d L) L) (cubI n ms t) G := by
  have h0 : 0 < n := by omega
  have hB0 : 0 < B := by rw [hB]; exact Int.pow_pos (by omega)
  have hs := ringF_anti n h0 s
  have hR := mod_bounds ht q
  obtain ⟨e, he, hce⟩ := hc
  have hE : ∀ z, -E ≤ ringF n ((List.range n).map e) z ∧ ringF n ((List.range n).map e) z ≤ E := ringF_le n h0 _ E fun i hi => by rw [getD_range hi]; exact he i hi
  have hmix : ∀ z, mixF n s c0 c1 z % q = (q / t * ringF n ms z + ringF n ((List.range n).map e) z) % q := by
    have hm1 := ringF_anti n h0 ms
    have hm2 := ringF_anti n h0 ((List.range n).map e)
    refine Anti.ext h0 (mixF_anti n h0 s c0 c1) (g := fun z => q / t * ringF n ms z + ringF n ((List.range n).map e) z) (fun z => ?_) (fun i hi => ?_)
    · show q / t * ringF n ms (z + n) + ringF n ((List.range n).map e) (z + n) = -(q / t * ringF n ms z + ringF n ((List.range n).map e) z)
      rw [hm1, hm2, Int.mul_neg]
      omega
    · rw [hce i hi, ringF_at n ms i hi, ringF_at n _ i hi, getD_range hi]
  refine Holds.wrap (fun i => cubF (ringF n ms) i) (fun i => cubF (ringF n ((List.range n).map e)) i + errF n (cubI n c1 q) B d L i) (E + q % t + L * (n * (B - 1)) * 2) (fun i hi => cubI_at n hn ms t i hi) ?_ hG ?_
  · intro i hi
    have h1 := hE (11 * (i : Int))
    have h2 := errF_le n h0 (cubI n c1 q) B d hB0 L i
    have hx : -t < cubF (ringF n ms) i ∧ cubF (ringF n ms) i < t := by
      have := ringF_le n h0 ms (t - 1) (fun i hi => by have := hm i hi; omega) (11 * (i : Int))
      unfold cubF
      omega
    have hd1 : -1 ≤ cubF (ringF n ms) i / t := (Int.le_ediv_iff_mul_le ht).2 (by omega)
    have hd2 : cubF (ringF n ms) i / t < 1 := Int.ediv_lt_of_lt_mul ht (by omega)
    have hm1 : q % t * (-1) ≤ q % t * (cubF (ringF n ms) i / t) := Int.mul_le_mul_of_nonneg_left hd1 hR.1
    have hm2 : q % t * (cubF (ringF n ms) i / t) ≤ q % t * 0 := Int.mul_le_mul_of_nonneg_left (by omega) hR.1
    rw [Int.mul_neg, Int.mul_one] at hm1
    rw [Int.mul_zero] at hm2
    have h3 : -E ≤ cubF (ringF n ((List.range n).map e)) i ∧ cubF (ringF n ((List.range n).map e)) i ≤ E := h1
    constructor
    · show -(E + q % t + L * (n * (B - 1)) * 2) ≤ cubF (ringF n ((List.range n).map e)) i + errF n (cubI n c1 q) B d L i - q % t * (cubF (ringF n ms) i / t)
      omega
    · show cubF (ringF n ((List.range n).map e)) i + errF n (cubI n c1 q) B d L i - q % t * (cubF (ringF n ms) i / t) ≤ E + q % t + L * (n * (B - 1)) * 2
      omega
  · intro i hi
    have hsum := turn_sum n hn s q b B hB d L hq hq2 (cubI n c0 q) (cubI n c1 q) L (Nat.le_refl _) i
    have hlow : lowF n (cubI n c1 q) B L = ringF n (cubI n c1 q) := funext fun z => lowF_all n h0 (cubI n c1 q) B L hB0 (fun k hk => by
      have := cubI_bounds n c1 q hq k hk
      omega) z
    rw [hlow] at hsum
    have hc0 := ringF_cub n hn c0 q i
    have hc1 := conv_mod (n := n) (q := q) (g := cubF (ringF n s)) (g' := cubF (ringF n s)) (fun z => ringF_cub n hn c1 q z) (fun _ => rfl) (i : Int)
    rw [conv_cub n hn _ _ (ringF_anti n h0 c1) hs] at hc1
    have hmx := hmix (11 * (i : Int))
    unfold mixF at hmx ⊢
    rw [hsum]
    have e0 : cubF (ringF n c0) i = ringF n c0 (11 * (i : Int)) := rfl
    have e1 : cubF (conv n (ringF n c1) (ringF n s)) i = conv n (ringF n c1) (ringF n s) (11 * (i : Int)) := rfl
    have e2 : cubF (ringF n ms) i = ringF n ms (11 * (i : Int)) := rfl
    have e3 : cubF (ringF n ((List.range n).map e)) i = ringF n ((List.range n).map e) (11 * (i : Int)) := rfl
    rw [e0] at hc0
    rw [e1] at hc1
    show _ = (q / t * cubF (ringF n ms) i + (cubF (ringF n ((List.range n).map e)) i + errF n (cubI n c1 q) B d L i)) % q
    rw [e2, e3]
    generalize ringF n (cubI n c0 q) i = a1 at hc0 ⊢
    generalize conv n (ringF n (cubI n c1 q)) (cubF (ringF n s)) i = a2 at hc1 ⊢
    generalize ringF n c0 (11 * (i : Int)) = a3 at hc0 hmx
    generalize conv n (ringF n c1) (ringF n s) (11 * (i : Int)) = a4 at hc1 hmx
    generalize q / t * ringF n ms (11 * (i : Int)) = a5 at hmx ⊢
    generalize ringF n ((List.range n).map e) (11 * (i : Int)) = a6 at hmx ⊢
    generalize errF n (cubI n c1 q) B d L i = a7
    obtain ⟨k1, hc0⟩ := mod_ex hc0
    obtain ⟨k2, hc1⟩ := mod_ex hc1
    obtain ⟨k3, hmx⟩ := mod_ex hmx
    have e9 : a1 + a2 + a7 = a5 + (a6 + a7) + q * (k1 + k2 + k3) := by
      rw [Int.mul_add, Int.mul_add]
      omega
    rw [e9, Int.add_mul_emod_self_left]

theorem turn_ct {n t : Nat} (g : NT n t) (q b : Int) (hq : 2 ≤ q) (hq2 : q ≤ 1073741823) (hb : 1 ≤ b) (hb2 : b ≤ 8) (L : Nat) (hL : DigOf q b L) (s : List Int) (x d : List UInt8) (ms : List Int) (E : Nat) (hx : IsCT n t q s x ms E) (hfit : fitsB t q ((E + (q % (t : Int)).toNat + L * n * ((2 : Int) ^ b.toNat - 1).toNat * 2 : Nat) : Int) = true) :
    (turnL n t q b L x (tkL n s q b d L)).2 = 0 ∧ IsCT n t q s (turnL n t q b L x (tkL n s q b d L)).1 (cubI n ms t) (E + (q % (t : Int)).toNat + L * n * ((2 : Int) ^ b.toNat - 1).toNat * 2) := by
  have hn : 0 < n := by have := g.half; omega
  have ht := g.t3
  have ht2 := g.ht
  obtain ⟨_, hp2, hp3⟩ := pow_b b hb hb2
  have hR := mod_bounds (show (0 : Int) < (t : Int) by omega) q
  have hlt := fits_lt (by omega) (by omega) hfit
  have e : turnL n t q b L x (tkL n s q b d L) = (toldL (E + (q % (t : Int)).toNat + L * n * ((2 : Int) ^ b.toNat - 1).toNat * 2) (turn0 n q (2 ^ b.toNat) (cubI n (ct0 x n) q) (cubI n (ct1 x n) q) (tkL n s q b d L) L) (turn1 n q (2 ^ b.toNat) (cubI n (ct1 x n) q) (tkL n s q b d L) L), 0) := by
    unfold turnL tellL
    rw [hx.bound, if_pos hfit]
  rw [e]
  have hcb := cubI_bounds n (ct0 x n) q (by omega)
  obtain ⟨h1, h2, h3, h4⟩ := told_read n (E + (q % (t : Int)).toNat + L * n * ((2 : Int) ^ b.toNat - 1).toNat * 2) t q _ _ (turn0_length n q (2 ^ b.toNat) (cubI n (ct0 x n) q) (cubI n (ct1 x n) q) (tkL n s q b d L) L (cubI_length _ _ _)) (turn1_length n q (2 ^ b.toNat) (cubI n (ct1 x n) q) (tkL n s q b d L) L) (by omega)
    (turn0_bounds n q (2 ^ b.toNat) (cubI n (ct0 x n) q) (cubI n (ct1 x n) q) (tkL n s q b d L) L (by omega) hcb) (turn1_bounds n q (2 ^ b.toNat) (cubI n (ct1 x n) q) (tkL n s q b d L) L (by omega)) (by omega) hfit
  refine ⟨rfl, h1, h2, cubI_length _ _ _, cubI_bounds n ms t (by omega), ?_⟩
  show Holds n t q s (ct0 (toldL _ _ _) n) (ct1 (toldL _ _ _) n) _ _
  rw [h3, h4]
  refine Holds.turn g.hn (by omega) rfl (by omega) (by omega) (by rw [← Int.pow_mul]; exact hL.top) d hx.holds hx.small ?_
  have c1 : ((q % (t : Int)).toNat : Int) = q % (t : Int) := by omega
  have c2 : ((((2 : Int) ^ b.toNat - 1).toNat : Nat) : Int) = 2 ^ b.toNat - 1 := by omega
  rw [Int.natCast_add, Int.natCast_add, Int.natCast_mul, Int.natCast_mul, Int.natCast_mul, c1, c2, Int.mul_assoc (L : Int) (n : Int)]
  exact Int.le_refl _

end Go.Proofs.YtcjhgbljhpflfabGreat

namespace Go.Proofs.YtcjhgbljhpflfabGreat
open Go.RowKit
set_option linter.unusedVariables false
set_option maxRecDepth 100000

set_option maxHeartbeats 4000000 in
theorem keepDigits_calls (L : Nat) (n t q b : Int) (w : World) (hq : 2 ≤ q) (hq2 : q ≤ 1073741823) (hb : 1 ≤ b) (hb2 : b ≤ 8) (hL : DigOf q b L) :
    Calls Tryz.prog 126 #[.agg #[.int .i64 n, .int .i64 t, .int .i64 q, .int .i64 b]] w fun e w' => e = .returned (.int .i64 L) ∧ Up w w' := by
  have hL30 := hL.le hb hq2
  have H1 : Hid _ := hL.top
  have H2 : Hid _ := hL.low
  have HB : Hid (∀ k : Nat, 1 ≤ (2 : Int) ^ (b.toNat * k)) := fun k => by
    have : 1 ≤ (2 : Nat) ^ (b.toNat * k) := Nat.one_le_two_pow
    exact_mod_cast this
  have HS : Hid (∀ k : Nat, (2 : Int) ^ (b.toNat * k) * 2 ^ b.toNat = 2 ^ (b.toNat * (k + 1))) := fun k => by
    rw [← Int.pow_add, Nat.mul_succ]
  obtain ⟨_, hp2, hp3⟩ := pow_b b hb hb2
  clear hL
  go_enter Tryz.func126, Tryz.ntmps126
  go_wp2_with fail
  go_loop [3, 4] (fun x y => ∃ (k : Nat) (V : Int), k ≤ L ∧ x = .int .i64 (k : Int) ∧ y = .int .i64 V ∧ Hid (V = 2 ^ (b.toNat * k))) (fun x _ => L - (intOf x).toNat)
  case atStart => exact ⟨0, 1, Nat.zero_le _, rfl, rfl, by show _ = _; simp⟩
  case round =>
    obtain ⟨k, V, hk, rfl, rfl, HV⟩ := hrel
    have hb1 := HB.out k
    rw [← HV.out] at hb1
    by_cases hlt : k < L
    · have hlt2 := H2.out k hlt
      rw [← HV.out] at hlt2
      have HS1 : Hid _ := HS.out k
      have h3 : 0 ≤ V * 2 ^ b.toNat := Int.mul_nonneg (by omega) (by omega)
      have h4 : V * 2 ^ b.toNat ≤ 1073741823 * 256 := Int.mul_le_mul (by omega) (by omega) (by omega) (by omega)
      have e1 : IntKind.i64.wrap (V * 2 ^ b.toNat) = V * 2 ^ b.toNat := IntWalk.i64_in _ (by omega)
      go_wp2_with fail
      go_round
      case rel => exact ⟨k + 1, V * 2 ^ b.toNat, by omega, by go_num, rfl, by show _ = _; rw [← HS1.out, ← HV.out]⟩
      case measure => simp [intOf]; omega
    · obtain rfl : k = L := by omega
      have hge := H1.out
      rw [← HV.out] at hge
      go_wp2_with fail
      go_ret
      exact ⟨rfl, (Up.refl _).alloc _⟩

theorem i64_nat (a : Nat) (h : a ≤ 1000000) : IntKind.i64.wrap (a : Int) = (a : Int) := IntWalk.i64_in _ (by omega)

end Go.Proofs.YtcjhgbljhpflfabGreat
