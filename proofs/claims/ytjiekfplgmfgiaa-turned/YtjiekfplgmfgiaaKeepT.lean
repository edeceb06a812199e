/-
  x^3 in the place of x: rows, products, slots. No program here.
-/
import Derived.Test.YtjiekfplgmfgiaaKeepA
import Derived.Test.YtjiekfplgmfgiaaWalksTa
namespace Go.Proofs.Ytjiekfplgmfgiaa
open Go.RowKit
set_option linter.unusedVariables false

/-- a row with x^3 in the place of x: 11 is one over 3, by 2N -/
def cubF (f : Int → Int) (z : Int) : Int := f (11 * z)

theorem Anti.twice {n : Nat} {f : Int → Int} (h : Anti n f) (z : Int) : f (z + 2 * n) = f z := by
  have h1 := h (z + n)
  have h2 := h z
  rw [show z + (2 * n : Int) = z + n + n by omega, h1, h2]
  omega

theorem cubF_anti {n : Nat} {f : Int → Int} (h : Anti n f) : Anti n (cubF f) := by
  intro z
  show f (11 * (z + n)) = -f (11 * z)
  rw [show 11 * (z + (n : Int)) = 11 * z + n + 2 * n + 2 * n + 2 * n + 2 * n + 2 * n by omega, h.twice, h.twice, h.twice, h.twice, h.twice, h]

theorem cub_facts (n : Nat) (hn : n = 4 ∨ n = 8 ∨ n = 16) : ∀ i, i < n → kOf n i < n ∧ (if 3 * kOf n i % (2 * n) = i then (11 * i) % (2 * n) = kOf n i else (11 * i) % (2 * n) = kOf n i + n) := by
  rcases hn with rfl | rfl | rfl <;> decide

/-- the list and the row -/
theorem cub_at (n : Nat) (hn : n = 4 ∨ n = 8 ∨ n = 16) (xs : List Int) (i : Nat) (hi : i < n) : cubF (ringF n xs) i = if 3 * kOf n i % (2 * n) = i then xs.getD (kOf n i) 0 else -(xs.getD (kOf n i) 0) := by
  obtain ⟨h1, h2⟩ := cub_facts n hn i hi
  have e0 : (11 * (i : Int)) % (2 * n : Int) = ((11 * i % (2 * n) : Nat) : Int) := by
    rw [Int.natCast_emod, Int.natCast_mul, Int.natCast_mul]; rfl
  show ringF n xs (11 * (i : Int)) = _
  unfold ringF
  rw [e0]
  by_cases c : 3 * kOf n i % (2 * n) = i
  · rw [if_pos c] at h2
    rw [if_pos c, h2, if_pos (by omega)]
    rfl
  · rw [if_neg c] at h2
    rw [if_neg c, h2, if_neg (by omega)]
    congr 2
    omega

theorem cubI_at (n : Nat) (hn : n = 4 ∨ n = 8 ∨ n = 16) (xs : List Int) (q : Int) (i : Nat) (hi : i < n) : (cubI n xs q).getD i 0 = cubF (ringF n xs) i % q := by
  rw [cubI, getD_range hi, cubC, cub_at n hn xs i hi]
  split <;> rfl

theorem ringF_cub (n : Nat) (hn : n = 4 ∨ n = 8 ∨ n = 16) (xs : List Int) (q : Int) (z : Int) : ringF n (cubI n xs q) z % q = cubF (ringF n xs) z % q := by
  have h0 : 0 < n := by omega
  refine Anti.ext h0 (ringF_anti n h0 _) (cubF_anti (ringF_anti n h0 xs)) ?_ z
  intro i hi
  rw [ringF_at n _ i hi, cubI_at n hn xs q i hi, Int.emod_emod]

theorem per_mod {n : Nat} {q : Int} {h : Int → Int} (hp : ∀ z, h (z + n) % q = h z % q) (k : Nat) : ∀ z, h (z + n * k) % q = h z % q := by
  induction k with
  | zero => intro z; simp
  | succ k ih =>
    intro z
    rw [show z + (n : Int) * ((k + 1 : Nat) : Int) = (z + n * k) + n by rw [Int.natCast_add, Int.mul_add]; omega, hp, ih]

/-- the places times 11, by N, are all places -/
theorem sum_eleven (n : Nat) (hn : n = 4 ∨ n = 8 ∨ n = 16) (q : Int) (h : Int → Int) (hp : ∀ z, h (z + n) % q = h z % q) : sumI (fun i => h (11 * i)) n % q = sumI (fun i => h i) n % q := by
  have key : ∀ (a : Nat) (k : Nat), h ((a + n * k : Nat) : Int) % q = h (a : Int) % q := fun a k => by
    have := per_mod hp k (a : Int)
    rw [show ((a + n * k : Nat) : Int) = (a : Int) + n * k by rw [Int.natCast_add, Int.natCast_mul]]
    exact this
  have e : ∀ i : Nat, h (11 * (i : Int)) % q = h ((11 * i % n : Nat) : Int) % q := fun i => by
    have := key (11 * i % n) (11 * i / n)
    rw [Nat.mod_add_div] at this
    rw [← this]
    congr 1
  rw [sumI_mod q (h := fun i => h ((11 * i % n : Nat) : Int)) (fun i _ => e i)]
  congr 1
  rcases hn with rfl | rfl | rfl
  · simp only [sumI, Nat.reduceMul, Nat.reduceMod]; omega
  · simp only [sumI, Nat.reduceMul, Nat.reduceMod]; omega
  · simp only [sumI, Nat.reduceMul, Nat.reduceMod]; omega

/-- products -/
theorem conv_cub (n : Nat) (hn : n = 4 ∨ n = 8 ∨ n = 16) (f g : Int → Int) (hf : Anti n f) (hg : Anti n g) (k : Int) : conv n (cubF f) (cubF g) k = cubF (conv n f g) k := by
  have e := sum_eleven n hn 0 (fun z => f z * g (11 * k - z)) (mul_anti hf hg (11 * k) 0)
  simp only [Int.emod_zero] at e
  show sumI (fun i => f (11 * (i : Int)) * g (11 * (k - i))) n = sumI (fun i => f i * g (11 * k - i)) n
  rw [← e]
  refine sumI_congr fun i _ => ?_
  rw [show 11 * (k - (i : Int)) = 11 * k - 11 * i by omega]

/-! slots -/

/-- the point ahead -/
def aheadN (n j : Nat) : Nat := j / (n / 2) * (n / 2) + (j + 1) % (n / 2)

def chkAhead (n t : Nat) : Bool := (List.range n).all fun j => Nat.beq (ptN n t j ^ 3 % t) (ptN n t (aheadN n j))

set_option maxRecDepth 100000 in
theorem all_ahead : goodPairs.all (fun p => chkAhead p.1 p.2) = true := by decide +kernel

theorem pI_ahead {n t : Nat} (g : NT n t) (j : Nat) (hj : j < n) : pI n t j ^ 3 % (t : Int) = pI n t (aheadN n j) := by
  have h := chk_of all_ahead g
  have h2 := Nat.eq_of_beq_eq_true (List.all_eq_true.1 h j (by simpa using hj))
  unfold pI
  rw [← cast_pow_mod, h2]

/-- the places times 3, by N, are all places -/
theorem sum_three (n : Nat) (hn : n = 4 ∨ n = 8 ∨ n = 16) (q : Int) (h : Nat → Int) (hp : ∀ k, h (k + n) % q = h k % q) : sumI (fun i => h (3 * i)) n % q = sumI h n % q := by
  have key : ∀ (a k : Nat), h (a + n * k) % q = h a % q := fun a k => by
    induction k with
    | zero => simp
    | succ k ih => rw [Nat.mul_succ, ← Nat.add_assoc, hp, ih]
  have e : ∀ i : Nat, h (3 * i) % q = h (3 * i % n) % q := fun i => by
    have := key (3 * i % n) (3 * i / n)
    rw [Nat.mod_add_div] at this
    rw [← this]
  rw [sumI_mod q (h := fun i => h (3 * i % n)) (fun i _ => e i)]
  congr 1
  rcases hn with rfl | rfl | rfl
  · simp only [sumI, Nat.reduceMul, Nat.reduceMod]; omega
  · simp only [sumI, Nat.reduceMul, Nat.reduceMod]; omega
  · simp only [sumI, Nat.reduceMul, Nat.reduceMod]; omega

theorem anti_many {n : Nat} {f : Int → Int} (h : Anti n f) (z : Int) (k : Nat) : f (z + 2 * n * k) = f z := by
  induction k with
  | zero => simp
  | succ k ih =>
    have := h.twice (z + 2 * n * k)
    rw [show z + 2 * (n : Int) * ((k + 1 : Nat) : Int) = z + 2 * n * k + 2 * n by rw [Int.natCast_add, Int.mul_add]; omega, this, ih]

theorem evalF_cub (n : Nat) (hn : n = 4 ∨ n = 8 ∨ n = 16) (p t : Int) (hp : (p ^ n + 1) % t = 0) (f : Int → Int) (hf : Anti n f) : evalF n p (cubF f) % t = evalF n (p ^ 3) f % t := by
  have hper : ∀ k : Nat, (fun k : Nat => cubF f k * p ^ k) (k + n) % t = (fun k : Nat => cubF f k * p ^ k) k % t := fun k => by
    show cubF f ((k + n : Nat) : Int) * p ^ (k + n) % t = cubF f (k : Int) * p ^ k % t
    have h1 := cubF_anti hf (k : Int)
    rw [show ((k + n : Nat) : Int) = (k : Int) + n by omega, h1, Int.pow_add]
    obtain ⟨c, hc⟩ : ∃ c, p ^ n = -1 + t * c := by
      obtain ⟨c, hc⟩ := mod_ex (a := p ^ n) (b := -1) (q := t) (by
        have e : p ^ n = (p ^ n + 1) + -1 := by omega
        rw [e, ← add_mod_left, hp, Int.zero_add])
      exact ⟨c, hc⟩
    have e2 : -cubF f (k : Int) * (p ^ k * p ^ n) = cubF f (k : Int) * p ^ k + t * (-(cubF f (k : Int) * p ^ k) * c) := by
      rw [hc, Int.mul_add, Int.mul_neg, Int.mul_one, Int.mul_add, Int.neg_mul_neg, Int.neg_mul, Int.neg_mul, Int.mul_neg]
      rw [Int.mul_left_comm (p ^ k) t c, Int.mul_left_comm (cubF f (k : Int)) t, Int.mul_assoc]
    rw [e2, Int.add_mul_emod_self_left]
  have e := sum_three n hn t (fun k => cubF f k * p ^ k) hper
  show sumI (fun k => cubF f k * p ^ k) n % t = _
  rw [← e]
  show _ = sumI (fun k => f k * (p ^ 3) ^ k) n % t
  congr 1
  refine sumI_congr fun i _ => ?_
  show cubF f ((3 * i : Nat) : Int) * p ^ (3 * i) = f i * (p ^ 3) ^ i
  rw [← Int.pow_mul]
  congr 1
  show f (11 * ((3 * i : Nat) : Int)) = f i
  rcases hn with rfl | rfl | rfl
  · have := anti_many hf (i : Int) (4 * i)
    rw [← this]; congr 1; omega
  · have := anti_many hf (i : Int) (2 * i)
    rw [← this]; congr 1; omega
  · have := anti_many hf (i : Int) i
    rw [← this]; congr 1; omega

theorem evalF_pow_mod (n : Nat) (p t : Int) (f : Int → Int) : evalF n (p % t) f % t = evalF n p f % t :=
  sumI_mod t fun i _ => by rw [← mul_mod_right, pow_mod_mod, mul_mod_right]

/-- each slot takes the place of the one ahead of it -/
theorem valI_cub {n t : Nat} (g : NT n t) (ms : List Int) (j : Nat) (hj : j < n) : valI n t (cubI n ms t) j = valI n t ms (aheadN n j) := by
  have h0 : 0 < n := by omega
  rw [valI_eval, evalF_mod (fun i _ => ringF_cub n g.hn ms t i), evalF_cub n g.hn _ _ (pI_neg g j hj) _ (ringF_anti n h0 ms), valI_eval, ← evalF_pow_mod, pI_ahead g j hj]

/-- the slots, each in the place of the one ahead of it in its row -/
def aheadI (n : Nat) (xs : List Int) : List Int := (List.range n).map fun j => xs.getD (aheadN n j) 0

theorem aheadN_lt {n t : Nat} (g : NT n t) (j : Nat) (hj : j < n) : aheadN n j < n := by
  have key : ∀ n, n = 4 ∨ n = 8 ∨ n = 16 → ∀ j, j < n → aheadN n j < n := by
    intro n hn
    rcases hn with rfl | rfl | rfl <;> decide
  exact key n g.hn j hj

theorem dec_cub {n t : Nat} (g : NT n t) (ms : List Int) : decI n t (cubI n ms t) = aheadI n (decI n t ms) := by
  refine list_same (n := n) (decI_length _ _ _) (by simp [aheadI]) fun j hj => ?_
  rw [decI, getD_range hj, valI_cub g ms j hj, aheadI, getD_range hj, decI, getD_range (aheadN_lt g j hj)]

end Go.Proofs.Ytjiekfplgmfgiaa
