/-
  Rows without ends (behind N places they come back with the other sign), and their product: order and brackets do not matter. No program here.
  What a ciphertext holds: messages, noise, rounding, sums and products. No program here.
-/
import Derived.Test.YtcjhgbljhpflfabGreatMathE
namespace Go.Proofs.YtcjhgbljhpflfabGreat

/-- behind n places it comes back with the other sign -/
def Anti (n : Nat) (f : Int → Int) : Prop := ∀ z, f (z + n) = -f z

/-- a list as a row without ends -/
def ringF (n : Nat) (xs : List Int) (z : Int) : Int :=
  if z % (2 * n : Int) < n then xs.getD (z % (2 * n : Int)).toNat 0 else -(xs.getD (z % (2 * n : Int) - n).toNat 0)

theorem ringF_anti (n : Nat) (hn : 0 < n) (xs : List Int) : Anti n (ringF n xs) := by
  intro z
  have h0 : 0 ≤ z % (2 * n : Int) := Int.emod_nonneg _ (by omega)
  have h1 : z % (2 * n : Int) < 2 * n := Int.emod_lt_of_pos _ (by omega)
  have e : (z + n) % (2 * n : Int) = (z % (2 * n : Int) + n) % (2 * n : Int) := (Int.emod_add_emod _ _ _).symm
  unfold ringF
  by_cases c : z % (2 * n : Int) < n
  · have e2 : (z + n) % (2 * n : Int) = z % (2 * n : Int) + n := by rw [e, Int.emod_eq_of_lt (by omega) (by omega)]
    rw [e2, if_pos c, if_neg (by omega), Int.add_sub_cancel]
  · have e2 : (z + n) % (2 * n : Int) = z % (2 * n : Int) - n := by
      rw [e, show z % (2 * n : Int) + n = (z % (2 * n : Int) - n) + (2 * n : Int) by omega, Int.add_emod_right, Int.emod_eq_of_lt (by omega) (by omega)]
    rw [e2, if_neg c, if_pos (by omega)]
    omega

theorem ringF_at (n : Nat) (xs : List Int) (i : Nat) (h : i < n) : ringF n xs (i : Int) = xs.getD i 0 := by
  have e : (i : Int) % (2 * n : Int) = i := Int.emod_eq_of_lt (by omega) (by omega)
  unfold ringF
  rw [e, if_pos (by omega)]
  rfl

theorem neg_mod {a b q : Int} (h : a % q = b % q) : (-a) % q = (-b) % q := by
  have e := sub_mod_right 0 a q
  have e2 := sub_mod_right 0 b q
  rw [Int.zero_sub, Int.zero_sub] at e e2
  rw [← e, ← e2, h]

theorem Anti.back {n : Nat} {f : Int → Int} (h : Anti n f) (z : Int) : f (z - n) = -f z := by
  have := h (z - n)
  rw [Int.sub_add_cancel] at this
  omega

/-- two rows that agree on the first n places agree -/
theorem Anti.ext {n : Nat} {q : Int} {f g : Int → Int} (hn : 0 < n) (hf : Anti n f) (hg : Anti n g) (h : ∀ i : Nat, i < n → f i % q = g i % q) : ∀ z, f z % q = g z % q := by
  have A : ∀ m : Nat, f (m : Int) % q = g (m : Int) % q := by
    intro m
    induction m using Nat.strongRecOn with
    | _ m ih =>
      by_cases c : m < n
      · exact h m c
      · have e := ih (m - n) (by omega)
        have e1 : (m : Int) = ((m - n : Nat) : Int) + n := by omega
        rw [e1, hf, hg]
        exact neg_mod e
  have B : ∀ m : Nat, f (-(m : Int)) % q = g (-(m : Int)) % q := by
    intro m
    induction m using Nat.strongRecOn with
    | _ m ih =>
      have key : f (-(m : Int) + n) % q = g (-(m : Int) + n) % q := by
        by_cases c : m ≤ n
        · have e1 : -(m : Int) + n = ((n - m : Nat) : Int) := by omega
          rw [e1]; exact A _
        · have e1 : -(m : Int) + n = -((m - n : Nat) : Int) := by omega
          rw [e1]; exact ih _ (by omega)
      have e1 : -(m : Int) = (-(m : Int) + n) - n := by omega
      rw [e1, hf.back, hg.back]
      exact neg_mod key
  intro z
  rcases Int.le_total 0 z with c | c
  · have e : z = (z.toNat : Int) := by omega
    rw [e]; exact A _
  · have e : z = -((-z).toNat : Int) := by omega
    rw [e]; exact B _

/-- a sum over n places of a row that comes back behind n places: it may begin anywhere -/
theorem shift_nat (n : Nat) (q : Int) (h : Int → Int) (hp : ∀ z, h (z + n) % q = h z % q) (a : Nat) : sumI (fun i => h (i + a)) n % q = sumI (fun i => h i) n % q := by
  induction a with
  | zero => rfl
  | succ a ih =>
    rw [← ih]
    have e := sumI_shift (fun i => h (i + a)) n
    simp only [sumI] at e
    have e1 : sumI (fun i => h (((i + 1 : Nat) : Int) + a)) n = sumI (fun i => h (i + ((a + 1 : Nat) : Int))) n := sumI_congr fun i _ => by congr 1; omega
    rw [e1] at e
    have e2 := hp a
    have e3 : (n : Int) + a = a + n := by omega
    have e4 : ((0 : Nat) : Int) + a = a := by omega
    rw [e3, e4] at e
    have e5 : sumI (fun i => h (i + ((a + 1 : Nat) : Int))) n = sumI (fun i => h (i + a)) n + (h (a + n) - h a) := by omega
    rw [e5, ← add_mod_right, ← sub_mod_left, e2, sub_mod_left, Int.sub_self]
    simp

theorem shift_any (n : Nat) (q : Int) (h : Int → Int) (hp : ∀ z, h (z + n) % q = h z % q) (a : Int) : sumI (fun i => h (i + a)) n % q = sumI (fun i => h i) n % q := by
  rcases Int.le_total 0 a with c | c
  · have e : a = (a.toNat : Int) := by omega
    rw [e]; exact shift_nat n q h hp _
  · have e := shift_nat n q (fun z => h (z + a)) (fun z => by have := hp (z + a); rw [show z + a + n = z + n + a by omega] at this; exact this) (-a).toNat
    rw [← e]
    congr 1
    refine sumI_congr fun i _ => ?_
    congr 1
    omega

theorem sumI_back (f : Nat → Int) (n : Nat) : sumI (fun i => f (n - 1 - i)) n = sumI f n := by
  induction n with
  | zero => rfl
  | succ n ih =>
    rw [sumI_shift]
    have e : sumI (fun i => f (n + 1 - 1 - (i + 1))) n = sumI (fun i => f (n - 1 - i)) n := sumI_congr fun i _ => by congr 1; omega
    rw [e, ih]
    simp only [sumI]
    have : n + 1 - 1 - 0 = n := by omega
    rw [this]
    omega

theorem flip_any (n : Nat) (q : Int) (h : Int → Int) (hp : ∀ z, h (z + n) % q = h z % q) (a : Int) : sumI (fun i => h (a - i)) n % q = sumI (fun i => h i) n % q := by
  have e := sumI_back (fun i => h (a - i)) n
  have e1 : sumI (fun i => h (a - ((n - 1 - i : Nat) : Int))) n = sumI (fun i => h (i + (a - n + 1))) n := sumI_congr fun i hi => by congr 1; omega
  rw [← e, e1]
  exact shift_any n q h hp _

/-- the product of two rows, at k -/
def conv (n : Nat) (f g : Int → Int) (k : Int) : Int := sumI (fun i => f i * g (k - i)) n

theorem conv_anti (n : Nat) (f g : Int → Int) (hg : Anti n g) : Anti n (conv n f g) := by
  intro z
  have e : sumI (fun i => f i * g (z + n - i)) n = sumI (fun i => -1 * (f i * g (z - i))) n := sumI_congr fun i _ => by
    rw [show z + n - (i : Int) = z - i + n by omega, hg, Int.mul_neg]; omega
  unfold conv
  rw [e, sumI_mul]
  omega

theorem mul_anti {n : Nat} {f g : Int → Int} (hf : Anti n f) (hg : Anti n g) (a : Int) (q : Int) : ∀ z, f (z + n) * g (a - (z + n)) % q = f z * g (a - z) % q := by
  intro z
  have := hg.back (a - z)
  rw [show a - (z + (n : Int)) = a - z - n by omega, this, hf, Int.neg_mul_neg]

theorem conv_comm (n : Nat) (f g : Int → Int) (hf : Anti n f) (hg : Anti n g) (k : Int) : conv n f g k = conv n g f k := by
  have e := flip_any n 0 (fun z => f z * g (k - z)) (mul_anti hf hg k 0) k
  simp only [Int.emod_zero] at e
  unfold conv
  rw [← e]
  refine sumI_congr fun i _ => ?_
  rw [show k - (k - (i : Int)) = i by omega, Int.mul_comm]

theorem conv_assoc (n : Nat) (f g h : Int → Int) (hg : Anti n g) (hh : Anti n h) (k : Int) : conv n (conv n f g) h k = conv n f (conv n g h) k := by
  unfold conv
  have e1 : sumI (fun j => sumI (fun i => f i * g (j - i)) n * h (k - j)) n = sumI (fun j => sumI (fun i => f i * (g (j - i) * h (k - j))) n) n := sumI_congr fun j _ => by
    rw [Int.mul_comm, ← sumI_mul]
    refine sumI_congr fun i _ => ?_
    rw [Int.mul_comm, Int.mul_assoc]
  rw [e1, sumI_comm]
  refine sumI_congr fun i _ => ?_
  rw [sumI_mul]
  congr 1
  have e := shift_any n 0 (fun z => g z * h (k - i - z)) (mul_anti hg hh (k - i) 0) (-i)
  simp only [Int.emod_zero] at e
  rw [← e]
  refine sumI_congr fun j _ => ?_
  have a1 : (j : Int) + -(i : Int) = j - i := by omega
  have a2 : k - (i : Int) - ((j : Int) - i) = k - j := by omega
  rw [a1, a2]

theorem conv_add_left (n : Nat) (f g h : Int → Int) (k : Int) : conv n (fun z => f z + g z) h k = conv n f h k + conv n g h k := by
  unfold conv
  rw [← sumI_add]
  exact sumI_congr fun i _ => Int.add_mul _ _ _

theorem conv_mul_left (n : Nat) (c : Int) (f g : Int → Int) (k : Int) : conv n (fun z => c * f z) g k = c * conv n f g k := by
  unfold conv
  rw [← sumI_mul]
  exact sumI_congr fun i _ => Int.mul_assoc _ _ _

theorem conv_mod {n : Nat} {q : Int} {f f' g g' : Int → Int} (hf : ∀ z, f z % q = f' z % q) (hg : ∀ z, g z % q = g' z % q) (k : Int) : conv n f g k % q = conv n f' g' k % q := by
  refine sumI_mod q fun i _ => ?_
  rw [← mul_mod_left, hf, mul_mod_left, ← mul_mod_right, hg, mul_mod_right]

theorem timesC_eq (n : Nat) (xs ys : List Int) (q : Int) (k : Nat) (hk : k < n) : timesC n xs ys q k = conv n (ringF n xs) (ringF n ys) k % q := by
  unfold timesC conv
  congr 1
  refine sumI_congr fun i hi => ?_
  rw [ringF_at n xs i hi]
  unfold negT
  by_cases c : i ≤ k
  · rw [if_pos c, show (k : Int) - i = ((k - i : Nat) : Int) by omega, ringF_at n ys _ (by omega)]
  · rw [if_neg c]
    have e := (ringF_anti n (by omega) ys).back ((n + k - i : Nat) : Int)
    rw [ringF_at n ys _ (by omega), show ((n + k - i : Nat) : Int) - n = (k : Int) - i by omega] at e
    rw [e, Int.mul_neg]

/-- a product as a row -/
theorem ringF_times (n : Nat) (hn : 0 < n) (xs ys : List Int) (q : Int) (z : Int) : ringF n (timesI n xs ys q) z % q = conv n (ringF n xs) (ringF n ys) z % q := by
  refine Anti.ext hn (ringF_anti n hn _) (conv_anti n _ _ (ringF_anti n hn _)) ?_ z
  intro i hi
  rw [ringF_at n _ i hi, timesI, getD_range hi, timesC_eq n xs ys q i hi, Int.emod_emod]

theorem ringF_plus (n : Nat) (hn : 0 < n) (xs ys : List Int) (q : Int) (z : Int) : ringF n (plusI n xs ys q) z % q = (ringF n xs z + ringF n ys z) % q := by
  have hx := ringF_anti n hn xs
  have hy := ringF_anti n hn ys
  refine Anti.ext (g := fun z => ringF n xs z + ringF n ys z) hn (ringF_anti n hn _) (fun z => by show ringF n xs (z + n) + ringF n ys (z + n) = -(ringF n xs z + ringF n ys z); rw [hx, hy]; omega) ?_ z
  intro i hi
  rw [ringF_at n _ i hi, plusI, getD_range hi, plusC, Int.emod_emod, ringF_at n xs i hi, ringF_at n ys i hi]

theorem ringF_scaled (n : Nat) (hn : 0 < n) (xs : List Int) (k q : Int) (z : Int) : ringF n (scaledI n xs k q) z % q = (k * ringF n xs z) % q := by
  have hx := ringF_anti n hn xs
  refine Anti.ext (g := fun z => k * ringF n xs z) hn (ringF_anti n hn _) (fun z => by show k * ringF n xs (z + n) = -(k * ringF n xs z); rw [hx, Int.mul_neg]) ?_ z
  intro i hi
  rw [ringF_at n _ i hi, scaledI, getD_range hi, scaledC, Int.emod_emod, ringF_at n xs i hi]

/-- a row's value at a point whose n-th power is -1 -/
def evalF (n : Nat) (p : Int) (f : Int → Int) : Int := sumI (fun k => f k * p ^ k) n

theorem evalF_step (n : Nat) (p t : Int) (hp : (p ^ n + 1) % t = 0) (f : Int → Int) (hf : Anti n f) : evalF n p (fun z => f (z - 1)) % t = p * evalF n p f % t := by
  unfold evalF
  match n, hp, hf with
  | 0, _, _ => simp [sumI]
  | n + 1, hp, hf =>
    rw [sumI_shift]
    have e1 : sumI (fun i => f (((i + 1 : Nat) : Int) - 1) * p ^ (i + 1)) n = sumI (fun i => p * (f i * p ^ i)) n := sumI_congr fun i _ => by
      rw [show ((i + 1 : Nat) : Int) - 1 = i by omega, Int.pow_succ, Int.mul_comm p, ← Int.mul_assoc]
    have e2 : f (((0 : Nat) : Int) - 1) = -f n := by
      have := hf.back (n : Int)
      rw [show (n : Int) - ((n + 1 : Nat) : Int) = ((0 : Nat) : Int) - 1 by omega] at this
      exact this
    show (f (((0 : Nat) : Int) - 1) * p ^ 0 + sumI (fun i => f (((i + 1 : Nat) : Int) - 1) * p ^ (i + 1)) n) % t = _
    rw [e1, e2, sumI_mul]
    simp only [sumI]
    have e3 : -f n * p ^ 0 + p * sumI (fun i => f i * p ^ i) n = p * (sumI (fun i => f i * p ^ i) n + f n * p ^ n) - f n * (p ^ (n + 1) + 1) := by
      rw [Int.mul_add, Int.mul_add, Int.pow_succ, Int.mul_one, Int.pow_zero, Int.mul_one, Int.mul_comm (p ^ n) p, Int.mul_left_comm p (f n) (p ^ n)]
      omega
    rw [e3, ← sub_mod_right, ← mul_mod_right, hp, Int.mul_zero, Int.zero_emod, Int.sub_zero]

theorem evalF_back (n : Nat) (p t : Int) (hp : (p ^ n + 1) % t = 0) (f : Int → Int) (hf : Anti n f) (i : Nat) : evalF n p (fun z => f (z - i)) % t = p ^ i * evalF n p f % t := by
  induction i with
  | zero => simp [Int.pow_zero]
  | succ i ih =>
    have ha : Anti n (fun z => f (z - i)) := fun z => by
      show f (z + n - i) = -f (z - i)
      rw [show z + n - (i : Int) = z - i + n by omega, hf]
    have e := evalF_step n p t hp (fun z => f (z - i)) ha
    have e1 : evalF n p (fun z => f (z - ((i + 1 : Nat) : Int))) = evalF n p (fun z => f (z - 1 - i)) := by
      unfold evalF
      refine sumI_congr fun k _ => ?_
      show f ((k : Int) - ((i + 1 : Nat) : Int)) * p ^ k = f ((k : Int) - 1 - i) * p ^ k
      rw [show (k : Int) - ((i + 1 : Nat) : Int) = k - 1 - i by omega]
    rw [e1, e, ← mul_mod_right, ih, mul_mod_right, Int.pow_succ, Int.mul_comm (p ^ i) p, Int.mul_assoc]

/-- the value of a product -/
theorem evalF_conv (n : Nat) (p t : Int) (hp : (p ^ n + 1) % t = 0) (f g : Int → Int) (hg : Anti n g) : evalF n p (conv n f g) % t = evalF n p f * evalF n p g % t := by
  have e1 : evalF n p (conv n f g) = sumI (fun i => f i * evalF n p (fun z => g (z - i))) n := by
    unfold evalF conv
    have : sumI (fun k => sumI (fun i => f i * g (k - i)) n * p ^ k) n = sumI (fun k => sumI (fun i => f i * (g (k - i) * p ^ k)) n) n := sumI_congr fun k _ => by
      rw [Int.mul_comm, ← sumI_mul]
      refine sumI_congr fun i _ => ?_
      rw [Int.mul_comm, Int.mul_assoc]
    rw [this, sumI_comm]
    exact sumI_congr fun i _ => sumI_mul _ _ _
  rw [e1]
  have e2 : sumI (fun i => f i * evalF n p (fun z => g (z - i))) n % t = sumI (fun i => evalF n p g * (f i * p ^ i)) n % t := sumI_mod t fun i _ => by
    rw [← mul_mod_right, evalF_back n p t hp g hg i, mul_mod_right, ← Int.mul_assoc, Int.mul_comm]
  rw [e2, sumI_mul, Int.mul_comm]
  rfl

end Go.Proofs.YtcjhgbljhpflfabGreat

namespace Go.Proofs.YtcjhgbljhpflfabGreat

/-- the n-th power of each point is -1 -/
def chkNeg (n t : Nat) : Bool := (List.range n).all fun j => Nat.beq (ptN n t j ^ n % t) (t - 1)

set_option maxRecDepth 100000 in
theorem all_neg : goodPairs.all (fun p => chkNeg p.1 p.2) = true := by decide +kernel

theorem pI_neg {n t : Nat} (g : NT n t) (j : Nat) (hj : j < n) : (pI n t j ^ n + 1) % (t : Int) = 0 := by
  have ht := g.t3
  have h := chk_of all_neg g
  have h2 := Nat.eq_of_beq_eq_true (List.all_eq_true.1 h j (by simpa using hj))
  rw [← add_mod_left, pI, ← cast_pow_mod, h2, show ((t - 1 : Nat) : Int) + 1 = t by omega, Int.emod_self]

theorem valI_eval (n t : Nat) (cs : List Int) (j : Nat) : valI n t cs j = evalF n (pI n t j) (ringF n cs) % (t : Int) := by
  unfold valI evalF
  congr 1
  exact sumI_congr fun i hi => by rw [ringF_at n cs i hi]

theorem evalF_mod {n : Nat} {t p : Int} {f h : Int → Int} (e : ∀ i : Nat, i < n → f i % t = h i % t) : evalF n p f % t = evalF n p h % t :=
  sumI_mod t fun i hi => by rw [← mul_mod_left, e i hi, mul_mod_left]

theorem valI_mod {n t : Nat} {xs ys : List Int} (e : ∀ i, i < n → xs.getD i 0 % (t : Int) = ys.getD i 0 % (t : Int)) (j : Nat) : valI n t xs j = valI n t ys j :=
  sumI_mod _ fun i hi => by rw [← mul_mod_left, e i hi, mul_mod_left]

theorem valI_times {n t : Nat} (g : NT n t) (xs ys : List Int) (j : Nat) (hj : j < n) : valI n t (timesI n xs ys t) j = valI n t xs j * valI n t ys j % (t : Int) := by
  have hn : 0 < n := by omega
  rw [valI_eval, evalF_mod (fun i _ => ringF_times n hn xs ys t i), evalF_conv n _ _ (pI_neg g j hj) _ _ (ringF_anti n hn ys), valI_eval, valI_eval, mul_mod_left, mul_mod_right]

theorem valI_plus {n t : Nat} (hn : 0 < n) (xs ys : List Int) (j : Nat) : valI n t (plusI n xs ys t) j = (valI n t xs j + valI n t ys j) % (t : Int) := by
  rw [valI_eval, evalF_mod (h := fun z => ringF n xs z + ringF n ys z) (fun i _ => ringF_plus n hn xs ys t i), valI_eval, valI_eval, add_mod_left, add_mod_right]
  congr 1
  unfold evalF
  rw [← sumI_add]
  exact sumI_congr fun i _ => Int.add_mul _ _ _

theorem valI_enc {n t : Nat} (g : NT n t) (ss : List Int) (j : Nat) (hj : j < n) (h0 : 0 ≤ ss.getD j 0) (h1 : ss.getD j 0 < (t : Int)) : valI n t (encI n t ss) j = ss.getD j 0 := by
  have e := enc_solves g ss j hj
  rw [Int.emod_eq_of_lt h0 h1] at e
  rw [← e]
  unfold valI
  congr 1
  exact sumI_congr fun i hi => by rw [encI, getD_range hi, Int.mul_comm]

/-- the number is found again behind the noise -/
theorem round_core (t q m e E k v : Int) (ht : 1 ≤ t) (hq : 0 < q) (hm : 0 ≤ m) (hm2 : m < t) (he : -E ≤ e) (he2 : e ≤ E) (hfit : fitsB t q E = true) (hv : v = q / t * m + e + q * k) : (2 * t * v + q) / (2 * q) % t = m := by
  have hf : 2 * (t * E + q % t * (t - 1)) < q := by simpa [fitsB] using hfit
  have hR := mod_bounds (show (0 : Int) < t by omega) q
  have hq3 : t * (q / t) + q % t = q := Int.mul_ediv_add_emod q t
  have e1 : t * (q / t * m) = q * m - q % t * m := by
    rw [← Int.mul_assoc, show t * (q / t) = q - q % t by omega, Int.sub_mul]
  have e2 : t * v = q * (m + t * k) + (t * e - q % t * m) := by
    rw [hv, Int.mul_add, Int.mul_add, e1, Int.mul_add, Int.mul_left_comm t q k]
    omega
  have b1 : q % t * m ≤ q % t * (t - 1) := Int.mul_le_mul_of_nonneg_left (by omega) hR.1
  have b2 : 0 ≤ q % t * m := Int.mul_nonneg hR.1 hm
  have b3 : t * e ≤ t * E := Int.mul_le_mul_of_nonneg_left he2 (by omega)
  have b4 : t * (-E) ≤ t * e := Int.mul_le_mul_of_nonneg_left he (by omega)
  rw [Int.mul_neg] at b4
  have b5 : 0 ≤ q % t * (t - 1) := Int.mul_nonneg hR.1 (by omega)
  have e3 : 2 * t * v + q = (q + 2 * (t * e - q % t * m)) + 2 * q * (m + t * k) := by
    rw [Int.mul_assoc, e2, Int.mul_add, Int.mul_assoc 2 q]
    omega
  rw [e3, Int.add_mul_ediv_left _ _ (by omega), Int.ediv_eq_zero_of_lt (by omega) (by omega), Int.zero_add, Int.add_mul_emod_self_left, Int.emod_eq_of_lt hm hm2]

/-- what a message that goes beyond t costs -/
theorem lift_wrap (q t x : Int) : q / t * x = q / t * (x % t) - q % t * (x / t) + q * (x / t) := by
  have h1 : t * (x / t) + x % t = x := Int.mul_ediv_add_emod x t
  have h2 : t * (q / t) + q % t = q := Int.mul_ediv_add_emod q t
  have e1 : q / t * x = q / t * (t * (x / t)) + q / t * (x % t) := by rw [← Int.mul_add, h1]
  have e2 : q / t * (t * (x / t)) = (q - q % t) * (x / t) := by
    rw [← Int.mul_assoc, Int.mul_comm (q / t) t, show t * (q / t) = q - q % t by omega]
  rw [e1, e2, Int.sub_mul]
  omega

/-- the message and the noise of a ciphertext -/
def mixF (n : Nat) (s c0 c1 : List Int) (z : Int) : Int := ringF n c0 z + conv n (ringF n c1) (ringF n s) z

/-- the ciphertext c0, c1 holds the polynomial ms under the key s, with noise up to E -/
def Holds (n : Nat) (t q : Int) (s c0 c1 ms : List Int) (E : Int) : Prop :=
  ∃ e : Nat → Int, (∀ i, i < n → -E ≤ e i ∧ e i ≤ E) ∧ ∀ i : Nat, i < n → mixF n s c0 c1 i % q = (q / t * ms.getD i 0 + e i) % q

/-- a message that is not yet taken modulo t -/
theorem Holds.wrap {n : Nat} {t q : Int} {s c0 c1 ms : List Int} {E : Int} (x e : Nat → Int) (B : Int) (hx : ∀ i, i < n → ms.getD i 0 = x i % t) (he : ∀ i, i < n → -B ≤ e i - q % t * (x i / t) ∧ e i - q % t * (x i / t) ≤ B) (hB : B ≤ E)
    (h : ∀ i : Nat, i < n → mixF n s c0 c1 i % q = (q / t * x i + e i) % q) : Holds n t q s c0 c1 ms E := by
  refine ⟨fun i => e i - q % t * (x i / t), fun i hi => ⟨Int.le_trans (by omega) (he i hi).1, Int.le_trans (he i hi).2 hB⟩, fun i hi => ?_⟩
  rw [h i hi, hx i hi, lift_wrap q t (x i)]
  have e1 : q / t * (x i % t) - q % t * (x i / t) + q * (x i / t) + e i = (q / t * (x i % t) + (e i - q % t * (x i / t))) + q * (x i / t) := by omega
  rw [e1, Int.add_mul_emod_self_left]

theorem mix_plus (n : Nat) (hn : 0 < n) (q : Int) (s c0 c1 d0 d1 : List Int) (z : Int) : mixF n s (plusI n c0 d0 q) (plusI n c1 d1 q) z % q = (mixF n s c0 c1 z + mixF n s d0 d1 z) % q := by
  unfold mixF
  have e1 := ringF_plus n hn c0 d0 q z
  have e2 := conv_mod (n := n) (g := ringF n s) (g' := ringF n s) (fun z => ringF_plus n hn c1 d1 q z) (fun _ => rfl) z
  rw [conv_add_left] at e2
  rw [← add_mod_left, e1, add_mod_left, ← add_mod_right, e2, add_mod_right]
  congr 1
  omega

theorem ediv_small {x t : Int} (ht : 0 < t) (h0 : 0 ≤ x) (h1 : x < 2 * t) : 0 ≤ x / t ∧ x / t ≤ 1 := by
  have a := Int.ediv_nonneg h0 (Int.le_of_lt ht)
  have b : x / t < 2 := Int.ediv_lt_of_lt_mul ht h1
  omega

theorem Holds.add {n : Nat} {t q : Int} {s c0 c1 d0 d1 ms ls : List Int} {E F G : Int} (hn : 0 < n) (ht : 0 < t) (hc : Holds n t q s c0 c1 ms E) (hd : Holds n t q s d0 d1 ls F)
    (hm : ∀ i, i < n → 0 ≤ ms.getD i 0 ∧ ms.getD i 0 < t) (hl : ∀ i, i < n → 0 ≤ ls.getD i 0 ∧ ls.getD i 0 < t) (hG : E + F + q % t ≤ G) : Holds n t q s (plusI n c0 d0 q) (plusI n c1 d1 q) (plusI n ms ls t) G := by
  obtain ⟨e, he, hce⟩ := hc
  obtain ⟨f, hf, hdf⟩ := hd
  have hR := mod_bounds ht q
  refine Holds.wrap (fun i => ms.getD i 0 + ls.getD i 0) (fun i => e i + f i) (E + F + q % t) (fun i hi => by rw [plusI, getD_range hi]; rfl) ?_ hG ?_
  · intro i hi
    have h1 := he i hi
    have h2 := hf i hi
    have h3 := hm i hi
    have h4 := hl i hi
    obtain ⟨b1, b2⟩ := ediv_small (x := ms.getD i 0 + ls.getD i 0) ht (by omega) (by omega)
    show -(E + F + q % t) ≤ e i + f i - q % t * ((ms.getD i 0 + ls.getD i 0) / t) ∧ _
    have c1 : q % t * ((ms.getD i 0 + ls.getD i 0) / t) ≤ q % t * 1 := Int.mul_le_mul_of_nonneg_left b2 hR.1
    have c2 : 0 ≤ q % t * ((ms.getD i 0 + ls.getD i 0) / t) := Int.mul_nonneg hR.1 b1
    rw [Int.mul_one] at c1
    refine ⟨by omega, ?_⟩
    show e i + f i - q % t * ((ms.getD i 0 + ls.getD i 0) / t) ≤ E + F + q % t
    omega
  · intro i hi
    rw [mix_plus n hn, ← add_mod_left, hce i hi, add_mod_left, ← add_mod_right, hdf i hi, add_mod_right, Int.mul_add]
    congr 1
    omega

/-- what is opened -/
theorem Holds.opens {n : Nat} {t q : Int} {s c0 c1 ms : List Int} {E : Int} (hn : 0 < n) (ht : 1 ≤ t) (hq : 0 < q) (h : Holds n t q s c0 c1 ms E) (hm : ∀ i, i < n → 0 ≤ ms.getD i 0 ∧ ms.getD i 0 < t) (hfit : fitsB t q E = true) :
    ∀ i, i < n → (2 * t * (plusI n c0 (timesI n c1 s q) q).getD i 0 + q) / (2 * q) % t = ms.getD i 0 := by
  obtain ⟨e, he, hce⟩ := h
  intro i hi
  have e1 : (plusI n c0 (timesI n c1 s q) q).getD i 0 = mixF n s c0 c1 i % q := by
    have a := ringF_plus n hn c0 (timesI n c1 s q) q i
    rw [← add_mod_right, ringF_times n hn, add_mod_right, ringF_at n _ i hi, plusI, getD_range hi, plusC, Int.emod_emod] at a
    rw [plusI, getD_range hi, plusC, a]
    rfl
  rw [e1, hce i hi]
  refine round_core t q _ (e i) E (-((q / t * ms.getD i 0 + e i) / q)) _ ht hq (hm i hi).1 (hm i hi).2 (he i hi).1 (he i hi).2 hfit ?_
  rw [Int.emod_def, Int.mul_neg]
  omega

theorem sumI_le {f h : Nat → Int} {n : Nat} (e : ∀ i, i < n → f i ≤ h i) : sumI f n ≤ sumI h n := by
  induction n with
  | zero => exact Int.le_refl _
  | succ n ih =>
    simp only [sumI]
    have := ih (fun i hi => e i (by omega))
    have := e n (by omega)
    omega

/-- a row's size -/
def sizeF (n : Nat) (f : Int → Int) : Int := sumI (fun i => ((f i).natAbs : Int)) n

theorem abs_mul_le (a w E : Int) (h1 : -E ≤ a) (h2 : a ≤ E) : a * w ≤ E * (w.natAbs : Int) ∧ -(E * (w.natAbs : Int)) ≤ a * w := by
  rcases Int.le_total 0 w with c | c
  · have e : (w.natAbs : Int) = w := by omega
    rw [e]
    have a1 := Int.mul_le_mul_of_nonneg_right h2 c
    have a2 := Int.mul_le_mul_of_nonneg_right h1 c
    rw [Int.neg_mul] at a2
    exact ⟨a1, a2⟩
  · have e : (w.natAbs : Int) = -w := by omega
    rw [e, Int.mul_neg, Int.neg_neg]
    have a1 := Int.mul_le_mul_of_nonpos_right h2 c
    have a2 := Int.mul_le_mul_of_nonpos_right h1 c
    rw [Int.neg_mul] at a2
    exact ⟨a2, a1⟩

/-- how great a product can be -/
theorem conv_le (n : Nat) (f w : Int → Int) (hw : Anti n w) (E : Int) (hf : ∀ i : Nat, i < n → -E ≤ f i ∧ f i ≤ E) (k : Int) : conv n f w k ≤ E * sizeF n w ∧ -(E * sizeF n w) ≤ conv n f w k := by
  have e := flip_any n 0 (fun z => ((w z).natAbs : Int)) (fun z => by show ((w (z + n)).natAbs : Int) % 0 = _; rw [hw, Int.natAbs_neg]) k
  simp only [Int.emod_zero] at e
  have e1 : E * sizeF n w = sumI (fun i => E * ((w (k - i)).natAbs : Int)) n := by
    rw [sumI_mul, e]
    rfl
  constructor
  · rw [e1]
    exact sumI_le fun i hi => (abs_mul_le _ _ _ (hf i hi).1 (hf i hi).2).1
  · have e2 : -(E * sizeF n w) = sumI (fun i => -1 * (E * ((w (k - i)).natAbs : Int))) n := by rw [sumI_mul, ← e1]; omega
    rw [e2]
    exact sumI_le fun i hi => by have := (abs_mul_le (f i) (w (k - i)) _ (hf i hi).1 (hf i hi).2).2; omega

theorem mix_times (n : Nat) (hn : 0 < n) (q : Int) (s c0 c1 ws : List Int) (z : Int) : mixF n s (timesI n c0 ws q) (timesI n c1 ws q) z % q = conv n (mixF n s c0 c1) (ringF n ws) z % q := by
  unfold mixF
  have hw := ringF_anti n hn ws
  have hs := ringF_anti n hn s
  have e1 := ringF_times n hn c0 ws q z
  have e2 := conv_mod (n := n) (g := ringF n s) (g' := ringF n s) (fun z => ringF_times n hn c1 ws q z) (fun _ => rfl) z
  have e3 : conv n (conv n (ringF n c1) (ringF n ws)) (ringF n s) z = conv n (conv n (ringF n c1) (ringF n s)) (ringF n ws) z := by
    rw [conv_assoc n _ _ _ hw hs, conv_assoc n _ _ _ hs hw, show conv n (ringF n ws) (ringF n s) = conv n (ringF n s) (ringF n ws) from funext fun k => conv_comm n _ _ hw hs k]
  rw [e3] at e2
  rw [← add_mod_left, e1, add_mod_left, ← add_mod_right, e2, add_mod_right, ← conv_add_left]

/-- a sum over n places sees only those places -/
theorem conv_mod_left {n : Nat} {q : Int} {f f' g : Int → Int} (hf : ∀ i : Nat, i < n → f i % q = f' i % q) (k : Int) : conv n f g k % q = conv n f' g k % q :=
  sumI_mod q fun i hi => by rw [← mul_mod_left, hf i hi, mul_mod_left]

theorem ediv_abs {x t S : Int} (ht : 1 ≤ t) (h0 : 0 ≤ S) (h1 : x ≤ (t - 1) * S) (h2 : -((t - 1) * S) ≤ x) : -S ≤ x / t ∧ x / t ≤ S := by
  have e : (t - 1) * S = t * S - S := by rw [Int.sub_mul, Int.one_mul]
  rw [e] at h1 h2
  have e2 : (-S) * t = -(t * S) := by rw [Int.neg_mul, Int.mul_comm]
  have e3 : (S + 1) * t = t * S + t := by rw [Int.add_mul, Int.one_mul, Int.mul_comm]
  constructor
  · exact (Int.le_ediv_iff_mul_le (by omega)).2 (by omega)
  · have : x / t < S + 1 := Int.ediv_lt_of_lt_mul (by omega) (by omega)
    omega

theorem Holds.mul {n : Nat} {t q : Int} {s c0 c1 ms ws : List Int} {E G S : Int} (hn : 0 < n) (ht : 1 ≤ t) (hc : Holds n t q s c0 c1 ms E)
    (hm : ∀ i, i < n → 0 ≤ ms.getD i 0 ∧ ms.getD i 0 < t) (hS : sizeF n (ringF n ws) = S) (hG : S * (E + q % t) ≤ G) : Holds n t q s (timesI n c0 ws q) (timesI n c1 ws q) (timesI n ms ws t) G := by
  obtain ⟨e, he, hce⟩ := hc
  have hR := mod_bounds (show (0 : Int) < t by omega) q
  have hw := ringF_anti n hn ws
  have hS0 : 0 ≤ S := by
    rw [← hS, ← sumI_zero n]
    exact sumI_le fun i _ => by omega
  let eF : Int → Int := fun z => e z.toNat
  have heF : ∀ i : Nat, i < n → -E ≤ eF i ∧ eF i ≤ E := fun i hi => he i hi
  have hmF : ∀ i : Nat, i < n → -(t - 1) ≤ ringF n ms i ∧ ringF n ms i ≤ t - 1 := fun i hi => by
    rw [ringF_at n ms i hi]
    have := hm i hi
    omega
  refine Holds.wrap (fun i => conv n (ringF n ms) (ringF n ws) i) (fun i => conv n eF (ringF n ws) i) (S * (E + q % t)) (fun i hi => by rw [timesI, getD_range hi, timesC_eq n ms ws t i hi]) ?_ hG ?_
  · intro i hi
    obtain ⟨a1, a2⟩ := conv_le n eF (ringF n ws) hw E heF i
    obtain ⟨b1, b2⟩ := conv_le n (ringF n ms) (ringF n ws) hw (t - 1) hmF i
    rw [hS] at a1 a2 b1 b2
    obtain ⟨d1, d2⟩ := ediv_abs ht hS0 b1 b2
    generalize conv n (ringF n ms) (ringF n ws) i / t = X at d1 d2
    have f1 : q % t * X ≤ q % t * S := Int.mul_le_mul_of_nonneg_left d2 hR.1
    have f2 : q % t * (-S) ≤ q % t * X := Int.mul_le_mul_of_nonneg_left d1 hR.1
    rw [Int.mul_neg] at f2
    have e1 : S * (E + q % t) = E * S + q % t * S := by rw [Int.mul_add, Int.mul_comm S, Int.mul_comm S]
    rw [e1]
    constructor <;> omega
  · intro i hi
    rw [mix_times n hn, conv_mod_left (f' := fun z => q / t * ringF n ms z + eF z) (fun j hj => by rw [hce j hj, ringF_at n ms j hj]; rfl), conv_add_left, conv_mul_left]

end Go.Proofs.YtcjhgbljhpflfabGreat
