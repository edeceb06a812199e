/-
  Sums, multiples and products of polynomials modulo q, xs lists. No program here.
-/
import Derived.Test.YtfpmonifpddbdaaMathI
namespace Go.Proofs.Ytfpmonifpddbdaa

def plusC (xs ys : List Int) (q : Int) (i : Nat) : Int := (xs.getD i 0 + ys.getD i 0) % q
def plusI (n : Nat) (xs ys : List Int) (q : Int) : List Int := (List.range n).map (plusC xs ys q)

def scaledC (xs : List Int) (k q : Int) (i : Nat) : Int := k * xs.getD i 0 % q
def scaledI (n : Nat) (xs : List Int) (k q : Int) : List Int := (List.range n).map (scaledC xs k q)

/-- what term i gives to coefficient k of a product, x^n being -1 -/
def negT (n : Nat) (xs ys : List Int) (k i : Nat) : Int := if i ≤ k then xs.getD i 0 * ys.getD (k - i) 0 else -(xs.getD i 0 * ys.getD (n + k - i) 0)
def timesC (n : Nat) (xs ys : List Int) (q : Int) (k : Nat) : Int := sumI (negT n xs ys k) n % q
def timesI (n : Nat) (xs ys : List Int) (q : Int) : List Int := (List.range n).map (timesC n xs ys q)

theorem map_range_succ (f : Nat → Int) (k : Nat) : (List.range (k + 1)).map f = (List.range k).map f ++ [f k] := by
  rw [List.range_succ, List.map_append, List.map_singleton]

theorem sub_mod_right (a b q : Int) : (a - b % q) % q = (a - b) % q := by
  rw [Int.sub_emod, Int.emod_emod_of_dvd _ (Int.dvd_refl q), ← Int.sub_emod]

theorem sub_mod_left (a b q : Int) : (a % q - b) % q = (a - b) % q := by
  rw [Int.sub_emod, Int.emod_emod_of_dvd _ (Int.dvd_refl q), ← Int.sub_emod]

theorem negT_step_le (n : Nat) (xs ys : List Int) (q : Int) (k i : Nat) (h : i ≤ k) : (sumI (negT n xs ys k) i % q + xs.getD i 0 * (ys.getD (k - i) 0 % q)) % q = sumI (negT n xs ys k) (i + 1) % q := by
  rw [← add_mod_right, mul_mod_right, add_mod_right, add_mod_left]
  simp only [sumI, negT, if_pos h]

theorem negT_step_gt (n : Nat) (xs ys : List Int) (q : Int) (k i : Nat) (h : ¬ i ≤ k) : (sumI (negT n xs ys k) i % q - xs.getD i 0 * (ys.getD (n + k - i) 0 % q)) % q = sumI (negT n xs ys k) (i + 1) % q := by
  rw [← sub_mod_right, mul_mod_right, sub_mod_right, sub_mod_left]
  simp only [sumI, negT, if_neg h]
  rfl

theorem mod_bounds {q : Int} (hq : 0 < q) (a : Int) : 0 ≤ a % q ∧ a % q < q := ⟨Int.emod_nonneg _ (by omega), Int.emod_lt_of_pos _ hq⟩

end Go.Proofs.Ytfpmonifpddbdaa
