/-
  Plain mathematics: powers by squaring, Horner's rule. No program here.
-/
import Derived.Test.YtfpmonifpddbdaaMathB
namespace Go.Proofs.Ytfpmonifpddbdaa

theorem mul_mod_left (a b t : Int) : a % t * b % t = a * b % t := by
  rw [Int.mul_emod, Int.emod_emod_of_dvd _ (Int.dvd_refl t), ← Int.mul_emod]

theorem mul_mod_right (a b t : Int) : a * (b % t) % t = a * b % t := by
  rw [Int.mul_comm, mul_mod_left, Int.mul_comm]

theorem add_mod_left (a b t : Int) : (a % t + b) % t = (a + b) % t := Int.emod_add_emod a t b

theorem add_mod_right (a b t : Int) : (a + b % t) % t = (a + b) % t := Int.add_emod_emod a b t

theorem pow_mod_mod (a : Int) (n : Nat) (t : Int) : (a % t) ^ n % t = a ^ n % t := by
  induction n with
  | zero => simp
  | succ n ih => rw [Int.pow_succ, Int.pow_succ, ← mul_mod_left, ih, mul_mod_left, mul_mod_right]

/-- squaring: an even exponent -/
theorem pow_sq (x : Int) (e : Nat) : (x * x) ^ e = x ^ (2 * e) := by
  induction e with
  | zero => simp
  | succ e ih =>
    have h : 2 * (e + 1) = 2 * e + 1 + 1 := by omega
    rw [h, Int.pow_succ, Int.pow_succ, Int.pow_succ, ih, Int.mul_assoc]

/-- one round of power: r x^e stays what it is -/
theorem power_even (r x : Int) (e : Nat) (t : Int) (h : e % 2 = 0) : r * (x * x % t) ^ (e / 2) % t = r * x ^ e % t := by
  rw [← mul_mod_right, pow_mod_mod, mul_mod_right, pow_sq]
  have : 2 * (e / 2) = e := by omega
  rw [this]

theorem power_odd (r x : Int) (e : Nat) (t : Int) (h : e % 2 = 1) : (r * x % t) * (x * x % t) ^ (e / 2) % t = r * x ^ e % t := by
  rw [← mul_mod_right, pow_mod_mod, mul_mod_right, mul_mod_left, pow_sq, Int.mul_assoc]
  have : e = 2 * (e / 2) + 1 := by omega
  have h2 : x * x ^ (2 * (e / 2)) = x ^ e := by
    have h3 : x ^ e = x ^ (2 * (e / 2) + 1) := by rw [← this]
    rw [h3, Int.pow_succ, Int.mul_comm]
  rw [h2]

/-- what a polynomial is at x, by Horner -/
def horner (x : Int) : List Int → Int
  | [] => 0
  | c :: cs => c + x * horner x cs

/-- what a polynomial is at x, term by term -/
def polyAt (x : Int) : List Int → Nat → Int
  | _, 0 => 0
  | cs, n + 1 => polyAt x cs n + cs.getD n 0 * x ^ n

end Go.Proofs.Ytfpmonifpddbdaa
