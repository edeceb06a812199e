/-
  Horner's rule is the sum of the terms. No program here.
-/
import Derived.Test.YtfpmonifpddbdaaMathH
namespace Go.Proofs.Ytfpmonifpddbdaa

theorem sumI_shift (f : Nat → Int) (n : Nat) : sumI f (n + 1) = f 0 + sumI (fun i => f (i + 1)) n := by
  induction n with
  | zero => simp [sumI]
  | succ n ih =>
    rw [sumI, ih]
    simp only [sumI]
    omega

theorem horner_sum (x : Int) (xs : List Int) : horner x xs = sumI (fun i => xs.getD i 0 * x ^ i) xs.length := by
  induction xs with
  | nil => rfl
  | cons c cs ih =>
    rw [List.length_cons, sumI_shift]
    simp only [horner, ih, List.getD_cons_zero, List.getD_cons_succ, Int.pow_zero, Int.mul_one]
    rw [← sumI_mul]
    congr 1
    refine sumI_congr fun i _ => ?_
    rw [Int.pow_succ, Int.mul_comm (x ^ i) x, Int.mul_left_comm]

theorem horner_drop (x : Int) (xs : List Int) (k : Nat) (h : k < xs.length) : horner x (xs.drop k) = xs.getD k 0 + x * horner x (xs.drop (k + 1)) := by
  rw [List.drop_eq_getElem_cons h, horner, List.getD_eq_getElem?_getD, List.getElem?_eq_getElem h]
  rfl

theorem horner_step (x t : Int) (xs : List Int) (k : Nat) (h : k < xs.length) : (horner x (xs.drop (k + 1)) % t * x + xs.getD k 0) % t = horner x (xs.drop k) % t := by
  rw [horner_drop x xs k h, ← add_mod_left, mul_mod_left, add_mod_left, Int.mul_comm, Int.add_comm]

end Go.Proofs.Ytfpmonifpddbdaa
