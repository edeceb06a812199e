/-
  Walks: the statement Multiplied.
-/
import Derived.Test.YtcjhgbljhpflfabKeepE
import Derived.Test.YtcjhgbljhpflfabCodeS
namespace Go.Proofs.Ytcjhgbljhpflfab
open Go.RowKit
set_option linter.unusedVariables false
set_option maxRecDepth 100000

theorem absS_half (t : Int) (ms : List Int) (n k : Nat) (hk : k ≤ n) (hm : ∀ i, i < n → 0 ≤ ms.getD i 0 ∧ ms.getD i 0 < t) : (absS t ms k : Int) ≤ k * (t / 2) := by
  induction k with
  | zero => simp [absS, sumN]
  | succ k ih =>
    have h1 := ih (by omega)
    have h2 := cenC_bounds t (ms.getD k 0) (hm k (by omega)).1 (hm k (by omega)).2
    rw [absS_succ, Int.natCast_add, show ((k + 1 : Nat) : Int) = (k : Int) + 1 by omega, Int.add_mul, Int.one_mul]
    omega

theorem fitsB_mono {t q e f : Int} (ht : 0 ≤ t) (hef : e ≤ f) (h : fitsB t q e = false) : fitsB t q f = false := by
  have h1 : t * e ≤ t * f := Int.mul_le_mul_of_nonneg_left hef ht
  unfold fitsB at h ⊢
  rw [decide_eq_false_iff_not] at h ⊢
  omega

theorem came_mul {n t : Nat} {q b : Int} (p : GoodP n t q b) (s : List Int) (x : List UInt8) (ms vs : List Int) (E : Nat) (hx : IsCT n t q s x ms E) (hl : vs.length = n) (hv : ∀ i, i < n → 0 ≤ vs.getD i 0 ∧ vs.getD i 0 < (t : Int)) :
    Came n t q s (mulPlainL n t q x (textsL 2 vs)) (timesI n ms (cenI n t (encI n t vs)) t) (absS t (encI n t vs) n * (E + (q % (t : Int)).toNat)) := by
  have h256 : ((256 ^ 2 : Nat) : Int) = 65536 := by decide
  have ht2 := p.nt.ht
  have e := nums_texts vs n 2 t hl hv (by omega)
  cases h : fitsB t q ((absS t (encI n t vs) n * (E + (q % (t : Int)).toNat) : Nat) : Int) with
  | true =>
    have h2 := h
    rw [← e] at h2
    have := mul_ct p.nt q p.q1 p.q2 s x (textsL 2 vs) ms E hx h2
    rw [e] at this
    exact Or.inl ⟨h, this⟩
  | false =>
    refine Or.inr ⟨h, ?_⟩
    unfold mulPlainL tellL
    rw [hx.bound, e, if_neg (by rw [h]; decide)]

/-- the greatest bound -/
theorem most_no {n t : Nat} {q b : Int} (p : GoodP n t q b) (vs : List Int) (R : Nat) (h : fitsB t q ((absS t (encI n t vs) n * (2 + R) : Nat) : Int) = false) : fitsB t q ((n : Int) * ((t : Int) / 2) * (2 + (R : Int))) = false := by
  refine fitsB_mono (by omega) ?_ h
  have h1 := absS_half (t : Int) (encI n t vs) n n (Nat.le_refl _) (encI_lt p.nt vs)
  rw [Int.natCast_mul, show ((2 + R : Nat) : Int) = 2 + (R : Int) by omega]
  exact Int.mul_le_mul_of_nonneg_right h1 (by omega)

theorem prodI_length (n : Nat) (xs ys : List Int) (t : Int) : (prodI n xs ys t).length = n := by simp [prodI]

end Go.Proofs.Ytcjhgbljhpflfab
