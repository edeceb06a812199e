/-
  Walks: Decode and Encode of the reference.
-/
import Derived.Test.YtjiekfplgmfgiabGreatWalksO
namespace Go.Proofs.YtjiekfplgmfgiabGreat
open Go.RowKit
set_option linter.unusedVariables false

theorem numsL_getD (l : List UInt8) (size n i : Nat) (h : i < n) : (numsL l size n).getD i 0 = (numL l (i * size) size : Int) := by
  induction n with
  | zero => omega
  | succ n ih =>
    simp only [numsL]
    by_cases e : i = n
    · subst e
      rw [List.getD_eq_getElem?_getD, List.getElem?_append_right (by rw [numsL_length]; exact Nat.le_refl _), numsL_length]
      simp
    · rw [List.getD_eq_getElem?_getD, List.getElem?_append_left (by rw [numsL_length]; omega), ← List.getD_eq_getElem?_getD]
      exact ih (by omega)

theorem numsL_bounds (l : List UInt8) (size n : Nat) (m : Int) (h : okL l n size m = true) (hm : m ≤ 65536) : ∀ i, i < (numsL l size n).length → 0 ≤ (numsL l size n).getD i 0 ∧ (numsL l size n).getD i 0 < 65536 := by
  intro i hi
  rw [numsL_length] at hi
  rw [numsL_getD _ _ _ _ hi]
  have := ((okL_iff _ _ _ _).1 h).2 i hi
  omega

theorem decI_bounds {n t : Nat} (g : NT n t) (xs : List Int) : ∀ i, i < (decI n t xs).length → 0 ≤ (decI n t xs).getD i 0 ∧ (decI n t xs).getD i 0 < 65536 := by
  intro i hi
  have hi : i < n := by simpa [decI] using hi
  have := valI_bounds g xs i
  have ht := g.ht
  unfold decI
  rw [getD_range hi]
  omega

theorem encI_bounds {n t : Nat} (g : NT n t) (xs : List Int) : ∀ i, i < (encI n t xs).length → 0 ≤ (encI n t xs).getD i 0 ∧ (encI n t xs).getD i 0 < 65536 := by
  intro i hi
  have hi : i < n := by simpa [encI] using hi
  have := encC_bounds g xs i
  have ht := g.ht
  unfold encI
  rw [getD_range hi]
  omega

theorem decI_length (n t : Nat) (xs : List Int) : (decI n t xs).length = n := by simp [decI]

theorem encI_length (n t : Nat) (xs : List Int) : (encI n t xs).length = n := by simp [encI]

theorem numsL_lt (l : List UInt8) (size n : Nat) (m : Int) (h : okL l n size m = true) : ∀ i, i < n → 0 ≤ (numsL l size n).getD i 0 ∧ (numsL l size n).getD i 0 < m := by
  intro i hi
  rw [numsL_getD _ _ _ _ hi]
  have := ((okL_iff _ _ _ _).1 h).2 i hi
  omega

end Go.Proofs.YtjiekfplgmfgiabGreat
