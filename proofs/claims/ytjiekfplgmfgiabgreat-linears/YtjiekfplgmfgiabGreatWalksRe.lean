/-
  Walks: the reference's hidden.
  Walks: the reference's Key and TurnKey.
-/
import Derived.Test.YtjiekfplgmfgiabGreatWalksRc
namespace Go.Proofs.YtjiekfplgmfgiabGreat
open Go.RowKit
set_option linter.unusedVariables false
set_option maxRecDepth 100000

theorem keepU {a k : Nat} {u : Value} {W W' : World} (hu : Up W W') (hS : W.cell? ⟨a, k, none⟩ = some u) : W'.cell? ⟨a, k, none⟩ = some u :=
  (hu.cell (p := ⟨a, k, none⟩) (World.block_lt_of_cell? W ⟨a, k, none⟩ hS)).trans hS

theorem getD_out (xs : List Int) (i : Nat) (h : xs.length ≤ i) : xs.getD i 0 = 0 := by
  rw [List.getD_eq_getElem?_getD, List.getElem?_eq_none h]; rfl

theorem Bnd_map {f : Nat → Int} {n : Nat} {m : Int} (hm : 0 ≤ m) (h : ∀ i, i < n → -m ≤ f i ∧ f i ≤ m) : Bnd ((List.range n).map f) m := by
  intro i
  by_cases hi : i < n
  · rw [getD_range hi]; exact h i hi
  · rw [getD_out _ _ (by simp; omega)]; omega

theorem Bnd_mod {f : Nat → Int} {n : Nat} {q m : Int} (hq : 0 < q) (hm : q ≤ m) (e : ∀ i, ∃ x, f i = x % q) : Bnd ((List.range n).map f) m := by
  refine Bnd_map (by omega) fun i _ => ?_
  obtain ⟨x, hx⟩ := e i
  have := mod_bounds hq x
  rw [hx]
  omega

theorem plusI_length (n : Nat) (xs ys : List Int) (q : Int) : (plusI n xs ys q).length = n := by simp [plusI]
theorem scaledI_length (n : Nat) (xs : List Int) (k q : Int) : (scaledI n xs k q).length = n := by simp [scaledI]
theorem timesI_length (n : Nat) (xs ys : List Int) (q : Int) : (timesI n xs ys q).length = n := by simp [timesI]
theorem pairA_length (l : List UInt8) (q : Int) (n at0 : Nat) : (pairA l q n at0).length = n := by simp [pairA]
theorem pairE_length (l : List UInt8) (n at0 : Nat) : (pairE l n at0).length = n := by simp [pairE]
theorem secI_length (l : List UInt8) (n : Nat) : (secI l n).length = n := by simp [secI]
theorem cubI_length (n : Nat) (xs : List Int) (q : Int) : (cubI n xs q).length = n := by simp [cubI]

theorem pairE_bnd (l : List UInt8) (n at0 : Nat) (m : Int) (hm : 2 ≤ m) : Bnd (pairE l n at0) m := by
  refine Bnd_map (by omega) fun i _ => ?_
  have := byteL_lt l (at0 + 4 * n + i)
  unfold prE
  omega

/-- m, hidden by a drawn pair, times k: c -/
def hidI (n : Nat) (s m : List Int) (k q : Int) (l : List UInt8) (at0 : Nat) : List Int :=
  plusI n (plusI n (pairE l n at0) (scaledI n m k q) q) (scaledI n (timesI n (pairA l q n at0) s q) (-1) q) q

theorem hidI_length (n : Nat) (s m : List Int) (k q : Int) (l : List UInt8) (at0 : Nat) : (hidI n s m k q l at0).length = n := plusI_length _ _ _ _

end Go.Proofs.YtjiekfplgmfgiabGreat

namespace Go.Proofs.YtjiekfplgmfgiabGreat
open Go.RowKit
set_option linter.unusedVariables false
set_option maxRecDepth 100000

/-- the key of these draws -/
def keyL (l : List UInt8) (n : Nat) : List UInt8 := 75 :: (List.range n).map fun i => UInt8.ofNat (byteL l i % 3)

theorem keyL_succ (l : List UInt8) (n : Nat) : keyL l (n + 1) = keyL l n ++ [UInt8.ofNat (byteL l n % 3)] := by simp [keyL, List.range_succ]
theorem keyL_length (l : List UInt8) (n : Nat) : (keyL l n).length = n + 1 := by simp [keyL]

theorem add_str (xs ys : List UInt8) (hx : xs.length ≤ 1000000) (hy : ys.length ≤ 1000000) (W : World) : (Op.stringOp .add ⟨xs.toArray⟩ ⟨ys.toArray⟩).run Tryz.prog W = .ok (.string ⟨(xs ++ ys).toArray⟩) W :=
  run_string_add_lists (P := Tryz.prog) W xs ys (by omega) (by omega)

/-- the least number of digits -/
structure DigOf (q b : Int) (L : Nat) : Prop where
  top : q ≤ 2 ^ (b.toNat * L)
  low : ∀ j, j < L → (2 : Int) ^ (b.toNat * j) < q

theorem DigOf.le {q b : Int} {L : Nat} (h : DigOf q b L) (hb : 1 ≤ b) (hq : q ≤ 1073741823) : L ≤ 30 := by
  rcases Nat.lt_or_ge 30 L with c | c
  · exfalso
    have h3 := h.low 30 c
    have h4 : (2 : Int) ^ (1 * 30) ≤ 2 ^ (b.toNat * 30) := by
      have : (2 : Nat) ^ (1 * 30) ≤ 2 ^ (b.toNat * 30) := Nat.pow_le_pow_right (by omega) (Nat.mul_le_mul_right _ (by omega))
      exact_mod_cast this
    have h5 : (2 : Int) ^ (1 * 30) = 1073741824 := by decide
    omega
  · exact c

/-- the pairs of a turning key, the first L -/
def tkL (n : Nat) (ss : List Int) (q b : Int) (l : List UInt8) : Nat → List UInt8
  | 0 => [82]
  | i + 1 => tkL n ss q b l i ++ textsL 4 (hidI n ss (cubI n ss q) (2 ^ (b.toNat * i)) q l (5 * n * i)) ++ textsL 4 (pairA l q n (5 * n * i))

theorem tkL_length (n : Nat) (ss : List Int) (q b : Int) (l : List UInt8) (i : Nat) : (tkL n ss q b l i).length = 1 + 8 * n * i := by
  induction i with
  | zero => rfl
  | succ i ih =>
    simp only [tkL, List.length_append, ih, textsL_length, hidI_length, pairA_length]
    rw [Nat.mul_succ]
    omega

theorem secI_bnd (l : List UInt8) (n : Nat) : Bnd (secI l n) 4294967296 := by
  refine Bnd_map (by omega) fun i _ => ?_
  have := byteL_lt l (i + 1)
  omega

theorem plusI_bounds (n : Nat) (xs ys : List Int) (q : Int) (hq : 0 < q) (i : Nat) (hi : i < (plusI n xs ys q).length) : 0 ≤ (plusI n xs ys q).getD i 0 ∧ (plusI n xs ys q).getD i 0 < q := by
  rw [plusI_length] at hi
  unfold plusI
  rw [getD_range hi]
  exact mod_bounds hq _

theorem hidI_bounds (n : Nat) (ss ms : List Int) (k q : Int) (l : List UInt8) (at0 : Nat) (hq : 0 < q) (i : Nat) (hi : i < (hidI n ss ms k q l at0).length) : 0 ≤ (hidI n ss ms k q l at0).getD i 0 ∧ (hidI n ss ms k q l at0).getD i 0 < q := plusI_bounds n _ _ q hq i hi

theorem pairA_bounds (l : List UInt8) (q : Int) (n at0 : Nat) (hq : 0 < q) (i : Nat) (hi : i < (pairA l q n at0).length) : 0 ≤ (pairA l q n at0).getD i 0 ∧ (pairA l q n at0).getD i 0 < q := by
  rw [pairA_length] at hi
  unfold pairA
  rw [getD_range hi]
  exact mod_bounds hq _

theorem keep4 {a : Nat} {u0 u1 u2 u3 : Value} {W W' : World} (hu : Up W W') (hS : W.cell? ⟨a, 0, none⟩ = some u0 ∧ W.cell? ⟨a, 1, none⟩ = some u1 ∧ W.cell? ⟨a, 2, none⟩ = some u2 ∧ W.cell? ⟨a, 3, none⟩ = some u3) :
    W'.cell? ⟨a, 0, none⟩ = some u0 ∧ W'.cell? ⟨a, 1, none⟩ = some u1 ∧ W'.cell? ⟨a, 2, none⟩ = some u2 ∧ W'.cell? ⟨a, 3, none⟩ = some u3 :=
  ⟨keepU hu hS.1, keepU hu hS.2.1, keepU hu hS.2.2.1, keepU hu hS.2.2.2⟩

theorem pow_b (b : Int) (hb : 1 ≤ b) (hb2 : b ≤ 8) : (2 : Int) ^ b.toNat % 1048576 = 2 ^ b.toNat ∧ (2 : Int) ^ b.toNat ≤ 256 ∧ 2 ≤ (2 : Int) ^ b.toNat := by
  obtain ⟨m, rfl⟩ := Int.eq_ofNat_of_zero_le (a := b) (by omega)
  rw [Int.toNat_natCast]
  rcases (show m = 1 ∨ m = 2 ∨ m = 3 ∨ m = 4 ∨ m = 5 ∨ m = 6 ∨ m = 7 ∨ m = 8 from by omega) with rfl | rfl | rfl | rfl | rfl | rfl | rfl | rfl <;> decide

end Go.Proofs.YtjiekfplgmfgiabGreat
