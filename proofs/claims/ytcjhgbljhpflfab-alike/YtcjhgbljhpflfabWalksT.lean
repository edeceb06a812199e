/-
  Walks: the reference's Turner, pairOf.
  Walks: the reference's Turn.
  Walks: the reference's Turn, where it goes through.
-/
import Derived.Test.YtcjhgbljhpflfabWalksRk
import Derived.OwnWalk
namespace Go.Proofs.Ytcjhgbljhpflfab
open Go.RowKit
set_option linter.unusedVariables false
set_option maxRecDepth 100000

theorem pow2_le {b : Nat} {j k : Nat} (h : j ≤ k) : (2 : Int) ^ (b * j) ≤ 2 ^ (b * k) := by
  have : (2 : Nat) ^ (b * j) ≤ 2 ^ (b * k) := Nat.pow_le_pow_right (by omega) (Nat.mul_le_mul_left _ h)
  exact_mod_cast this

theorem dig_up (q b : Int) (hq : 2 ≤ q) : ∀ k : Nat, q ≤ 2 ^ (b.toNat * k) → ∃ L, DigOf q b L := by
  intro k
  induction k with
  | zero => intro h; simp at h; omega
  | succ k ih =>
    intro h
    by_cases c : q ≤ 2 ^ (b.toNat * k)
    · exact ih c
    · refine ⟨k + 1, h, fun j hj => ?_⟩
      have := pow2_le (b := b.toNat) (show j ≤ k by omega)
      omega

/-- the digits -/
theorem dig_ex (q b : Int) (hq : 2 ≤ q) (hq2 : q ≤ 1073741823) (hb : 1 ≤ b) : ∃ L, DigOf q b L := by
  refine dig_up q b hq 30 ?_
  have h4 : (2 : Int) ^ (1 * 30) ≤ 2 ^ (b.toNat * 30) := by
    have : (2 : Nat) ^ (1 * 30) ≤ 2 ^ (b.toNat * 30) := Nat.pow_le_pow_right (by omega) (Nat.mul_le_mul_right _ (by omega))
    exact_mod_cast this
  have h5 : (2 : Int) ^ (1 * 30) = 1073741824 := by decide
  omega

/-- is the text a turning key of m numbers? -/
def tnB (l : List UInt8) (m : Nat) (q : Int) : Bool := decide (l.length = 1 + 4 * m) && decide (byteL l 0 = 82) && okL l.tail m 4 q

theorem tnB_iff (l : List UInt8) (m : Nat) (q : Int) : tnB l m q = true ↔ l.length = 1 + 4 * m ∧ byteL l 0 = 82 ∧ okL l.tail m 4 q = true := by
  unfold tnB
  simp [and_assoc]

/-- polynomial k of a turning key -/
def tkP (l : List UInt8) (n k : Nat) : List Int := (List.range n).map fun i => (numL l (1 + 4 * (n * k) + 4 * i) 4 : Int)

theorem tkP_length (l : List UInt8) (n k : Nat) : (tkP l n k).length = n := by simp [tkP]

theorem tk_ok (l : List UInt8) (n k m : Nat) (q : Int) (h : tnB l m q = true) (hk : n * (k + 1) ≤ m) : okL ((l.take (1 + 4 * (n * k) + 4 * n)).drop (1 + 4 * (n * k))) n 4 q = true := by
  obtain ⟨h1, _, h3⟩ := (tnB_iff _ _ _).1 h
  obtain ⟨_, h5⟩ := (okL_iff _ _ _ _).1 h3
  rw [Nat.mul_succ] at hk
  rw [okL_iff]
  refine ⟨by simp; omega, fun i hi => ?_⟩
  rw [numL_drop, numL_take _ _ _ _ (by omega)]
  have := h5 (n * k + i) (by omega)
  rw [← List.drop_one, numL_drop, show 1 + (n * k + i) * 4 = 1 + 4 * (n * k) + i * 4 by omega] at this
  exact this

theorem tk_nums (l : List UInt8) (n k : Nat) : numsL ((l.take (1 + 4 * (n * k) + 4 * n)).drop (1 + 4 * (n * k))) 4 n = tkP l n k := by
  rw [numsL_range]
  unfold tkP
  refine List.map_congr_left fun i hi => ?_
  have hi := List.mem_range.1 hi
  rw [numL_drop, numL_take _ _ _ _ (by omega), Nat.mul_comm i 4]

theorem tkP_bounds (l : List UInt8) (n k m : Nat) (q : Int) (h : tnB l m q = true) (hk : n * (k + 1) ≤ m) : ∀ i, i < n → 0 ≤ (tkP l n k).getD i 0 ∧ (tkP l n k).getD i 0 < q := by
  have h1 := tk_ok l n k m q h hk
  have h2 := numsL_lt _ 4 n q h1
  rw [tk_nums] at h2
  exact h2

end Go.Proofs.Ytcjhgbljhpflfab

namespace Go.Proofs.Ytcjhgbljhpflfab
open Go.RowKit
set_option linter.unusedVariables false
set_option maxRecDepth 100000

/-- the i-th digits -/
def digC (X : List Int) (B : Int) (i j : Nat) : Int := X.getD j 0 / B ^ i % B
def digI (n : Nat) (X : List Int) (B : Int) (i : Nat) : List Int := (List.range n).map (digC X B i)
def restC (X : List Int) (B : Int) (i j : Nat) : Int := X.getD j 0 / B ^ i

/-- c0 behind the first i digits -/
def turn0 (n : Nat) (q B : Int) (a X : List Int) (l : List UInt8) : Nat → List Int
  | 0 => a
  | i + 1 => plusI n (turn0 n q B a X l i) (timesI n (tkP l n (2 * i)) (digI n X B i) q) q
/-- c1 behind the first i digits -/
def turn1 (n : Nat) (q B : Int) (X : List Int) (l : List UInt8) : Nat → List Int
  | 0 => (List.range n).map fun _ => 0
  | i + 1 => plusI n (turn1 n q B X l i) (timesI n (tkP l n (2 * i + 1)) (digI n X B i) q) q

/-- what Turn answers -/
def turnL (n t : Nat) (q b : Int) (L : Nat) (x l : List UInt8) : List UInt8 × Int :=
  tellL t q (ctE x + (q % (t : Int)).toNat + L * n * ((2 : Int) ^ b.toNat - 1).toNat * 2) (turn0 n q (2 ^ b.toNat) (cubI n (ct0 x n) q) (cubI n (ct1 x n) q) l L) (turn1 n q (2 ^ b.toNat) (cubI n (ct1 x n) q) l L)

theorem digI_length (n : Nat) (X : List Int) (B : Int) (i : Nat) : (digI n X B i).length = n := by simp [digI]
theorem turn0_length (n : Nat) (q B : Int) (a X : List Int) (l : List UInt8) (i : Nat) (h : a.length = n) : (turn0 n q B a X l i).length = n := by
  cases i with
  | zero => exact h
  | succ i => exact plusI_length _ _ _ _
theorem turn1_length (n : Nat) (q B : Int) (X : List Int) (l : List UInt8) (i : Nat) : (turn1 n q B X l i).length = n := by
  cases i with
  | zero => simp [turn1]
  | succ i => exact plusI_length _ _ _ _
theorem turn0_bounds (n : Nat) (q B : Int) (a X : List Int) (l : List UInt8) (i : Nat) (hq : 0 < q) (h : ∀ j, j < n → 0 ≤ a.getD j 0 ∧ a.getD j 0 < q) : ∀ j, j < n → 0 ≤ (turn0 n q B a X l i).getD j 0 ∧ (turn0 n q B a X l i).getD j 0 < q := by
  cases i with
  | zero => exact h
  | succ i => exact fun j hj => plusI_bounds _ _ _ _ hq j (by rw [plusI_length]; exact hj)
theorem turn1_bounds (n : Nat) (q B : Int) (X : List Int) (l : List UInt8) (i : Nat) (hq : 0 < q) : ∀ j, j < n → 0 ≤ (turn1 n q B X l i).getD j 0 ∧ (turn1 n q B X l i).getD j 0 < q := by
  cases i with
  | zero => intro j hj; simp only [turn1]; rw [getD_range hj]; omega
  | succ i => exact fun j hj => plusI_bounds _ _ _ _ hq j (by rw [plusI_length]; exact hj)

theorem cubI_bounds (n : Nat) (xs : List Int) (q : Int) (hq : 0 < q) : ∀ i, i < n → 0 ≤ (cubI n xs q).getD i 0 ∧ (cubI n xs q).getD i 0 < q := by
  intro i hi
  unfold cubI
  rw [getD_range hi]
  unfold cubC
  split <;> exact mod_bounds hq _

theorem bnd_of (xs : List Int) (n : Nat) (q m : Int) (hl : xs.length = n) (hm : q ≤ m) (hq : 0 ≤ q) (h : ∀ i, i < n → 0 ≤ xs.getD i 0 ∧ xs.getD i 0 < q) : Bnd xs m := by
  intro i
  rcases Nat.lt_or_ge i n with c | c
  · have := h i c; omega
  · rw [getD_out _ _ (by omega)]; omega

theorem rest_next (X : List Int) (B : Int) (i j : Nat) (hB : 0 < B) : restC X B i j / B = restC X B (i + 1) j := by
  unfold restC
  rw [Int.pow_succ, Int.ediv_ediv_of_nonneg (Int.le_of_lt (Int.pow_pos hB))]

theorem IsI.ne' {W : World} {base g r n c : Nat} {xs : List Int} (h : OwnI W base (.slice (some ⟨g, 0, none⟩) n c) xs) (hr : r < base) : g ≠ r := by
  have := h.lt g rfl
  omega

end Go.Proofs.Ytcjhgbljhpflfab

namespace Go.Proofs.Ytcjhgbljhpflfab
open Go.RowKit
set_option linter.unusedVariables false
set_option maxRecDepth 100000

theorem OwnI.keepB {w w' : World} {base B g n c : Nat} {xs : List Int} (h : OwnI w base (.slice (some ⟨g, 0, none⟩) n c) xs) (hb : Below B w w') (hg : g < B) : OwnI w' base (.slice (some ⟨g, 0, none⟩) n c) xs := by
  refine ⟨h.1, ?_⟩
  rcases h.2 with h2 | ⟨g', cap, cur, h3, h4, h5, h6⟩
  · exact Or.inl h2
  · have e : g' = g := by injection h3 with h3; injection h3 with h3; injection h3 with h3; exact h3.symm
    exact Or.inr ⟨g', cap, cur, h3, h4, by rw [hb.block g' (by omega)]; exact h5, h6⟩

theorem IsI.keepB {w w' : World} {B g : Nat} {xs : List Int} (h : IsI w g xs) (hb : Below B w w') (hg : g < B) : IsI w' g xs :=
  ⟨Nat.lt_of_lt_of_le h.1 hb.size, fun i hi => (hb.cell (p := ⟨g, i, none⟩) hg).trans (h.2 i hi)⟩

theorem IsI.setOther {W : World} {g r : Nat} {xs : List Int} (h : IsI W g xs) (hne : g ≠ r) (o : Nat) (v : Value) : IsI (W.setCell ⟨r, o, none⟩ v) g xs := by
  refine ⟨by have := h.1; simpa using this, fun i hi => ?_⟩
  rw [World.cell?_setCell_far W ⟨r, o, none⟩ ⟨g, i, none⟩ v (fun c => hne c.symm)]
  exact h.2 i hi

theorem made_zero {w : World} {base g n : Nat} (h : w.ownsRow base 3 1 (.slice (some ⟨g, 0, none⟩) n n) n (madeCells #[Value.int .i64 0] n).toList) : OwnI w base (.slice (some ⟨g, 0, none⟩) n n) ((List.range n).map fun _ => 0) := by
  have e : ((List.range n).map fun _ => (0 : Int)).map (Value.int .i64) = (madeCells #[Value.int .i64 0] n).toList := by
    apply List.ext_getElem
    · simp [size_madeCells]
    · intro i h1 h2
      simp [madeCells, Nat.mod_one]
  unfold OwnI
  rw [e]
  simpa using h

theorem Up.madeN {w w' : World} (hg : w.grownBy w' none) : Up w w' := (Below.refl _ _).grown hg (Nat.le_refl _) (fun k hk => by cases hk)

end Go.Proofs.Ytcjhgbljhpflfab
