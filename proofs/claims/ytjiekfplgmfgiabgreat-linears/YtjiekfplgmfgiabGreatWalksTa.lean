/-
  Walks: the reference's Turn.
-/
import Derived.Test.YtjiekfplgmfgiabGreatWalksT
namespace Go.Proofs.YtjiekfplgmfgiabGreat
open Go.RowKit
set_option linter.unusedVariables false
set_option maxRecDepth 100000

/-- the i-th digits -/
def digC (X : List Int) (B : Int) (i j : Nat) : Int := X.getD j 0 / B ^ i % B
def digI (n : Nat) (X : List Int) (B : Int) (i : Nat) : List Int := (List.range n).map (digC X B i)
def restC (X : List Int) (B : Int) (i j : Nat) : Int := X.getD j 0 / B ^ i

/-- c0 behind the first i digits -/
def turn0 (n : Nat) (q B : Int) (a X : List Int) (l : List UInt8) : Nat → List Int
  | 0 => a
  | i + 1 => plusI n (turn0 n q B a X l i) (timesI n (tkP l n (2 * i)) (digI n X B i) q) q
/-- c1 behind the first i digits -/
def turn1 (n : Nat) (q B : Int) (X : List Int) (l : List UInt8) : Nat → List Int
  | 0 => (List.range n).map fun _ => 0
  | i + 1 => plusI n (turn1 n q B X l i) (timesI n (tkP l n (2 * i + 1)) (digI n X B i) q) q

/-- what Turn answers -/
def turnL (n t : Nat) (q b : Int) (L : Nat) (x l : List UInt8) : List UInt8 × Int :=
  tellL t q (ctE x + (q % (t : Int)).toNat + L * n * ((2 : Int) ^ b.toNat - 1).toNat * 2) (turn0 n q (2 ^ b.toNat) (cubI n (ct0 x n) q) (cubI n (ct1 x n) q) l L) (turn1 n q (2 ^ b.toNat) (cubI n (ct1 x n) q) l L)

theorem digI_length (n : Nat) (X : List Int) (B : Int) (i : Nat) : (digI n X B i).length = n := by simp [digI]
theorem turn0_length (n : Nat) (q B : Int) (a X : List Int) (l : List UInt8) (i : Nat) (h : a.length = n) : (turn0 n q B a X l i).length = n := by
  cases i with
  | zero => exact h
  | succ i => exact plusI_length _ _ _ _
theorem turn1_length (n : Nat) (q B : Int) (X : List Int) (l : List UInt8) (i : Nat) : (turn1 n q B X l i).length = n := by
  cases i with
  | zero => simp [turn1]
  | succ i => exact plusI_length _ _ _ _
theorem turn0_bounds (n : Nat) (q B : Int) (a X : List Int) (l : List UInt8) (i : Nat) (hq : 0 < q) (h : ∀ j, j < n → 0 ≤ a.getD j 0 ∧ a.getD j 0 < q) : ∀ j, j < n → 0 ≤ (turn0 n q B a X l i).getD j 0 ∧ (turn0 n q B a X l i).getD j 0 < q := by
  cases i with
  | zero => exact h
  | succ i => exact fun j hj => plusI_bounds _ _ _ _ hq j (by rw [plusI_length]; exact hj)
theorem turn1_bounds (n : Nat) (q B : Int) (X : List Int) (l : List UInt8) (i : Nat) (hq : 0 < q) : ∀ j, j < n → 0 ≤ (turn1 n q B X l i).getD j 0 ∧ (turn1 n q B X l i).getD j 0 < q := by
  cases i with
  | zero => intro j hj; simp only [turn1]; rw [getD_range hj]; omega
  | succ i => exact fun j hj => plusI_bounds _ _ _ _ hq j (by rw [plusI_length]; exact hj)

theorem cubI_bounds (n : Nat) (xs : List Int) (q : Int) (hq : 0 < q) : ∀ i, i < n → 0 ≤ (cubI n xs q).getD i 0 ∧ (cubI n xs q).getD i 0 < q := by
  intro i hi
  unfold cubI
  rw [getD_range hi]
  unfold cubC
  split <;> exact mod_bounds hq _

theorem bnd_of (xs : List Int) (n : Nat) (q m : Int) (hl : xs.length = n) (hm : q ≤ m) (hq : 0 ≤ q) (h : ∀ i, i < n → 0 ≤ xs.getD i 0 ∧ xs.getD i 0 < q) : Bnd xs m := by
  intro i
  rcases Nat.lt_or_ge i n with c | c
  · have := h i c; omega
  · rw [getD_out _ _ (by omega)]; omega

theorem rest_next (X : List Int) (B : Int) (i j : Nat) (hB : 0 < B) : restC X B i j / B = restC X B (i + 1) j := by
  unfold restC
  rw [Int.pow_succ, Int.ediv_ediv_of_nonneg (Int.le_of_lt (Int.pow_pos hB))]

theorem IsI.ne' {W : World} {base g r n c : Nat} {xs : List Int} (h : OwnI W base (.slice (some ⟨g, 0, none⟩) n c) xs) (hr : r < base) : g ≠ r := by
  have := h.lt g rfl
  omega

set_option maxHeartbeats 400000 in
theorem refTurn_bad (n t q b : Int) (x y : ByteArray) (w : World) (hg : goodB n t q b = false) :
    Calls Tryz.prog 26 #[.agg #[.int .i64 n, .int .i64 t, .int .i64 q, .int .i64 b], .string x, .string y] w fun e w' => e = .returned (.tuple #[.string ⟨#[]⟩, .int .i64 1]) ∧ Up w w' := by
  go_enter Tryz.func26, Tryz.ntmps26
  go_wp2_with (go_at_call 19; refine (refGood_calls _ _ _ _ _).mono ?_; rintro e w' ⟨rfl, hu⟩)
  go_ret2
  exact ⟨rfl, ((Up.refl _).alloc _).trans hu⟩

set_option maxHeartbeats 2000000 in
theorem refTurn_form (n t L : Nat) (q b : Int) (x y : ByteArray) (w : World) (hx : x.size ≤ maxLen) (hy : y.size ≤ maxLen) (g : NT n t) (hq : 2 ≤ q) (hq2 : q ≤ 1073741823) (hb : 1 ≤ b) (hb2 : b ≤ 8) (hL : DigOf q b L) (hg : goodB n t q b = true) (o0 o1 : Bool) (h0 : ctB x.data.toList n t q = o0) (h1 : tnB y.data.toList (2 * n * L) q = o1) (h : o0 = false ∨ (o0 = true ∧ o1 = false)) :
    Calls Tryz.prog 26 #[.agg #[.int .i64 n, .int .i64 t, .int .i64 q, .int .i64 b], .string x, .string y] w fun e w' => e = .returned (.tuple #[.string ⟨#[]⟩, .int .i64 2]) ∧ Up w w' := by
  have ht := g.t3
  have ht2 := g.ht
  obtain ⟨hd1, hd2, hd3⟩ := g.half
  have HR0 : Hid (∀ W, Calls Tryz.prog 21 #[.agg #[.int .i64 n, .int .i64 t, .int .i64 q, .int .i64 b], .string x] W fun e w' => ∃ (z : Int) (p0 : Option Addr) (x0 y0 : Nat) (p1 : Option Addr) (x1 y1 : Nat), e = .returned (.tuple #[.agg #[.int .i64 z, .slice p0 x0 y0, .slice p1 x1 y1], .bool o0]) ∧ Up W w') := fun W => by
    rw [← h0]
    exact Read_any n t q b x W hx (by omega) (by omega) (by omega) (by omega) (by omega) hq2
  have HR1 : Hid (∀ W, Calls Tryz.prog 23 #[.agg #[.int .i64 n, .int .i64 t, .int .i64 q, .int .i64 b], .string y] W fun e w' => e = .returned (.bool o1) ∧ Up W w') := fun W => by
    rw [← h1]
    exact Turner_calls n L t q b y W hy (by omega) hq hq2 hb hb2 hL
  clear h0 h1 hL
  rcases h with rfl | ⟨rfl, rfl⟩
  all_goals
    go_enter Tryz.func26, Tryz.ntmps26
    go_wp2_with fail
    refine (refGood_calls _ _ _ _ _).mono ?_
    rintro e w1 ⟨rfl, hu1⟩
    obtain ⟨hc, hf⟩ := bcell hu1
    go_wp2_with fail
    refine Calls.mono (HR0.out _) ?_
    rintro e w2 ⟨z, p0, x0, y0, p1, x1, y1, rfl, hu2⟩
    clear hc hf
    obtain ⟨hc, hf⟩ := bcell ((hu1.trans hu2).trans ((Up.refl _).alloc (.cells #[.int .i64 z, .slice p0 x0 y0, .slice p1 x1 y1] 59)))
    go_wp2_with fail
    refine Calls.mono (HR1.out _) ?_
    rintro e w3 ⟨rfl, hu3⟩
    clear hc hf
    go_wp2_with fail
    go_ret2
    exact ⟨rfl, ((((((Up.refl _).alloc _).trans hu1).trans hu2).alloc _).trans hu3)⟩

end Go.Proofs.YtjiekfplgmfgiabGreat
