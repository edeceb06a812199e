/-
  Walks: the reference's layers: Size, Layer, entry, Less, diagonal.
  Walks: the reference's diagonal and Applied.
  Walks: the reference's Applied.
  Walks: the reference's Turn, MulPlain, Add, AddPlain of any text; Linear where it refuses.
  Walks: the reference's Linear, where values or the turning key are wrong.
  Walks: the reference's Linear, where it goes through.
  Walks: the reference's over, Bent.
  Walks: the reference's LayerOf, Net.
  Walks: the reference's Net of any text.
  Walks: the reference's Plain.
-/
import Derived.Test.YtcjhgbljhpflfabGreatWalksY
namespace Go.Proofs.YtcjhgbljhpflfabGreat
open Go.RowKit
set_option linter.unusedVariables false
set_option maxRecDepth 100000

/-- how many bytes a layer has -/
def sizN (n : Nat) : Nat := 3 + 2 * (n / 2 * (n / 2)) + 2 * n

/-- is the text a layer? -/
def layB (l : List UInt8) (n : Nat) (t : Int) : Bool := decide (l.length = sizN n) && decide (byteL l 0 = 76) && decide (byteL l 1 ≤ 1) && decide (byteL l 2 ≤ 7) && okL (l.drop 3) (n / 2 * (n / 2) + n) 2 t

theorem layB_iff (l : List UInt8) (n : Nat) (t : Int) : layB l n t = true ↔ l.length = sizN n ∧ byteL l 0 = 76 ∧ byteL l 1 ≤ 1 ∧ byteL l 2 ≤ 7 ∧ okL (l.drop 3) (n / 2 * (n / 2) + n) 2 t = true := by
  unfold layB
  simp [and_assoc]

theorem ext_from (s : ByteArray) (k : Nat) : (s.extract k s.size).data.toList = s.data.toList.drop k := by
  rw [ext_list s k s.size (Nat.le_refl _)]
  have : s.data.toList.take s.size = s.data.toList := List.take_of_length_le (by simp)
  rw [this]

/-- where an entry of the matrix lies -/
def entN (n r c : Nat) : Nat := 3 + 2 * (r * (n / 2) + c)

/-- a less b, by slot -/
def lessC (xs ys : List Int) (t : Int) (i : Nat) : Int := (xs.getD i 0 - ys.getD i 0) % t
def lessI (n : Nat) (xs ys : List Int) (t : Int) : List Int := (List.range n).map (lessC xs ys t)

end Go.Proofs.YtcjhgbljhpflfabGreat

namespace Go.Proofs.YtcjhgbljhpflfabGreat
open Go.RowKit
set_option linter.unusedVariables false
set_option maxRecDepth 100000

def dgC (n : Nat) (l : List UInt8) (i j : Nat) : Int := (numL l (entN n j ((j + i) % (n / 2))) 2 : Int)
/-- the values for the term i, one row -/
def dgI (n : Nat) (l : List UInt8) (i k : Nat) : List Int := (List.range k).map (dgC n l i)
def diagL (n : Nat) (l : List UInt8) (i : Nat) : List UInt8 := textsL 2 (dgI n l i (n / 2)) ++ textsL 2 (dgI n l i (n / 2))

theorem dgI_length (n : Nat) (l : List UInt8) (i k : Nat) : (dgI n l i k).length = k := by simp [dgI]

end Go.Proofs.YtcjhgbljhpflfabGreat

namespace Go.Proofs.YtcjhgbljhpflfabGreat
open Go.RowKit
set_option linter.unusedVariables false
set_option maxRecDepth 100000

def apT (n : Nat) (l : List UInt8) (vs : List Int) (r j k : Nat) : Int := (numL l (entN n j k) 2 : Int) * vs.getD (r * (n / 2) + k) 0
def apB (n : Nat) (l : List UInt8) (i : Nat) : Nat := numL l (3 + 2 * (n / 2 * (n / 2)) + 2 * i) 2
def apC (n : Nat) (t : Int) (l : List UInt8) (vs : List Int) (i : Nat) : Int := ((apB n l i : Int) + sumI (apT n l vs (i / (n / 2)) (i % (n / 2))) (n / 2)) % t
/-- a layer's matrix times both rows, and its bias -/
def appI (n : Nat) (t : Int) (l : List UInt8) (vs : List Int) : List Int := (List.range n).map (apC n t l vs)

theorem appI_length (n : Nat) (t : Int) (l : List UInt8) (vs : List Int) : (appI n t l vs).length = n := by simp [appI]

theorem appI_lt (n : Nat) (t : Int) (l : List UInt8) (vs : List Int) (ht : 0 < t) : ∀ i, i < n → 0 ≤ (appI n t l vs).getD i 0 ∧ (appI n t l vs).getD i 0 < t := by
  intro i hi
  unfold appI
  rw [getD_range hi]
  exact mod_bounds ht _

theorem numL_two (l : List UInt8) (i : Nat) : numL l i 2 < 65536 := numL_lt l i 2

theorem sumI_bounds (f : Nat → Int) (m : Int) (hf : ∀ i, 0 ≤ f i ∧ f i ≤ m) (k : Nat) : 0 ≤ sumI f k ∧ sumI f k ≤ k * m := by
  induction k with
  | zero => simp [sumI]
  | succ k ih =>
    have h := hf k
    simp only [sumI]
    rw [show ((k + 1 : Nat) : Int) * m = k * m + m by rw [Int.natCast_add, Int.add_mul]; simp]
    omega

end Go.Proofs.YtcjhgbljhpflfabGreat

namespace Go.Proofs.YtcjhgbljhpflfabGreat
open Go.RowKit
set_option linter.unusedVariables false
set_option maxRecDepth 100000

def turnA (n t : Nat) (q b : Int) (L : Nat) (x l : List UInt8) : List UInt8 × Int := if ctB x n t q = true then turnL n t q b L x l else ([], 2)
def mulA (n t : Nat) (q : Int) (x v : List UInt8) : List UInt8 × Int := if ctB x n t q = true then (if okL v n 2 t = true then mulPlainL n t q x v else ([], 3)) else ([], 2)
def addA (n t : Nat) (q : Int) (x y : List UInt8) : List UInt8 × Int := if ctB x n t q = true then (if ctB y n t q = true then addL n t q x y else ([], 2)) else ([], 2)
def addPlainA (n t : Nat) (q : Int) (x v : List UInt8) : List UInt8 × Int := if ctB x n t q = true then (if okL v n 2 t = true then addPlainL n t q x v else ([], 3)) else ([], 2)

/-- one more term: the turned ciphertext, the sum, the error -/
def linN (n t : Nat) (q b : Int) (L : Nat) (l k : List UInt8) (i : Nat) (c a : List UInt8) (e : Int) : List UInt8 × List UInt8 × Int :=
  if e = 0 then
    if (turnA n t q b L c k).2 = 0 then
      if (mulA n t q (turnA n t q b L c k).1 (diagL n l i)).2 = 0 then
        ((turnA n t q b L c k).1, (addA n t q a (mulA n t q (turnA n t q b L c k).1 (diagL n l i)).1).1, (addA n t q a (mulA n t q (turnA n t q b L c k).1 (diagL n l i)).1).2)
      else ((turnA n t q b L c k).1, a, (mulA n t q (turnA n t q b L c k).1 (diagL n l i)).2)
    else ((turnA n t q b L c k).1, a, (turnA n t q b L c k).2)
  else (c, a, e)

/-- what stands behind the term i -/
def linS (n t : Nat) (q b : Int) (L : Nat) (l k x : List UInt8) : Nat → List UInt8 × List UInt8 × Int
  | 0 => (x, (mulA n t q x (diagL n l 0)).1, (mulA n t q x (diagL n l 0)).2)
  | i + 1 => linN n t q b L l k (i + 1) (linS n t q b L l k x i).1 (linS n t q b L l k x i).2.1 (linS n t q b L l k x i).2.2

/-- what Linear answers -/
def linL (n t : Nat) (q b : Int) (L : Nat) (l x s m k : List UInt8) : List UInt8 × Int :=
  if (linS n t q b L l k x (n / 2 - 1)).2.2 = 0 then addPlainA n t q (linS n t q b L l k x (n / 2 - 1)).2.1 (textsL 2 (lessI n (appI n t l (numsL s 2 n)) (numsL m 2 n) t)) else ([], 4)

theorem linS_stuck (n t : Nat) (q b : Int) (L : Nat) (l k x : List UInt8) (i : Nat) (h : (linS n t q b L l k x i).2.2 ≠ 0) (j : Nat) : (linS n t q b L l k x (i + j)) = (linS n t q b L l k x i) := by
  induction j with
  | zero => rfl
  | succ j ih =>
    rw [← Nat.add_assoc, linS, ih]
    unfold linN
    rw [if_neg h]

end Go.Proofs.YtcjhgbljhpflfabGreat

namespace Go.Proofs.YtcjhgbljhpflfabGreat
open Go.RowKit
set_option linter.unusedVariables false
set_option maxRecDepth 100000

end Go.Proofs.YtcjhgbljhpflfabGreat

namespace Go.Proofs.YtcjhgbljhpflfabGreat
open Go.RowKit
set_option linter.unusedVariables false
set_option maxRecDepth 100000

theorem lessI_length (n : Nat) (xs ys : List Int) (t : Int) : (lessI n xs ys t).length = n := by simp [lessI]

theorem lessI_lt (n : Nat) (xs ys : List Int) (t : Int) (ht : 0 < t) : ∀ i, i < n → 0 ≤ (lessI n xs ys t).getD i 0 ∧ (lessI n xs ys t).getD i 0 < t := by
  intro i hi
  unfold lessI
  rw [getD_range hi]
  exact mod_bounds ht _

end Go.Proofs.YtcjhgbljhpflfabGreat

namespace Go.Proofs.YtcjhgbljhpflfabGreat
open Go.RowKit
set_option linter.unusedVariables false
set_option maxRecDepth 100000

/-- v over 2 to the k-th, the next whole number below or equal -/
def overI (v : Int) : Nat → Int
  | 0 => v
  | k + 1 => overI v k / 2

theorem overI_bounds (v : Int) (k : Nat) (M : Int) (h : -M ≤ v) (h2 : v ≤ M) (hM : 0 ≤ M) : -M ≤ overI v k ∧ overI v k ≤ M := by
  induction k with
  | zero => exact ⟨h, h2⟩
  | succ k ih =>
    simp only [overI]
    omega

/-- what a layer makes of one number -/
def bentX (l : List UInt8) (c : Int) : Int := if c < 0 ∧ byteL l 1 = 1 then 0 else c
def bentC (t : Int) (l : List UInt8) (x : Int) : Int := overI (bentX l (cenC t x)) (byteL l 2) % t
def bentI (n : Nat) (t : Int) (l : List UInt8) (vs : List Int) : List Int := (List.range n).map fun i => bentC t l (vs.getD i 0)

theorem bentI_length (n : Nat) (t : Int) (l : List UInt8) (vs : List Int) : (bentI n t l vs).length = n := by simp [bentI]

theorem bentI_lt (n : Nat) (t : Int) (l : List UInt8) (vs : List Int) (ht : 0 < t) : ∀ i, i < n → 0 ≤ (bentI n t l vs).getD i 0 ∧ (bentI n t l vs).getD i 0 < t := by
  intro i hi
  unfold bentI
  rw [getD_range hi]
  exact mod_bounds ht _

end Go.Proofs.YtcjhgbljhpflfabGreat

namespace Go.Proofs.YtcjhgbljhpflfabGreat
open Go.RowKit
set_option linter.unusedVariables false
set_option maxRecDepth 100000

/-- layer i of a net -/
def layOf (n : Nat) (l : List UInt8) (i : Nat) : List UInt8 := (l.take (2 + i * sizN n + sizN n)).drop (2 + i * sizN n)
def layX (n : Nat) (s : ByteArray) (i : Nat) : ByteArray := s.extract (2 + i * sizN n) (2 + i * sizN n + sizN n)

theorem layX_list (n : Nat) (s : ByteArray) (i : Nat) (h : 2 + i * sizN n + sizN n ≤ s.size) : (layX n s i).data.toList = layOf n s.data.toList i := ext_list s _ _ h

theorem sizN_le (n : Nat) (hn : n = 4 ∨ n = 8 ∨ n = 16) : sizN n ≤ 200 := by rcases hn with rfl | rfl | rfl <;> decide

/-- is the text a net? -/
def netB (l : List UInt8) (n : Nat) (t : Int) : Bool := decide (2 ≤ l.length) && decide (byteL l 0 = 78) && decide (1 ≤ byteL l 1) && decide (byteL l 1 ≤ 3) && decide (l.length = 2 + byteL l 1 * sizN n) && (List.range (byteL l 1)).all fun i => layB (layOf n l i) n t

theorem netB_iff (l : List UInt8) (n : Nat) (t : Int) : netB l n t = true ↔ 2 ≤ l.length ∧ byteL l 0 = 78 ∧ 1 ≤ byteL l 1 ∧ byteL l 1 ≤ 3 ∧ l.length = 2 + byteL l 1 * sizN n ∧ ∀ i, i < byteL l 1 → layB (layOf n l i) n t = true := by
  unfold netB
  simp [and_assoc]

end Go.Proofs.YtcjhgbljhpflfabGreat

namespace Go.Proofs.YtcjhgbljhpflfabGreat
open Go.RowKit
set_option linter.unusedVariables false
set_option maxRecDepth 100000

end Go.Proofs.YtcjhgbljhpflfabGreat

namespace Go.Proofs.YtcjhgbljhpflfabGreat
open Go.RowKit
set_option linter.unusedVariables false
set_option maxRecDepth 100000

/-- a net's values behind i layers -/
def playI (n : Nat) (t : Int) (l : List UInt8) (v : List Int) : Nat → List Int
  | 0 => v
  | i + 1 => bentI n t (layOf n l i) (appI n t (layOf n l i) (playI n t l v i))

def plainL (n : Nat) (t : Int) (l v : List UInt8) : List UInt8 := textsL 2 (playI n t l (numsL v 2 n) (byteL l 1))

theorem playI_facts (n : Nat) (t : Int) (l : List UInt8) (v : List Int) (hl : v.length = n) (hv : ∀ i, i < n → 0 ≤ v.getD i 0 ∧ v.getD i 0 < t) (ht : 0 < t) (k : Nat) : (playI n t l v k).length = n ∧ ∀ i, i < n → 0 ≤ (playI n t l v k).getD i 0 ∧ (playI n t l v k).getD i 0 < t := by
  cases k with
  | zero => exact ⟨hl, hv⟩
  | succ k => exact ⟨bentI_length _ _ _ _, bentI_lt _ _ _ _ ht⟩

end Go.Proofs.YtcjhgbljhpflfabGreat
