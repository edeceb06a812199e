/-
  Walks: the reference's Turn, MulPlain, Add, AddPlain of any text; Linear where it refuses.
  Walks: the reference's Linear, where values or the turning key are wrong.
  Walks: the reference's Linear, where it goes through.
-/
import Derived.Test.YtcjhgbljhpflfabWalksNa
import Derived.Test.YtcjhgbljhpflfabWalksT
namespace Go.Proofs.Ytcjhgbljhpflfab
open Go.RowKit
set_option linter.unusedVariables false
set_option maxRecDepth 100000

def turnA (n t : Nat) (q b : Int) (L : Nat) (x l : List UInt8) : List UInt8 × Int := if ctB x n t q = true then turnL n t q b L x l else ([], 2)
def mulA (n t : Nat) (q : Int) (x v : List UInt8) : List UInt8 × Int := if ctB x n t q = true then (if okL v n 2 t = true then mulPlainL n t q x v else ([], 3)) else ([], 2)
def addA (n t : Nat) (q : Int) (x y : List UInt8) : List UInt8 × Int := if ctB x n t q = true then (if ctB y n t q = true then addL n t q x y else ([], 2)) else ([], 2)
def addPlainA (n t : Nat) (q : Int) (x v : List UInt8) : List UInt8 × Int := if ctB x n t q = true then (if okL v n 2 t = true then addPlainL n t q x v else ([], 3)) else ([], 2)

theorem tellL_len (t q : Int) (e n : Nat) (c0 c1 : List Int) (h0 : c0.length = n) (h1 : c1.length = n) : (tellL t q e c0 c1).1.length ≤ 6 + 8 * n := by
  unfold tellL
  split
  · unfold toldL
    simp only [List.length_append, textL_length, textsL_length, h0, h1, List.length_cons, List.length_nil]
    omega
  · simp

theorem turnA_len (n t : Nat) (q b : Int) (L : Nat) (x l : List UInt8) : (turnA n t q b L x l).1.length ≤ 6 + 8 * n := by
  unfold turnA
  split
  · exact tellL_len _ _ _ _ _ _ (turn0_length _ _ _ _ _ _ _ (cubI_length _ _ _)) (turn1_length _ _ _ _ _ _)
  · simp

theorem mulA_len (n t : Nat) (q : Int) (x v : List UInt8) : (mulA n t q x v).1.length ≤ 6 + 8 * n := by
  unfold mulA
  split
  · split
    · exact tellL_len _ _ _ _ _ _ (timesI_length _ _ _ _) (timesI_length _ _ _ _)
    · simp
  · simp

theorem addA_len (n t : Nat) (q : Int) (x v : List UInt8) : (addA n t q x v).1.length ≤ 6 + 8 * n := by
  unfold addA
  split
  · split
    · exact tellL_len _ _ _ _ _ _ (plusI_length _ _ _ _) (plusI_length _ _ _ _)
    · simp
  · simp

/-- one more term: the turned ciphertext, the sum, the error -/
def linN (n t : Nat) (q b : Int) (L : Nat) (l k : List UInt8) (i : Nat) (c a : List UInt8) (e : Int) : List UInt8 × List UInt8 × Int :=
  if e = 0 then
    if (turnA n t q b L c k).2 = 0 then
      if (mulA n t q (turnA n t q b L c k).1 (diagL n l i)).2 = 0 then
        ((turnA n t q b L c k).1, (addA n t q a (mulA n t q (turnA n t q b L c k).1 (diagL n l i)).1).1, (addA n t q a (mulA n t q (turnA n t q b L c k).1 (diagL n l i)).1).2)
      else ((turnA n t q b L c k).1, a, (mulA n t q (turnA n t q b L c k).1 (diagL n l i)).2)
    else ((turnA n t q b L c k).1, a, (turnA n t q b L c k).2)
  else (c, a, e)

/-- what stands behind the term i -/
def linS (n t : Nat) (q b : Int) (L : Nat) (l k x : List UInt8) : Nat → List UInt8 × List UInt8 × Int
  | 0 => (x, (mulA n t q x (diagL n l 0)).1, (mulA n t q x (diagL n l 0)).2)
  | i + 1 => linN n t q b L l k (i + 1) (linS n t q b L l k x i).1 (linS n t q b L l k x i).2.1 (linS n t q b L l k x i).2.2

/-- what Linear answers -/
def linL (n t : Nat) (q b : Int) (L : Nat) (l x s m k : List UInt8) : List UInt8 × Int :=
  if (linS n t q b L l k x (n / 2 - 1)).2.2 = 0 then addPlainA n t q (linS n t q b L l k x (n / 2 - 1)).2.1 (textsL 2 (lessI n (appI n t l (numsL s 2 n)) (numsL m 2 n) t)) else ([], 4)

theorem linS_stuck (n t : Nat) (q b : Int) (L : Nat) (l k x : List UInt8) (i : Nat) (h : (linS n t q b L l k x i).2.2 ≠ 0) (j : Nat) : (linS n t q b L l k x (i + j)) = (linS n t q b L l k x i) := by
  induction j with
  | zero => rfl
  | succ j ih =>
    rw [← Nat.add_assoc, linS, ih]
    unfold linN
    rw [if_neg h]

theorem Values_any (n : Nat) (t q b : Int) (s : ByteArray) (w : World) (hs : s.size ≤ maxLen) (hn : n ≤ 16) (hn1 : 1 ≤ n) :
    Calls Try.prog 65 #[.agg #[.int .i64 n, .int .i64 t, .int .i64 q, .int .i64 b], .string s] w fun e w' => ∃ a x y, e = .returned (.tuple #[.slice a x y, .bool (okL s.data.toList n 2 t)]) ∧ Up w w' := by
  cases h : okL s.data.toList n 2 t with
  | true =>
    refine (Values_ok n t q b s w hs hn h).mono ?_
    rintro e w' ⟨v, rfl, ho, hu⟩
    obtain ⟨g, c, rfl, _, _⟩ := ho.is (ne_nil_of_length (numsL_length _ _ _) (by omega))
    exact ⟨_, _, _, rfl, hu⟩
  | false =>
    refine (Values_no n t q b s w hs hn h).mono ?_
    rintro e w' ⟨rfl, hu⟩
    exact ⟨_, _, _, rfl, hu⟩

end Go.Proofs.Ytcjhgbljhpflfab

namespace Go.Proofs.Ytcjhgbljhpflfab
open Go.RowKit
set_option linter.unusedVariables false
set_option maxRecDepth 100000

end Go.Proofs.Ytcjhgbljhpflfab

namespace Go.Proofs.Ytcjhgbljhpflfab
open Go.RowKit
set_option linter.unusedVariables false
set_option maxRecDepth 100000

theorem lessI_length (n : Nat) (xs ys : List Int) (t : Int) : (lessI n xs ys t).length = n := by simp [lessI]

theorem lessI_lt (n : Nat) (xs ys : List Int) (t : Int) (ht : 0 < t) : ∀ i, i < n → 0 ≤ (lessI n xs ys t).getD i 0 ∧ (lessI n xs ys t).getD i 0 < t := by
  intro i hi
  unfold lessI
  rw [getD_range hi]
  exact mod_bounds ht _

theorem diagL_length (n : Nat) (l : List UInt8) (i : Nat) : (diagL n l i).length = 4 * (n / 2) := by
  unfold diagL
  rw [List.length_append, textsL_length, dgI_length]
  omega

theorem all_bnd {xs : List Int} {n : Nat} {m M : Int} (hl : xs.length = n) (h : ∀ i, i < n → 0 ≤ xs.getD i 0 ∧ xs.getD i 0 < m) (hm : m ≤ M) (hM : 0 ≤ M) : ∀ i, 0 ≤ xs.getD i 0 ∧ xs.getD i 0 ≤ M := by
  intro i
  by_cases hi : i < n
  · have := h i hi
    omega
  · rw [getD_out xs i (by omega)]
    omega

theorem str_list (l : List UInt8) : (⟨l.toArray⟩ : ByteArray).data.toList = l := by simp
theorem str_size (l : List UInt8) : (⟨l.toArray⟩ : ByteArray).size = l.length := by simp [ByteArray.size]

end Go.Proofs.Ytcjhgbljhpflfab
