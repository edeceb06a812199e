/-
  The finitely many good pairs N, T, and what holds of each: reckoned by the kernel. No program here.
-/
import Derived.Test.YtjiekfplgmfgiabGreatMath
namespace Go.Proofs.YtjiekfplgmfgiabGreat

/-- the least z with z^n = -1 modulo t -/
def rootN (n t : Nat) : Nat := ((List.range t).find? fun z => Nat.beq (z ^ n % t) (t - 1)).getD 0

/-- z cubed again and again -/
def cubeN (t z : Nat) : Nat → Nat
  | 0 => z
  | k + 1 => cubeN t z k ^ 3 % t

/-- the exponents of row 0 -/
def expN (n : Nat) : Nat → Nat
  | 0 => 1
  | k + 1 => 3 * expN n k % (2 * n)

/-- point j, in the order of the slots -/
def ptN (n t j : Nat) : Nat := if Nat.blt j (n / 2) then cubeN t (rootN n t) j else cubeN t (rootN n t) (j - n / 2) ^ (t - 2) % t

def sumN (f : Nat → Nat) : Nat → Nat
  | 0 => 0
  | k + 1 => sumN f k + f k

/-- the least root is one, and the least -/
def chkRoot (n t : Nat) : Bool := Nat.blt 0 (rootN n t) && Nat.blt (rootN n t) t && Nat.beq (rootN n t ^ n % t) (t - 1) && (List.range (rootN n t)).all fun y => !Nat.beq (y ^ n % t) (t - 1)

/-- row 0 by the exponents -/
def chkExp (n t : Nat) : Bool := (List.range (n / 2)).all fun j => Nat.beq (cubeN t (rootN n t) j) (rootN n t ^ expN n j % t)

/-- every number from 1 on below t has an inverse, by Fermat -/
def chkInv (t : Nat) : Bool := (List.range t).all fun v => Nat.beq v 0 || Nat.beq (v * (v ^ (t - 2) % t) % t) 1

/-- the points' powers, summed crosswise -/
def chkOrth (n t : Nat) : Bool :=
  (List.range n).all fun j => (List.range n).all fun k =>
    Nat.beq (sumN (fun i => ptN n t j ^ i * (ptN n t k ^ (2 * n - i) % t)) n * (n ^ (t - 2) % t) % t) (if j = k then 1 else 0)

/-- all points lie from 1 on below t -/
def chkPts (n t : Nat) : Bool := (List.range n).all fun j => Nat.blt 0 (ptN n t j) && Nat.blt (ptN n t j) t

def goodPairs : List (Nat × Nat) := [4, 8, 16].flatMap fun n => ((List.range 1022).filter fun t => Nat.beq (t % (2 * n)) 1 && prmB (t : Int)).map fun t => (n, t)

theorem mem_good {n t : Nat} (hn : n = 4 ∨ n = 8 ∨ n = 16) (ht : t ≤ 1021) (hm : t % (2 * n) = 1) (hp : prmB t = true) : (n, t) ∈ goodPairs := by
  unfold goodPairs
  rw [List.mem_flatMap]
  refine ⟨n, by simp; omega, ?_⟩
  rw [List.mem_map]
  refine ⟨t, ?_, rfl⟩
  rw [List.mem_filter]
  refine ⟨by simp; omega, ?_⟩
  rw [hm, hp]
  rfl

set_option maxRecDepth 100000 in
theorem all_root : goodPairs.all (fun p => chkRoot p.1 p.2) = true := by decide +kernel
set_option maxRecDepth 100000 in
theorem all_exp : goodPairs.all (fun p => chkExp p.1 p.2) = true := by decide +kernel
set_option maxRecDepth 100000 in
theorem all_inv : goodPairs.all (fun p => chkInv p.2) = true := by decide +kernel
set_option maxRecDepth 100000 in
theorem all_orth : goodPairs.all (fun p => chkOrth p.1 p.2) = true := by decide +kernel
set_option maxRecDepth 100000 in
theorem all_pts : goodPairs.all (fun p => chkPts p.1 p.2) = true := by decide +kernel

end Go.Proofs.YtjiekfplgmfgiabGreat
