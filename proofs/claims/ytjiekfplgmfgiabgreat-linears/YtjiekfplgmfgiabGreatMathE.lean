/-
  The elimination over the points' powers, for the finitely many good pairs: reckoned by the kernel. No program here.
-/
import Derived.Test.YtjiekfplgmfgiabGreatMathF
namespace Go.Proofs.YtjiekfplgmfgiabGreat

def at2 (E : List (List Nat)) (j c : Nat) : Nat := (E.getD j []).getD c 0

def tabN (n m : Nat) (f : Nat → Nat → Nat) : List (List Nat) := (List.range n).map fun j => (List.range m).map fun c => f j c

theorem at2_tab (n m : Nat) (f : Nat → Nat → Nat) (j c : Nat) (hj : j < n) (hc : c < m) : at2 (tabN n m f) j c = f j c := by
  unfold at2 tabN
  simp [List.getD_eq_getElem?_getD, hj, hc]

/-- from row k on: the first row whose place i is not 0 -/
def pivN (E : List (List Nat)) (i : Nat) : Nat → Nat → Nat
  | 0, k => k
  | f + 1, k => if Nat.beq (at2 E k i) 0 then pivN E i f (k + 1) else k

theorem pivN_ge (E : List (List Nat)) (i f k : Nat) : k ≤ pivN E i f k := by
  induction f generalizing k with
  | zero => exact Nat.le_refl _
  | succ f ih =>
    simp only [pivN]
    split
    · exact Nat.le_trans (Nat.le_succ _) (ih _)
    · exact Nat.le_refl _

theorem pivN_zero (E : List (List Nat)) (i f k j : Nat) (h1 : k ≤ j) (h2 : j < pivN E i f k) : at2 E j i = 0 := by
  induction f generalizing k with
  | zero => simp only [pivN] at h2; omega
  | succ f ih =>
    simp only [pivN] at h2
    split at h2
    · rename_i hb
      by_cases e : j = k
      · subst e; exact Nat.eq_of_beq_eq_true hb
      · exact ih (k + 1) (by omega) h2
    · omega

def stepE (n t i : Nat) (E : List (List Nat)) (k o : Nat) : List (List Nat) :=
  tabN n n fun j c => if Nat.beq j i then at2 E k c * o % t else (at2 E (if Nat.beq j k then i else j) c + t * t - at2 E (if Nat.beq j k then i else j) i * (at2 E k c * o % t)) % t

def elimN (n t : Nat) : Nat → List (List Nat)
  | 0 => tabN n n fun j c => ptN n t j ^ c % t
  | i + 1 => stepE n t i (elimN n t i) (pivN (elimN n t i) i (n - i) i) (at2 (elimN n t i) (pivN (elimN n t i) i (n - i) i) i ^ (t - 2) % t)

def chkElim (n t : Nat) : Bool :=
  ((List.range n).all fun i => Nat.blt (pivN (elimN n t i) i (n - i) i) n && !Nat.beq (at2 (elimN n t i) (pivN (elimN n t i) i (n - i) i) i) 0) &&
  ((List.range n).all fun j => (List.range n).all fun c => Nat.beq (at2 (elimN n t n) j c) (if j = c then 1 else 0))

set_option maxRecDepth 100000 in
theorem all_elim : goodPairs.all (fun p => chkElim p.1 p.2) = true := by decide +kernel

end Go.Proofs.YtjiekfplgmfgiabGreat
