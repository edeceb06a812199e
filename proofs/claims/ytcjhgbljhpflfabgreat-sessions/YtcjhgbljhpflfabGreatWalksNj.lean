/-
  Walks: the reference's Plain.
-/
import Derived.Test.YtcjhgbljhpflfabGreatWalksNd
import Derived.Test.YtcjhgbljhpflfabGreatWalksNg
import Derived.Test.YtcjhgbljhpflfabGreatWalksNh
namespace Go.Proofs.YtcjhgbljhpflfabGreat
open Go.RowKit
set_option linter.unusedVariables false
set_option maxRecDepth 100000

/-- a net's values behind i layers -/
def playI (n : Nat) (t : Int) (l : List UInt8) (v : List Int) : Nat → List Int
  | 0 => v
  | i + 1 => bentI n t (layOf n l i) (appI n t (layOf n l i) (playI n t l v i))

def plainL (n : Nat) (t : Int) (l v : List UInt8) : List UInt8 := textsL 2 (playI n t l (numsL v 2 n) (byteL l 1))

theorem playI_facts (n : Nat) (t : Int) (l : List UInt8) (v : List Int) (hl : v.length = n) (hv : ∀ i, i < n → 0 ≤ v.getD i 0 ∧ v.getD i 0 < t) (ht : 0 < t) (k : Nat) : (playI n t l v k).length = n ∧ ∀ i, i < n → 0 ≤ (playI n t l v k).getD i 0 ∧ (playI n t l v k).getD i 0 < t := by
  cases k with
  | zero => exact ⟨hl, hv⟩
  | succ k => exact ⟨bentI_length _ _ _ _, bentI_lt _ _ _ _ ht⟩

end Go.Proofs.YtcjhgbljhpflfabGreat
