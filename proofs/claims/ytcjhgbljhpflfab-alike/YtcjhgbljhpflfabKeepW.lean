/-
  Walks: the statement Turned.
-/
import Derived.Test.YtcjhgbljhpflfabKeepT
import Derived.Test.YtcjhgbljhpflfabKeepG
import Derived.Test.YtcjhgbljhpflfabCodeTn
namespace Go.Proofs.Ytcjhgbljhpflfab
open Go.RowKit
set_option linter.unusedVariables false
set_option maxRecDepth 100000

theorem came_turn {n t : Nat} {q b : Int} (p : GoodP n t q b) (hb : 1 ≤ b) (hb2 : b ≤ 8) (L : Nat) (hL : DigOf q b L) (s : List Int) (x d : List UInt8) (ms : List Int) (E : Nat) (hx : IsCT n t q s x ms E) : Came n t q s (turnL n t q b L x (tkL n s q b d L)) (cubI n ms t) (E + (q % (t : Int)).toNat + tnN n L b) := by
  cases h : fitsB t q ((E + (q % (t : Int)).toNat + tnN n L b : Nat) : Int) with
  | true => exact Or.inl ⟨h, turn_ct p.nt q b p.q1 p.q2 hb hb2 L hL s x d ms E hx h⟩
  | false =>
    refine Or.inr ⟨h, ?_⟩
    unfold turnL tellL
    rw [hx.bound, if_neg (by show ¬ fitsB t q ((E + (q % (t : Int)).toNat + tnN n L b : Nat) : Int) = true; rw [h]; decide)]

theorem tk_size (n : Nat) (ss : List Int) (q b : Int) (l : List UInt8) (L : Nat) (hn : n ≤ 16) (hL : L ≤ 30) : (⟨(tkL n ss q b l L).toArray⟩ : ByteArray).size ≤ maxLen := by
  show (tkL n ss q b l L).toArray.size ≤ _
  have h1 : 8 * n * L ≤ 128 * 30 := Nat.mul_le_mul (by omega) hL
  rw [List.size_toArray, tkL_length]; unfold maxLen; omega

theorem key_size (l : List UInt8) (n : Nat) (hn : n ≤ 16) : (⟨(keyL l n).toArray⟩ : ByteArray).size ≤ maxLen := by
  show (keyL l n).toArray.size ≤ _
  rw [List.size_toArray, keyL_length]; unfold maxLen; omega

end Go.Proofs.Ytcjhgbljhpflfab
