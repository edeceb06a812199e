/-
  Walks: the statement Multiplied.
  Walks: the statement Turned.
-/
import Derived.Test.YtcjhgbljhpflfabGreatKeepD
import Derived.Test.YtcjhgbljhpflfabGreatCodeS
import Derived.Test.YtcjhgbljhpflfabGreatKeepT
import Derived.Test.YtcjhgbljhpflfabGreatCodeY
import Derived.Test.YtcjhgbljhpflfabGreatCodeN
namespace Go.Proofs.YtcjhgbljhpflfabGreat
open Go.RowKit
set_option linter.unusedVariables false
set_option maxRecDepth 100000

theorem absS_half (t : Int) (ms : List Int) (n k : Nat) (hk : k ≤ n) (hm : ∀ i, i < n → 0 ≤ ms.getD i 0 ∧ ms.getD i 0 < t) : (absS t ms k : Int) ≤ k * (t / 2) := by
  induction k with
  | zero => simp [absS, sumN]
  | succ k ih =>
    have h1 := ih (by omega)
    have h2 := cenC_bounds t (ms.getD k 0) (hm k (by omega)).1 (hm k (by omega)).2
    rw [absS_succ, Int.natCast_add, show ((k + 1 : Nat) : Int) = (k : Int) + 1 by omega, Int.add_mul, Int.one_mul]
    omega

theorem fitsB_mono {t q e f : Int} (ht : 0 ≤ t) (hef : e ≤ f) (h : fitsB t q e = false) : fitsB t q f = false := by
  have h1 : t * e ≤ t * f := Int.mul_le_mul_of_nonneg_left hef ht
  unfold fitsB at h ⊢
  rw [decide_eq_false_iff_not] at h ⊢
  omega

theorem came_mul {n t : Nat} {q b : Int} (p : GoodP n t q b) (s : List Int) (x : List UInt8) (ms vs : List Int) (E : Nat) (hx : IsCT n t q s x ms E) (hl : vs.length = n) (hv : ∀ i, i < n → 0 ≤ vs.getD i 0 ∧ vs.getD i 0 < (t : Int)) :
    Came n t q s (mulPlainL n t q x (textsL 2 vs)) (timesI n ms (cenI n t (encI n t vs)) t) (absS t (encI n t vs) n * (E + (q % (t : Int)).toNat)) := by
  have h256 : ((256 ^ 2 : Nat) : Int) = 65536 := by decide
  have ht2 := p.nt.ht
  have e := nums_texts vs n 2 t hl hv (by omega)
  cases h : fitsB t q ((absS t (encI n t vs) n * (E + (q % (t : Int)).toNat) : Nat) : Int) with
  | true =>
    have h2 := h
    rw [← e] at h2
    have := mul_ct p.nt q p.q1 p.q2 s x (textsL 2 vs) ms E hx h2
    rw [e] at this
    exact Or.inl ⟨h, this⟩
  | false =>
    refine Or.inr ⟨h, ?_⟩
    unfold mulPlainL tellL
    rw [hx.bound, e, if_neg (by rw [h]; decide)]

end Go.Proofs.YtcjhgbljhpflfabGreat

namespace Go.Proofs.YtcjhgbljhpflfabGreat
open Go.RowKit
set_option linter.unusedVariables false
set_option maxRecDepth 100000

theorem came_turn {n t : Nat} {q b : Int} (p : GoodP n t q b) (hb : 1 ≤ b) (hb2 : b ≤ 8) (L : Nat) (hL : DigOf q b L) (s : List Int) (x d : List UInt8) (ms : List Int) (E : Nat) (hx : IsCT n t q s x ms E) : Came n t q s (turnL n t q b L x (tkL n s q b d L)) (cubI n ms t) (E + (q % (t : Int)).toNat + tnN n L b) := by
  cases h : fitsB t q ((E + (q % (t : Int)).toNat + tnN n L b : Nat) : Int) with
  | true => exact Or.inl ⟨h, turn_ct p.nt q b p.q1 p.q2 hb hb2 L hL s x d ms E hx h⟩
  | false =>
    refine Or.inr ⟨h, ?_⟩
    unfold turnL tellL
    rw [hx.bound, if_neg (by show ¬ fitsB t q ((E + (q % (t : Int)).toNat + tnN n L b : Nat) : Int) = true; rw [h]; decide)]

theorem tk_size (n : Nat) (ss : List Int) (q b : Int) (l : List UInt8) (L : Nat) (hn : n ≤ 16) (hL : L ≤ 30) : (⟨(tkL n ss q b l L).toArray⟩ : ByteArray).size ≤ maxLen := by
  show (tkL n ss q b l L).toArray.size ≤ _
  have h1 : 8 * n * L ≤ 128 * 30 := Nat.mul_le_mul (by omega) hL
  rw [List.size_toArray, tkL_length]; unfold maxLen; omega

theorem key_size (l : List UInt8) (n : Nat) (hn : n ≤ 16) : (⟨(keyL l n).toArray⟩ : ByteArray).size ≤ maxLen := by
  show (keyL l n).toArray.size ≤ _
  rw [List.size_toArray, keyL_length]; unfold maxLen; omega

end Go.Proofs.YtcjhgbljhpflfabGreat
