/-
  Plain mathematics: bytes, numbers in texts, powers modulo a number. No program here.
-/
import Derived.Test.YtfpmonifpddbdaaMath
namespace Go.Proofs.Ytfpmonifpddbdaa

/-- the byte at i; 0 where there is none -/
def byteL (l : List UInt8) (i : Nat) : Nat := (l.getD i 0).toNat

theorem byteL_lt (l : List UInt8) (i : Nat) : byteL l i < 256 := (l.getD i 0).toNat_lt

theorem byteL_out (l : List UInt8) (i : Nat) (h : l.length ≤ i) : byteL l i = 0 := by
  unfold byteL
  rw [List.getD_eq_getElem?_getD, List.getElem?_eq_none h]
  rfl

theorem byteL_in (s : ByteArray) (i : Nat) (h : i < s.size) : byteL s.data.toList i = (s[i]).toNat := by
  unfold byteL
  rw [List.getD_eq_getElem?_getD, List.getElem?_eq_getElem (by simpa using h)]
  rfl

/-- the n bytes at i, as a number -/
def numL (l : List UInt8) (i : Nat) : Nat → Nat
  | 0 => 0
  | n + 1 => 256 * numL l i n + byteL l (i + n)

theorem numL_lt (l : List UInt8) (i n : Nat) : numL l i n < 256 ^ n := by
  induction n with
  | zero => simp [numL]
  | succ n ih =>
    have := byteL_lt l (i + n)
    simp only [numL, Nat.pow_succ]
    omega

theorem numL_le5 (l : List UInt8) (i n : Nat) (h : n ≤ 5) : numL l i n < 1099511627776 := by
  have h1 := numL_lt l i n
  have h2 : 256 ^ n ≤ 256 ^ 5 := Nat.pow_le_pow_right (by omega) h
  have h3 : (256 : Nat) ^ 5 = 1099511627776 := by decide
  omega

theorem pow_mod_succ (v n t : Int) : v ^ n.toNat % t * v % t = v ^ (n.toNat + 1) % t := by
  rw [Int.pow_succ, Int.mul_emod, Int.emod_emod_of_dvd _ (Int.dvd_refl t), ← Int.mul_emod]

theorem pow_mod_step (v : Int) (n : Nat) (t : Int) : v ^ n % t * v % t = v ^ (n + 1) % t := by
  rw [Int.pow_succ, Int.mul_emod, Int.emod_emod_of_dvd _ (Int.dvd_refl t), ← Int.mul_emod]

theorem one_mod (t : Int) (h : 2 ≤ t) : (1 : Int) = 1 % t := (Int.emod_eq_of_lt (by omega) (by omega)).symm

end Go.Proofs.Ytfpmonifpddbdaa
