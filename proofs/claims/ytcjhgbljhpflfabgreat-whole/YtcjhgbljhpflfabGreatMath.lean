/-
  Plain mathematics of good parameters: no program here.
  Plain mathematics: bytes, numbers in texts, powers modulo a number. No program here.
  Plain mathematics: powers by squaring, Horner's rule. No program here.
-/

namespace Go.Proofs.YtcjhgbljhpflfabGreat

/-- no divisor from 2 on below k -/
def NoDiv (n k : Nat) : Prop := ∀ d, 2 ≤ d → d < k → n % d ≠ 0

/-- is n a prime? -/
def prmB (n : Int) : Bool := decide (2 ≤ n) && (List.range n.toNat).all fun d => decide (d < 2) || n.toNat % d != 0

theorem prmB_iff (n : Nat) (h2 : 2 ≤ n) : prmB n = true ↔ NoDiv n n := by
  unfold prmB NoDiv
  have h : decide ((2 : Int) ≤ (n : Int)) = true := by simp; omega
  rw [h]
  simp
  constructor
  · intro h d h1 h2
    have := h d h2
    omega
  · intro h d h1
    by_cases hd : d < 2
    · exact Or.inl hd
    · exact Or.inr (h d (by omega) h1)

theorem prmB_false {n d : Nat} (h : n % d = 0) (h1 : 2 ≤ d) (h2 : d < n) : prmB n = false := by
  rw [Bool.eq_false_iff]
  intro e
  exact (prmB_iff n (by omega)).1 e d h1 h2 h

theorem prmB_small {n : Int} (h : n < 2) : prmB n = false := by
  unfold prmB
  have : decide (2 ≤ n) = false := by simp; omega
  simp [this]

theorem noDiv_two (n : Nat) : NoDiv n 2 := fun d h1 h2 => by omega

theorem noDiv_succ {n k : Nat} (h : NoDiv n k) (hk : n % k ≠ 0) : NoDiv n (k + 1) := fun d h1 h2 => by
  by_cases e : d = k
  · subst e; exact hk
  · exact h d h1 (by omega)

/-- where k is above n over k, no divisor below k is enough -/
theorem noDiv_far {n k : Nat} (hn : 2 ≤ n) (hk : 2 ≤ k) (h : NoDiv n k) (hf : n / k < k) : NoDiv n n := by
  intro d h1 h2 h3
  obtain ⟨e, rfl⟩ := Nat.dvd_of_mod_eq_zero h3
  have he : e ≠ 0 := fun c => by subst c; omega
  have he1 : e ≠ 1 := fun c => by subst c; omega
  have hd : k ≤ d := Nat.le_of_not_lt fun c => h d h1 c h3
  have hek : k ≤ e := Nat.le_of_not_lt fun c => h e (by omega) c (Nat.mul_mod_left d e)
  have h4 : k * k ≤ d * e := Nat.mul_le_mul hd hek
  have h5 : k ≤ d * e / k := (Nat.le_div_iff_mul_le (by omega)).2 h4
  omega

theorem prmB_far {n k : Nat} (hn : 2 ≤ n) (hk : 2 ≤ k) (h : NoDiv n k) (hf : n / k < k) : prmB n = true :=
  (prmB_iff n hn).2 (noDiv_far hn hk h hf)

/-- may e be a bound? -/
def fitsB (t q e : Int) : Bool := decide (2 * (t * e + q % t * (t - 1)) < q)

/-- are the parameters good? -/
def goodB (n t q b : Int) : Bool :=
  decide (n = 4 ∨ n = 8 ∨ n = 16) && decide (t ≤ 1021) && decide (t % (2 * n) = 1) && prmB t && decide (2 ≤ q) && decide (q ≤ 1073741823) && decide (1 ≤ b) && decide (b ≤ 8) && fitsB t q 2

theorem prmB_ge {t : Int} (h : prmB t = true) : 2 ≤ t := by
  unfold prmB at h
  simp at h
  exact h.1

theorem fitsB_far {t q e : Int} (ht : 1 ≤ t) (hq : 0 ≤ q) (he : q ≤ e) : fitsB t q e = false := by
  unfold fitsB
  have h1 := Int.emod_nonneg q (b := t) (by omega)
  have h5 : 0 ≤ q % t * (t - 1) := Int.mul_nonneg h1 (by omega)
  have h3 : 1 * e ≤ t * e := Int.mul_le_mul_of_nonneg_right ht (by omega)
  simp
  omega

theorem goodB_no {n t q b : Int} (h : 1021 < t ∨ t % (2 * n) ≠ 1 ∨ q < 2 ∨ 1073741823 < q ∨ b < 1 ∨ 8 < b) : goodB n t q b = false := by
  rw [Bool.eq_false_iff]
  intro c
  simp [goodB] at c
  omega

theorem goodB_np {n t q b : Int} (h : prmB t = false) : goodB n t q b = false := by
  simp [goodB, h]

theorem goodB_nn {n t q b : Int} (h : ¬ (n = 4 ∨ n = 8 ∨ n = 16)) : goodB n t q b = false := by
  simp [goodB, h]

theorem goodB_yes {n t q b : Int} (hn : n = 4 ∨ n = 8 ∨ n = 16) (hp : prmB t = true) (h : t ≤ 1021 ∧ t % (2 * n) = 1 ∧ 2 ≤ q ∧ q ≤ 1073741823 ∧ 1 ≤ b ∧ b ≤ 8) : goodB n t q b = fitsB t q 2 := by
  obtain ⟨h1, h2, h3, h4, h5, h6⟩ := h
  simp [goodB, hn, hp, h1, h2, h3, h4, h5, h6]

theorem tmod_two (v m : Int) (hm : 0 < m) : (v.tmod m = v % m ∧ 0 ≤ v.tmod m) ∨ (v.tmod m = v % m - m ∧ v.tmod m < 0) := by
  have h1 := Int.emod_nonneg v (b := m) (by omega)
  have h2 := Int.emod_lt_of_pos v hm
  rw [Int.tmod_eq_emod]
  by_cases h : 0 ≤ v ∨ m ∣ v
  · rw [if_pos h]; exact Or.inl (by omega)
  · rw [if_neg h]; exact Or.inr (by omega)

end Go.Proofs.YtcjhgbljhpflfabGreat

namespace Go.Proofs.YtcjhgbljhpflfabGreat

/-- the byte at i; 0 where there is none -/
def byteL (l : List UInt8) (i : Nat) : Nat := (l.getD i 0).toNat

theorem byteL_lt (l : List UInt8) (i : Nat) : byteL l i < 256 := (l.getD i 0).toNat_lt

theorem byteL_out (l : List UInt8) (i : Nat) (h : l.length ≤ i) : byteL l i = 0 := by
  unfold byteL
  rw [List.getD_eq_getElem?_getD, List.getElem?_eq_none h]
  rfl

theorem byteL_in (s : ByteArray) (i : Nat) (h : i < s.size) : byteL s.data.toList i = (s[i]).toNat := by
  unfold byteL
  rw [List.getD_eq_getElem?_getD, List.getElem?_eq_getElem (by simpa using h)]
  rfl

/-- the n bytes at i, as a number -/
def numL (l : List UInt8) (i : Nat) : Nat → Nat
  | 0 => 0
  | n + 1 => 256 * numL l i n + byteL l (i + n)

theorem numL_lt (l : List UInt8) (i n : Nat) : numL l i n < 256 ^ n := by
  induction n with
  | zero => simp [numL]
  | succ n ih =>
    have := byteL_lt l (i + n)
    simp only [numL, Nat.pow_succ]
    omega

theorem numL_le5 (l : List UInt8) (i n : Nat) (h : n ≤ 5) : numL l i n < 1099511627776 := by
  have h1 := numL_lt l i n
  have h2 : 256 ^ n ≤ 256 ^ 5 := Nat.pow_le_pow_right (by omega) h
  have h3 : (256 : Nat) ^ 5 = 1099511627776 := by decide
  omega

end Go.Proofs.YtcjhgbljhpflfabGreat

namespace Go.Proofs.YtcjhgbljhpflfabGreat

theorem mul_mod_left (a b t : Int) : a % t * b % t = a * b % t := by
  rw [Int.mul_emod, Int.emod_emod_of_dvd _ (Int.dvd_refl t), ← Int.mul_emod]

theorem mul_mod_right (a b t : Int) : a * (b % t) % t = a * b % t := by
  rw [Int.mul_comm, mul_mod_left, Int.mul_comm]

theorem add_mod_left (a b t : Int) : (a % t + b) % t = (a + b) % t := Int.emod_add_emod a t b

theorem add_mod_right (a b t : Int) : (a + b % t) % t = (a + b) % t := Int.add_emod_emod a b t

theorem pow_mod_mod (a : Int) (n : Nat) (t : Int) : (a % t) ^ n % t = a ^ n % t := by
  induction n with
  | zero => simp
  | succ n ih => rw [Int.pow_succ, Int.pow_succ, ← mul_mod_left, ih, mul_mod_left, mul_mod_right]

/-- squaring: an even exponent -/
theorem pow_sq (x : Int) (e : Nat) : (x * x) ^ e = x ^ (2 * e) := by
  induction e with
  | zero => simp
  | succ e ih =>
    have h : 2 * (e + 1) = 2 * e + 1 + 1 := by omega
    rw [h, Int.pow_succ, Int.pow_succ, Int.pow_succ, ih, Int.mul_assoc]

/-- one round of power: r x^e stays what it is -/
theorem power_even (r x : Int) (e : Nat) (t : Int) (h : e % 2 = 0) : r * (x * x % t) ^ (e / 2) % t = r * x ^ e % t := by
  rw [← mul_mod_right, pow_mod_mod, mul_mod_right, pow_sq]
  have : 2 * (e / 2) = e := by omega
  rw [this]

theorem power_odd (r x : Int) (e : Nat) (t : Int) (h : e % 2 = 1) : (r * x % t) * (x * x % t) ^ (e / 2) % t = r * x ^ e % t := by
  rw [← mul_mod_right, pow_mod_mod, mul_mod_right, mul_mod_left, pow_sq, Int.mul_assoc]
  have : e = 2 * (e / 2) + 1 := by omega
  have h2 : x * x ^ (2 * (e / 2)) = x ^ e := by
    have h3 : x ^ e = x ^ (2 * (e / 2) + 1) := by rw [← this]
    rw [h3, Int.pow_succ, Int.mul_comm]
  rw [h2]

/-- what a polynomial is at x, by Horner -/
def horner (x : Int) : List Int → Int
  | [] => 0
  | c :: cs => c + x * horner x cs

end Go.Proofs.YtcjhgbljhpflfabGreat
