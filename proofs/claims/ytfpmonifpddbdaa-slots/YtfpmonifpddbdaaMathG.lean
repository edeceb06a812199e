/-
  What holds of the good pairs, in whole numbers; sums; the two ways from slots to coefficients. No program here.
-/
import Derived.Test.YtfpmonifpddbdaaMathE
namespace Go.Proofs.Ytfpmonifpddbdaa

/-- a good pair -/
structure NT (n t : Nat) : Prop where
  hn : n = 4 ∨ n = 8 ∨ n = 16
  ht : t ≤ 1021
  hm : t % (2 * n) = 1
  hp : prmB (t : Int) = true

theorem NT.t3 {n t : Nat} (h : NT n t) : 9 ≤ t := by
  have h1 := prmB_ge h.hp
  have h2 := h.hm
  rcases h.hn with rfl | rfl | rfl <;> omega

theorem NT.mem {n t : Nat} (h : NT n t) : (n, t) ∈ goodPairs := mem_good h.hn h.ht h.hm h.hp

theorem goodB_NT {n t q b : Int} (h : goodB n t q b = true) : NT n.toNat t.toNat ∧ n = (n.toNat : Int) ∧ t = (t.toNat : Int) ∧ 2 ≤ q ∧ q ≤ 1073741823 ∧ 1 ≤ b ∧ b ≤ 8 ∧ fitsB t q 2 = true := by
  simp [goodB] at h
  obtain ⟨⟨⟨⟨⟨⟨⟨⟨h1, h2⟩, h3⟩, h4⟩, h5⟩, h6⟩, h7⟩, h8⟩, h9⟩ := h
  have ht := prmB_ge h4
  have e1 : n = (n.toNat : Int) := by omega
  have e2 : t = (t.toNat : Int) := by omega
  refine ⟨⟨by omega, by omega, ?_, ?_⟩, e1, e2, h5, h6, h7, h8, h9⟩
  · rcases h1 with rfl | rfl | rfl <;> simp <;> omega
  · rw [← e2]; exact h4

theorem blt_iff {a b : Nat} : Nat.blt a b = true ↔ a < b := by rw [Nat.blt_eq]

/-- point j -/
def pI (n t j : Nat) : Int := (ptN n t j : Int)

theorem chk_of {f : Nat → Nat → Bool} (h : goodPairs.all (fun p => f p.1 p.2) = true) {n t : Nat} (g : NT n t) : f n t = true := List.all_eq_true.1 h _ g.mem

theorem cast_pow_mod (a k t : Nat) : ((a ^ k % t : Nat) : Int) = (a : Int) ^ k % (t : Int) := by
  rw [Int.natCast_emod, Int.natCast_pow]

theorem root_facts {n t : Nat} (g : NT n t) : 1 ≤ (rootN n t : Int) ∧ (rootN n t : Int) < t ∧ (rootN n t : Int) ^ n % (t : Int) = (t : Int) - 1 ∧ ∀ x : Int, 1 ≤ x → x < (rootN n t : Int) → x ^ n % (t : Int) ≠ (t : Int) - 1 := by
  have h := chk_of all_root g
  simp only [chkRoot, Bool.and_eq_true] at h
  obtain ⟨⟨⟨h1, h2⟩, h3⟩, h4⟩ := h
  have h1 := blt_iff.1 h1
  have h2 := blt_iff.1 h2
  have h3 := Nat.eq_of_beq_eq_true h3
  have ht := g.t3
  refine ⟨by omega, by omega, ?_, ?_⟩
  · rw [← cast_pow_mod, h3]; omega
  · intro x hx1 hx2 hx
    obtain ⟨m, rfl⟩ := Int.eq_ofNat_of_zero_le (a := x) (by omega)
    have h5 := List.all_eq_true.1 h4 m (by simp; omega)
    have h6 : m ^ n % t = t - 1 := by
      rw [← cast_pow_mod] at hx
      omega
    rw [h6] at h5
    simp at h5

theorem pI_bounds {n t : Nat} (g : NT n t) (j : Nat) (hj : j < n) : 1 ≤ pI n t j ∧ pI n t j < t := by
  have h := chk_of all_pts g
  have h2 := List.all_eq_true.1 h j (by simpa using hj)
  simp only [Bool.and_eq_true] at h2
  have h3 := blt_iff.1 h2.1
  have h4 := blt_iff.1 h2.2
  unfold pI
  omega

theorem pI_zero {n t : Nat} (g : NT n t) : pI n t 0 = (rootN n t : Int) := by
  have : 0 < n / 2 := by rcases g.hn with rfl | rfl | rfl <;> decide
  unfold pI ptN
  rw [if_pos (blt_iff.2 this)]
  rfl

theorem pI_succ {n t : Nat} (j : Nat) (hj : j + 1 < n / 2) : pI n t (j + 1) = pI n t j ^ 3 % (t : Int) := by
  unfold pI ptN
  rw [if_pos (blt_iff.2 hj), if_pos (blt_iff.2 (by omega)), ← cast_pow_mod]
  rfl

theorem pI_inv {n t : Nat} (g : NT n t) (j : Nat) (hj : j < n / 2) : pI n t (n / 2 + j) = pI n t j ^ ((t : Int) - 2).toNat % (t : Int) := by
  have ht := g.t3
  unfold pI ptN
  have h1 : ¬ Nat.blt (n / 2 + j) (n / 2) = true := by rw [blt_iff]; omega
  rw [if_neg h1, if_pos (blt_iff.2 hj), Nat.add_sub_cancel_left, cast_pow_mod]
  congr 2
  omega

theorem pI_exp {n t : Nat} (g : NT n t) (j : Nat) (hj : j < n / 2) : pI n t j = (rootN n t : Int) ^ expN n j % (t : Int) := by
  have h := chk_of all_exp g
  have h2 := List.all_eq_true.1 h j (by simpa using hj)
  have h3 := Nat.eq_of_beq_eq_true h2
  unfold pI ptN
  rw [if_pos (blt_iff.2 hj), ← cast_pow_mod]
  exact congrArg _ h3

theorem inv_fact {n t : Nat} (g : NT n t) (v : Int) (h1 : 1 ≤ v) (h2 : v < t) : v * (v ^ ((t : Int) - 2).toNat % (t : Int)) % (t : Int) = 1 := by
  have ht := g.t3
  have h := chk_of (f := fun _ t => chkInv t) all_inv g
  obtain ⟨m, rfl⟩ := Int.eq_ofNat_of_zero_le (a := v) (by omega)
  have h3 := List.all_eq_true.1 h m (by simp; omega)
  simp only [Bool.or_eq_true] at h3
  rcases h3 with h3 | h3
  · have := Nat.eq_of_beq_eq_true h3; omega
  · have h4 := Nat.eq_of_beq_eq_true h3
    have e : ((t : Int) - 2).toNat = t - 2 := by omega
    rw [e, ← cast_pow_mod, ← Int.natCast_mul, ← Int.natCast_emod]
    rw [h4]
    rfl

theorem inv_unique {v u w t : Int} (hu : 0 ≤ u) (hu2 : u < t) (hw : 0 ≤ w) (hw2 : w < t) (h1 : v * u % t = 1) (h2 : v * w % t = 1) : u = w := by
  have e1 : u * (v * w) % t = u % t := by rw [← mul_mod_right, h2, Int.mul_one]
  have e2 : w * (v * u) % t = w % t := by rw [← mul_mod_right, h1, Int.mul_one]
  have e3 : u * (v * w) = w * (v * u) := by
    rw [Int.mul_left_comm u v w, Int.mul_left_comm w v u, Int.mul_comm u w]
  rw [Int.emod_eq_of_lt hu hu2] at e1
  rw [Int.emod_eq_of_lt hw hw2] at e2
  exact (e1.symm.trans (congrArg (· % t) e3)).trans e2

/-- sums -/
def sumI (f : Nat → Int) : Nat → Int
  | 0 => 0
  | k + 1 => sumI f k + f k

theorem sumI_congr {f h : Nat → Int} {n : Nat} (e : ∀ i, i < n → f i = h i) : sumI f n = sumI h n := by
  induction n with
  | zero => rfl
  | succ n ih => simp only [sumI]; rw [ih (fun i hi => e i (by omega)), e n (by omega)]

theorem sumI_mod {f h : Nat → Int} {n : Nat} (t : Int) (e : ∀ i, i < n → f i % t = h i % t) : sumI f n % t = sumI h n % t := by
  induction n with
  | zero => rfl
  | succ n ih =>
    simp only [sumI]
    rw [← add_mod_left, ← add_mod_right, ih (fun i hi => e i (by omega)), e n (by omega), add_mod_right, add_mod_left]

theorem sumI_add (f h : Nat → Int) (n : Nat) : sumI (fun i => f i + h i) n = sumI f n + sumI h n := by
  induction n with
  | zero => rfl
  | succ n ih => simp only [sumI]; rw [ih]; omega

theorem sumI_mul (c : Int) (f : Nat → Int) (n : Nat) : sumI (fun i => c * f i) n = c * sumI f n := by
  induction n with
  | zero => simp [sumI]
  | succ n ih => simp only [sumI]; rw [ih, Int.mul_add]

theorem sumI_zero (n : Nat) : sumI (fun _ => 0) n = 0 := by
  induction n with
  | zero => rfl
  | succ n ih => simp only [sumI]; rw [ih]; rfl

theorem sumI_comm (f : Nat → Nat → Int) (n m : Nat) : sumI (fun i => sumI (fun k => f i k) m) n = sumI (fun k => sumI (fun i => f i k) n) m := by
  induction n with
  | zero => simp only [sumI]; rw [sumI_zero]
  | succ n ih =>
    simp only [sumI]
    rw [ih, ← sumI_add]

/-- only place j counts -/
theorem sumI_one (f : Nat → Int) (j n : Nat) (hj : j < n) (h : ∀ i, i < n → i ≠ j → f i = 0) : sumI f n = f j := by
  induction n with
  | zero => omega
  | succ n ih =>
    simp only [sumI]
    by_cases e : j = n
    · subst e
      have : sumI f j = 0 := by rw [← sumI_zero j]; exact sumI_congr fun i hi => h i (by omega) (by omega)
      omega
    · rw [ih (by omega) (fun i hi => h i (by omega)), h n (by omega) (by omega)]; omega

theorem cast_sumN (f : Nat → Nat) (n : Nat) : ((sumN f n : Nat) : Int) = sumI (fun i => (f i : Int)) n := by
  induction n with
  | zero => rfl
  | succ n ih => simp only [sumN, sumI]; rw [Int.natCast_add, ih]

/-- one over N -/
def overN (n t : Nat) : Int := (n : Int) ^ ((t : Int) - 2).toNat % (t : Int)

theorem orth_fact {n t : Nat} (g : NT n t) (j k : Nat) (hj : j < n) (hk : k < n) :
    sumI (fun i => pI n t j ^ i * (pI n t k ^ (2 * n - i) % (t : Int))) n * overN n t % (t : Int) = if j = k then 1 else 0 := by
  have ht := g.t3
  have h := chk_of all_orth g
  have h2 := List.all_eq_true.1 (List.all_eq_true.1 h j (by simpa using hj)) k (by simpa using hk)
  have h3 := Nat.eq_of_beq_eq_true h2
  have e : ((t : Int) - 2).toNat = t - 2 := by omega
  have h4 := congrArg (fun x : Nat => (x : Int)) h3
  simp only [Int.natCast_emod, Int.natCast_mul, cast_sumN, Int.natCast_pow] at h4
  unfold overN pI
  rw [e, h4]
  split <;> rfl

end Go.Proofs.Ytfpmonifpddbdaa
