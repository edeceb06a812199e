/-
  The finitely many good pairs N, T, and what holds of each: reckoned by the kernel. No program here.
  The elimination over the points' powers, for the finitely many good pairs: reckoned by the kernel. No program here.
  What holds of the good pairs, in whole numbers; sums; the two ways from slots to coefficients. No program here.
  From slots to coefficients, by the crosswise sums and by elimination: they come to the same. No program here.
  Horner's rule is the sum of the terms. No program here.
  Sums, multiples and products of polynomials modulo q, xs lists. No program here.
-/
import Derived.Test.YtcjhgbljhpflfabGreatMath
namespace Go.Proofs.YtcjhgbljhpflfabGreat

/-- the least z with z^n = -1 modulo t -/
def rootN (n t : Nat) : Nat := ((List.range t).find? fun z => Nat.beq (z ^ n % t) (t - 1)).getD 0

/-- z cubed again and again -/
def cubeN (t z : Nat) : Nat → Nat
  | 0 => z
  | k + 1 => cubeN t z k ^ 3 % t

/-- point j, in the order of the slots -/
def ptN (n t j : Nat) : Nat := if Nat.blt j (n / 2) then cubeN t (rootN n t) j else cubeN t (rootN n t) (j - n / 2) ^ (t - 2) % t

def sumN (f : Nat → Nat) : Nat → Nat
  | 0 => 0
  | k + 1 => sumN f k + f k

/-- the least root is one, and the least -/
def chkRoot (n t : Nat) : Bool := Nat.blt 0 (rootN n t) && Nat.blt (rootN n t) t && Nat.beq (rootN n t ^ n % t) (t - 1) && (List.range (rootN n t)).all fun y => !Nat.beq (y ^ n % t) (t - 1)

/-- the points' powers, summed crosswise -/
def chkOrth (n t : Nat) : Bool :=
  (List.range n).all fun j => (List.range n).all fun k =>
    Nat.beq (sumN (fun i => ptN n t j ^ i * (ptN n t k ^ (2 * n - i) % t)) n * (n ^ (t - 2) % t) % t) (if j = k then 1 else 0)

/-- all points lie from 1 on below t -/
def chkPts (n t : Nat) : Bool := (List.range n).all fun j => Nat.blt 0 (ptN n t j) && Nat.blt (ptN n t j) t

def goodPairs : List (Nat × Nat) := [4, 8, 16].flatMap fun n => ((List.range 1022).filter fun t => Nat.beq (t % (2 * n)) 1 && prmB (t : Int)).map fun t => (n, t)

theorem mem_good {n t : Nat} (hn : n = 4 ∨ n = 8 ∨ n = 16) (ht : t ≤ 1021) (hm : t % (2 * n) = 1) (hp : prmB t = true) : (n, t) ∈ goodPairs := by
  unfold goodPairs
  rw [List.mem_flatMap]
  refine ⟨n, by simp; omega, ?_⟩
  rw [List.mem_map]
  refine ⟨t, ?_, rfl⟩
  rw [List.mem_filter]
  refine ⟨by simp; omega, ?_⟩
  rw [hm, hp]
  rfl

set_option maxRecDepth 100000 in
theorem all_root : goodPairs.all (fun p => chkRoot p.1 p.2) = true := by decide +kernel
set_option maxRecDepth 100000 in
theorem all_orth : goodPairs.all (fun p => chkOrth p.1 p.2) = true := by decide +kernel
set_option maxRecDepth 100000 in
theorem all_pts : goodPairs.all (fun p => chkPts p.1 p.2) = true := by decide +kernel

end Go.Proofs.YtcjhgbljhpflfabGreat

namespace Go.Proofs.YtcjhgbljhpflfabGreat

def at2 (E : List (List Nat)) (j c : Nat) : Nat := (E.getD j []).getD c 0

def tabN (n m : Nat) (f : Nat → Nat → Nat) : List (List Nat) := (List.range n).map fun j => (List.range m).map fun c => f j c

theorem at2_tab (n m : Nat) (f : Nat → Nat → Nat) (j c : Nat) (hj : j < n) (hc : c < m) : at2 (tabN n m f) j c = f j c := by
  unfold at2 tabN
  simp [List.getD_eq_getElem?_getD, hj, hc]

/-- from row k on: the first row whose place i is not 0 -/
def pivN (E : List (List Nat)) (i : Nat) : Nat → Nat → Nat
  | 0, k => k
  | f + 1, k => if Nat.beq (at2 E k i) 0 then pivN E i f (k + 1) else k

theorem pivN_ge (E : List (List Nat)) (i f k : Nat) : k ≤ pivN E i f k := by
  induction f generalizing k with
  | zero => exact Nat.le_refl _
  | succ f ih =>
    simp only [pivN]
    split
    · exact Nat.le_trans (Nat.le_succ _) (ih _)
    · exact Nat.le_refl _

theorem pivN_zero (E : List (List Nat)) (i f k j : Nat) (h1 : k ≤ j) (h2 : j < pivN E i f k) : at2 E j i = 0 := by
  induction f generalizing k with
  | zero => simp only [pivN] at h2; omega
  | succ f ih =>
    simp only [pivN] at h2
    split at h2
    · rename_i hb
      by_cases e : j = k
      · subst e; exact Nat.eq_of_beq_eq_true hb
      · exact ih (k + 1) (by omega) h2
    · omega

def stepE (n t i : Nat) (E : List (List Nat)) (k o : Nat) : List (List Nat) :=
  tabN n n fun j c => if Nat.beq j i then at2 E k c * o % t else (at2 E (if Nat.beq j k then i else j) c + t * t - at2 E (if Nat.beq j k then i else j) i * (at2 E k c * o % t)) % t

def elimN (n t : Nat) : Nat → List (List Nat)
  | 0 => tabN n n fun j c => ptN n t j ^ c % t
  | i + 1 => stepE n t i (elimN n t i) (pivN (elimN n t i) i (n - i) i) (at2 (elimN n t i) (pivN (elimN n t i) i (n - i) i) i ^ (t - 2) % t)

def chkElim (n t : Nat) : Bool :=
  ((List.range n).all fun i => Nat.blt (pivN (elimN n t i) i (n - i) i) n && !Nat.beq (at2 (elimN n t i) (pivN (elimN n t i) i (n - i) i) i) 0) &&
  ((List.range n).all fun j => (List.range n).all fun c => Nat.beq (at2 (elimN n t n) j c) (if j = c then 1 else 0))

set_option maxRecDepth 100000 in
theorem all_elim : goodPairs.all (fun p => chkElim p.1 p.2) = true := by decide +kernel

end Go.Proofs.YtcjhgbljhpflfabGreat

namespace Go.Proofs.YtcjhgbljhpflfabGreat

/-- a good pair -/
structure NT (n t : Nat) : Prop where
  hn : n = 4 ∨ n = 8 ∨ n = 16
  ht : t ≤ 1021
  hm : t % (2 * n) = 1
  hp : prmB (t : Int) = true

theorem NT.t3 {n t : Nat} (h : NT n t) : 9 ≤ t := by
  have h1 := prmB_ge h.hp
  have h2 := h.hm
  rcases h.hn with rfl | rfl | rfl <;> omega

theorem NT.mem {n t : Nat} (h : NT n t) : (n, t) ∈ goodPairs := mem_good h.hn h.ht h.hm h.hp

theorem goodB_NT {n t q b : Int} (h : goodB n t q b = true) : NT n.toNat t.toNat ∧ n = (n.toNat : Int) ∧ t = (t.toNat : Int) ∧ 2 ≤ q ∧ q ≤ 1073741823 ∧ 1 ≤ b ∧ b ≤ 8 ∧ fitsB t q 2 = true := by
  simp [goodB] at h
  obtain ⟨⟨⟨⟨⟨⟨⟨⟨h1, h2⟩, h3⟩, h4⟩, h5⟩, h6⟩, h7⟩, h8⟩, h9⟩ := h
  have ht := prmB_ge h4
  have e1 : n = (n.toNat : Int) := by omega
  have e2 : t = (t.toNat : Int) := by omega
  refine ⟨⟨by omega, by omega, ?_, ?_⟩, e1, e2, h5, h6, h7, h8, h9⟩
  · rcases h1 with rfl | rfl | rfl <;> simp <;> omega
  · rw [← e2]; exact h4

theorem blt_iff {a b : Nat} : Nat.blt a b = true ↔ a < b := by rw [Nat.blt_eq]

/-- point j -/
def pI (n t j : Nat) : Int := (ptN n t j : Int)

theorem chk_of {f : Nat → Nat → Bool} (h : goodPairs.all (fun p => f p.1 p.2) = true) {n t : Nat} (g : NT n t) : f n t = true := List.all_eq_true.1 h _ g.mem

theorem cast_pow_mod (a k t : Nat) : ((a ^ k % t : Nat) : Int) = (a : Int) ^ k % (t : Int) := by
  rw [Int.natCast_emod, Int.natCast_pow]

theorem root_facts {n t : Nat} (g : NT n t) : 1 ≤ (rootN n t : Int) ∧ (rootN n t : Int) < t ∧ (rootN n t : Int) ^ n % (t : Int) = (t : Int) - 1 ∧ ∀ x : Int, 1 ≤ x → x < (rootN n t : Int) → x ^ n % (t : Int) ≠ (t : Int) - 1 := by
  have h := chk_of all_root g
  simp only [chkRoot, Bool.and_eq_true] at h
  obtain ⟨⟨⟨h1, h2⟩, h3⟩, h4⟩ := h
  have h1 := blt_iff.1 h1
  have h2 := blt_iff.1 h2
  have h3 := Nat.eq_of_beq_eq_true h3
  have ht := g.t3
  refine ⟨by omega, by omega, ?_, ?_⟩
  · rw [← cast_pow_mod, h3]; omega
  · intro x hx1 hx2 hx
    obtain ⟨m, rfl⟩ := Int.eq_ofNat_of_zero_le (a := x) (by omega)
    have h5 := List.all_eq_true.1 h4 m (by simp; omega)
    have h6 : m ^ n % t = t - 1 := by
      rw [← cast_pow_mod] at hx
      omega
    rw [h6] at h5
    simp at h5

theorem pI_bounds {n t : Nat} (g : NT n t) (j : Nat) (hj : j < n) : 1 ≤ pI n t j ∧ pI n t j < t := by
  have h := chk_of all_pts g
  have h2 := List.all_eq_true.1 h j (by simpa using hj)
  simp only [Bool.and_eq_true] at h2
  have h3 := blt_iff.1 h2.1
  have h4 := blt_iff.1 h2.2
  unfold pI
  omega

theorem pI_inv {n t : Nat} (g : NT n t) (j : Nat) (hj : j < n / 2) : pI n t (n / 2 + j) = pI n t j ^ ((t : Int) - 2).toNat % (t : Int) := by
  have ht := g.t3
  unfold pI ptN
  have h1 : ¬ Nat.blt (n / 2 + j) (n / 2) = true := by rw [blt_iff]; omega
  rw [if_neg h1, if_pos (blt_iff.2 hj), Nat.add_sub_cancel_left, cast_pow_mod]
  congr 2
  omega

/-- sums -/
def sumI (f : Nat → Int) : Nat → Int
  | 0 => 0
  | k + 1 => sumI f k + f k

theorem sumI_congr {f h : Nat → Int} {n : Nat} (e : ∀ i, i < n → f i = h i) : sumI f n = sumI h n := by
  induction n with
  | zero => rfl
  | succ n ih => simp only [sumI]; rw [ih (fun i hi => e i (by omega)), e n (by omega)]

theorem sumI_mod {f h : Nat → Int} {n : Nat} (t : Int) (e : ∀ i, i < n → f i % t = h i % t) : sumI f n % t = sumI h n % t := by
  induction n with
  | zero => rfl
  | succ n ih =>
    simp only [sumI]
    rw [← add_mod_left, ← add_mod_right, ih (fun i hi => e i (by omega)), e n (by omega), add_mod_right, add_mod_left]

theorem sumI_add (f h : Nat → Int) (n : Nat) : sumI (fun i => f i + h i) n = sumI f n + sumI h n := by
  induction n with
  | zero => rfl
  | succ n ih => simp only [sumI]; rw [ih]; omega

theorem sumI_mul (c : Int) (f : Nat → Int) (n : Nat) : sumI (fun i => c * f i) n = c * sumI f n := by
  induction n with
  | zero => simp [sumI]
  | succ n ih => simp only [sumI]; rw [ih, Int.mul_add]

theorem sumI_zero (n : Nat) : sumI (fun _ => 0) n = 0 := by
  induction n with
  | zero => rfl
  | succ n ih => simp only [sumI]; rw [ih]; rfl

theorem sumI_comm (f : Nat → Nat → Int) (n m : Nat) : sumI (fun i => sumI (fun k => f i k) m) n = sumI (fun k => sumI (fun i => f i k) n) m := by
  induction n with
  | zero => simp only [sumI]; rw [sumI_zero]
  | succ n ih =>
    simp only [sumI]
    rw [ih, ← sumI_add]

/-- only place j counts -/
theorem sumI_one (f : Nat → Int) (j n : Nat) (hj : j < n) (h : ∀ i, i < n → i ≠ j → f i = 0) : sumI f n = f j := by
  induction n with
  | zero => omega
  | succ n ih =>
    simp only [sumI]
    by_cases e : j = n
    · subst e
      have : sumI f j = 0 := by rw [← sumI_zero j]; exact sumI_congr fun i hi => h i (by omega) (by omega)
      omega
    · rw [ih (by omega) (fun i hi => h i (by omega)), h n (by omega) (by omega)]; omega

theorem cast_sumN (f : Nat → Nat) (n : Nat) : ((sumN f n : Nat) : Int) = sumI (fun i => (f i : Int)) n := by
  induction n with
  | zero => rfl
  | succ n ih => simp only [sumN, sumI]; rw [Int.natCast_add, ih]

/-- one over N -/
def overN (n t : Nat) : Int := (n : Int) ^ ((t : Int) - 2).toNat % (t : Int)

theorem orth_fact {n t : Nat} (g : NT n t) (j k : Nat) (hj : j < n) (hk : k < n) :
    sumI (fun i => pI n t j ^ i * (pI n t k ^ (2 * n - i) % (t : Int))) n * overN n t % (t : Int) = if j = k then 1 else 0 := by
  have ht := g.t3
  have h := chk_of all_orth g
  have h2 := List.all_eq_true.1 (List.all_eq_true.1 h j (by simpa using hj)) k (by simpa using hk)
  have h3 := Nat.eq_of_beq_eq_true h2
  have e : ((t : Int) - 2).toNat = t - 2 := by omega
  have h4 := congrArg (fun x : Nat => (x : Int)) h3
  simp only [Int.natCast_emod, Int.natCast_mul, cast_sumN, Int.natCast_pow] at h4
  unfold overN pI
  rw [e, h4]
  split <;> rfl

end Go.Proofs.YtcjhgbljhpflfabGreat

namespace Go.Proofs.YtcjhgbljhpflfabGreat

/-- slot j of the polynomial cs -/
def valI (n t : Nat) (cs : List Int) (j : Nat) : Int := sumI (fun i => cs.getD i 0 * pI n t j ^ i) n % (t : Int)
def decI (n t : Nat) (cs : List Int) : List Int := (List.range n).map (valI n t cs)

/-- coefficient i of the polynomial with the slots ss -/
def encC (n t : Nat) (ss : List Int) (i : Nat) : Int := sumI (fun k => ss.getD k 0 * (pI n t k ^ (2 * n - i) % (t : Int))) n % (t : Int) * overN n t % (t : Int)
def encI (n t : Nat) (ss : List Int) : List Int := (List.range n).map (encC n t ss)

theorem getD_range {f : Nat → Int} {n i : Nat} (h : i < n) : ((List.range n).map f).getD i 0 = f i := by
  simp [List.getD_eq_getElem?_getD, h]

theorem encC_bounds {n t : Nat} (g : NT n t) (ss : List Int) (i : Nat) : 0 ≤ encC n t ss i ∧ encC n t ss i < t := by
  have ht := g.t3
  exact ⟨Int.emod_nonneg _ (by omega), Int.emod_lt_of_pos _ (by omega)⟩

theorem valI_bounds {n t : Nat} (g : NT n t) (ss : List Int) (i : Nat) : 0 ≤ valI n t ss i ∧ valI n t ss i < t := by
  have ht := g.t3
  exact ⟨Int.emod_nonneg _ (by omega), Int.emod_lt_of_pos _ (by omega)⟩

/-- the polynomial that is given has these slots -/
theorem enc_solves {n t : Nat} (g : NT n t) (ss : List Int) (j : Nat) (hj : j < n) :
    sumI (fun i => pI n t j ^ i * encC n t ss i) n % (t : Int) = ss.getD j 0 % (t : Int) := by
  have h1 : sumI (fun i => pI n t j ^ i * encC n t ss i) n % (t : Int)
      = sumI (fun i => sumI (fun k => ss.getD k 0 * (pI n t j ^ i * (pI n t k ^ (2 * n - i) % (t : Int)) * overN n t)) n) n % (t : Int) := by
    refine sumI_mod _ fun i _ => ?_
    unfold encC
    rw [mul_mod_right, ← mul_mod_right, mul_mod_left, mul_mod_right]
    have e : ∀ k, ss.getD k 0 * (pI n t j ^ i * (pI n t k ^ (2 * n - i) % (t : Int)) * overN n t) = (pI n t j ^ i * overN n t) * (ss.getD k 0 * (pI n t k ^ (2 * n - i) % (t : Int))) := fun k => by
      generalize pI n t j ^ i = a
      generalize pI n t k ^ (2 * n - i) % (t : Int) = b
      generalize overN n t = c
      generalize ss.getD k 0 = d
      rw [Int.mul_right_comm a b c, Int.mul_left_comm d]
    simp only [e, sumI_mul]
    rw [Int.mul_right_comm, ← Int.mul_assoc]
  rw [h1, sumI_comm]
  have h2 : sumI (fun k => sumI (fun i => ss.getD k 0 * (pI n t j ^ i * (pI n t k ^ (2 * n - i) % (t : Int)) * overN n t)) n) n % (t : Int)
      = sumI (fun k => ss.getD k 0 * (if j = k then 1 else 0)) n % (t : Int) := by
    refine sumI_mod _ fun k hk => ?_
    have e : ∀ i, pI n t j ^ i * (pI n t k ^ (2 * n - i) % (t : Int)) * overN n t = overN n t * (pI n t j ^ i * (pI n t k ^ (2 * n - i) % (t : Int))) := fun i => Int.mul_comm _ _
    simp only [e, sumI_mul]
    rw [Int.mul_comm (overN n t), ← mul_mod_right, orth_fact g j k hj hk]
  rw [h2, sumI_one _ j n hj fun i _ hne => by rw [if_neg (fun c => hne c.symm), Int.mul_zero]]
  rw [if_pos rfl, Int.mul_one]

/-- what a step of the elimination makes of a matrix -/
def stepA (A : Nat → Nat → Int) (i k : Nat) (o t : Int) (j c : Nat) : Int :=
  if j = i then A k c * o % t else (A (if j = k then i else j) c - A (if j = k then i else j) i * (A k c * o % t)) % t

structure Elim (n t : Nat) (x : Nat → Int) (i : Nat) (A : Nat → Nat → Int) : Prop where
  left : ∀ j c, j < n → c < n → A j c = (at2 (elimN n t i) j c : Int)
  row : ∀ j, j < n → sumI (fun c => A j c * x c) n % (t : Int) = A j n % (t : Int)
  bnd : ∀ j c, j < n → c ≤ n → 0 ≤ A j c ∧ A j c < (t : Int)

def pivK (n t i : Nat) : Nat := pivN (elimN n t i) i (n - i) i

theorem piv_facts {n t : Nat} (g : NT n t) {x : Nat → Int} {i : Nat} {A : Nat → Nat → Int} (h : Elim n t x i A) (hi : i < n) :
    i ≤ pivK n t i ∧ pivK n t i < n ∧ 1 ≤ A (pivK n t i) i ∧ ∀ j, i ≤ j → j < pivK n t i → A j i = 0 := by
  have hc := chk_of all_elim g
  simp only [chkElim, Bool.and_eq_true] at hc
  have h1 := List.all_eq_true.1 hc.1 i (by simpa using hi)
  simp only [Bool.and_eq_true] at h1
  have h2 : pivK n t i < n := blt_iff.1 h1.1
  have h3 : at2 (elimN n t i) (pivK n t i) i ≠ 0 := by
    intro e
    have h4 := h1.2
    unfold pivK at e
    rw [e] at h4
    simp at h4
  refine ⟨pivN_ge _ _ _ _, h2, ?_, ?_⟩
  · rw [h.left _ _ h2 hi]; omega
  · intro j hj1 hj2
    rw [h.left _ _ (by omega) hi, pivN_zero _ _ _ _ _ hj1 hj2]
    rfl

theorem Elim.step {n t : Nat} (g : NT n t) {x : Nat → Int} {i : Nat} {A : Nat → Nat → Int} (h : Elim n t x i A) (hi : i < n) :
    Elim n t x (i + 1) (stepA A i (pivK n t i) (A (pivK n t i) i ^ ((t : Int) - 2).toNat % (t : Int)) t) := by
  obtain ⟨hk1, hk2, hk3, hk4⟩ := piv_facts g h hi
  have ht := g.t3
  have e2 : ((t : Int) - 2).toNat = t - 2 := by omega
  have hp := h.row _ hk2
  generalize ho : A (pivK n t i) i ^ ((t : Int) - 2).toNat % (t : Int) = o
  have hpr : sumI (fun c => A (pivK n t i) c * o % (t : Int) * x c) n % (t : Int) = A (pivK n t i) n * o % (t : Int) := by
    have e : sumI (fun c => A (pivK n t i) c * o % (t : Int) * x c) n % (t : Int) = sumI (fun c => o * (A (pivK n t i) c * x c)) n % (t : Int) := by
      refine sumI_mod _ fun c _ => ?_
      rw [mul_mod_left, Int.mul_comm _ o, Int.mul_assoc]
    rw [e, sumI_mul, ← mul_mod_right, hp, mul_mod_right, Int.mul_comm]
  have hs : ∀ j, j < n → (if j = pivK n t i then i else j) < n := fun j hj => by split <;> omega
  refine ⟨?_, ?_, ?_⟩
  · intro j c hj hc
    have hl1 := h.left _ c hk2 hc
    have hl2 := h.left _ c (hs j hj) hc
    have hl3 := h.left _ i (hs j hj) hi
    have ho2 : o = ((at2 (elimN n t i) (pivK n t i) i ^ (t - 2) % t : Nat) : Int) := by
      rw [← ho, h.left _ _ hk2 hi, e2, cast_pow_mod]
    show stepA A i (pivK n t i) o t j c = ((at2 (stepE n t i (elimN n t i) (pivK n t i) (at2 (elimN n t i) (pivK n t i) i ^ (t - 2) % t)) j c : Nat) : Int)
    unfold stepE
    rw [at2_tab _ _ _ _ _ hj hc]
    unfold stepA
    by_cases e : j = i
    · subst e
      rw [if_pos rfl, if_pos (Nat.beq_refl j), hl1, ho2, ← Int.natCast_mul, ← Int.natCast_emod]
    · have e' : ¬ Nat.beq j i = true := fun c => e (Nat.eq_of_beq_eq_true c)
      rw [if_neg e, if_neg e']
      have e3 : (if Nat.beq j (pivK n t i) = true then i else j) = (if j = pivK n t i then i else j) := by
        by_cases e4 : j = pivK n t i
        · rw [if_pos e4, e4, if_pos (Nat.beq_refl _)]
        · rw [if_neg e4, if_neg (fun c => e4 (Nat.eq_of_beq_eq_true c))]
      rw [e3, hl2, hl3, hl1, ho2, ← Int.natCast_mul, ← Int.natCast_emod, ← Int.natCast_mul]
      generalize hf : at2 (elimN n t i) (if j = pivK n t i then i else j) i = f
      have hfb : f < t := by
        have := (h.bnd _ i (hs j hj) (by omega)).2
        rw [hl3, hf] at this
        omega
      generalize at2 (elimN n t i) (if j = pivK n t i then i else j) c = a
      have hpb : at2 (elimN n t i) (pivK n t i) c * (at2 (elimN n t i) (pivK n t i) i ^ (t - 2) % t) % t < t := Nat.mod_lt _ (by omega)
      generalize at2 (elimN n t i) (pivK n t i) c * (at2 (elimN n t i) (pivK n t i) i ^ (t - 2) % t) % t = p at hpb
      have hfp : f * p ≤ t * t := Nat.mul_le_mul (by omega) (by omega)
      have e5 : ((a + t * t - f * p : Nat) : Int) = ((a : Int) - ((f * p : Nat) : Int)) + (t : Int) * (t : Int) := by
        rw [Int.natCast_sub (by omega), Int.natCast_add, Int.natCast_mul t t]
        omega
      rw [Int.natCast_emod, e5, Int.add_mul_emod_self_left]
  · intro j hj
    unfold stepA
    by_cases e : j = i
    · simp only [if_pos e]
      rw [hpr, Int.emod_emod_of_dvd _ (Int.dvd_refl _)]
    · simp only [if_neg e]
      have hr := h.row _ (hs j hj)
      generalize (if j = pivK n t i then i else j) = s at hr
      rw [Int.emod_emod_of_dvd _ (Int.dvd_refl _)]
      have e6 : sumI (fun c => (A s c - A s i * (A (pivK n t i) c * o % (t : Int))) % (t : Int) * x c) n % (t : Int)
          = sumI (fun c => A s c * x c + (- A s i) * (A (pivK n t i) c * o % (t : Int) * x c)) n % (t : Int) := by
        refine sumI_mod _ fun c _ => ?_
        rw [mul_mod_left, Int.sub_mul, Int.neg_mul, Int.mul_assoc (A s i)]
        rfl
      rw [e6, sumI_add, sumI_mul, ← add_mod_left, hr, add_mod_left, ← add_mod_right, ← mul_mod_right, hpr, add_mod_right, Int.neg_mul]
      rfl
  · intro j c _ _
    unfold stepA
    split
    · exact ⟨Int.emod_nonneg _ (by omega), Int.emod_lt_of_pos _ (by omega)⟩
    · exact ⟨Int.emod_nonneg _ (by omega), Int.emod_lt_of_pos _ (by omega)⟩

theorem Elim.end {n t : Nat} (g : NT n t) {x : Nat → Int} {A : Nat → Nat → Int} (h : Elim n t x n A) (hx : ∀ j, j < n → 0 ≤ x j ∧ x j < (t : Int)) (j : Nat) (hj : j < n) : A j n = x j := by
  have hc := chk_of all_elim g
  simp only [chkElim, Bool.and_eq_true] at hc
  have hr := h.row j hj
  rw [sumI_one _ j n hj ?_] at hr
  · have e1 := List.all_eq_true.1 (List.all_eq_true.1 hc.2 j (by simpa using hj)) j (by simpa using hj)
    have e2 := Nat.eq_of_beq_eq_true e1
    rw [if_pos rfl] at e2
    rw [h.left j j hj hj, e2] at hr
    have hb := h.bnd j n hj (Nat.le_refl n)
    rw [Int.emod_eq_of_lt hb.1 hb.2] at hr
    rw [← hr]
    show (1 : Int) * x j % (t : Int) = x j
    rw [Int.one_mul, Int.emod_eq_of_lt (hx j hj).1 (hx j hj).2]
  · intro c hcn hne
    have e1 := List.all_eq_true.1 (List.all_eq_true.1 hc.2 j (by simpa using hj)) c (by simpa using hcn)
    have e2 := Nat.eq_of_beq_eq_true e1
    rw [if_neg (fun e => hne e.symm)] at e2
    show A j c * x c = 0
    rw [h.left j c hj hcn, e2]
    simp

end Go.Proofs.YtcjhgbljhpflfabGreat

namespace Go.Proofs.YtcjhgbljhpflfabGreat

theorem sumI_shift (f : Nat → Int) (n : Nat) : sumI f (n + 1) = f 0 + sumI (fun i => f (i + 1)) n := by
  induction n with
  | zero => simp [sumI]
  | succ n ih =>
    rw [sumI, ih]
    simp only [sumI]
    omega

theorem horner_sum (x : Int) (xs : List Int) : horner x xs = sumI (fun i => xs.getD i 0 * x ^ i) xs.length := by
  induction xs with
  | nil => rfl
  | cons c cs ih =>
    rw [List.length_cons, sumI_shift]
    simp only [horner, ih, List.getD_cons_zero, List.getD_cons_succ, Int.pow_zero, Int.mul_one]
    rw [← sumI_mul]
    congr 1
    refine sumI_congr fun i _ => ?_
    rw [Int.pow_succ, Int.mul_comm (x ^ i) x, Int.mul_left_comm]

theorem horner_drop (x : Int) (xs : List Int) (k : Nat) (h : k < xs.length) : horner x (xs.drop k) = xs.getD k 0 + x * horner x (xs.drop (k + 1)) := by
  rw [List.drop_eq_getElem_cons h, horner, List.getD_eq_getElem?_getD, List.getElem?_eq_getElem h]
  rfl

theorem horner_step (x t : Int) (xs : List Int) (k : Nat) (h : k < xs.length) : (horner x (xs.drop (k + 1)) % t * x + xs.getD k 0) % t = horner x (xs.drop k) % t := by
  rw [horner_drop x xs k h, ← add_mod_left, mul_mod_left, add_mod_left, Int.mul_comm, Int.add_comm]

end Go.Proofs.YtcjhgbljhpflfabGreat

namespace Go.Proofs.YtcjhgbljhpflfabGreat

def plusC (xs ys : List Int) (q : Int) (i : Nat) : Int := (xs.getD i 0 + ys.getD i 0) % q
def plusI (n : Nat) (xs ys : List Int) (q : Int) : List Int := (List.range n).map (plusC xs ys q)

def scaledC (xs : List Int) (k q : Int) (i : Nat) : Int := k * xs.getD i 0 % q
def scaledI (n : Nat) (xs : List Int) (k q : Int) : List Int := (List.range n).map (scaledC xs k q)

/-- what term i gives to coefficient k of a product, x^n being -1 -/
def negT (n : Nat) (xs ys : List Int) (k i : Nat) : Int := if i ≤ k then xs.getD i 0 * ys.getD (k - i) 0 else -(xs.getD i 0 * ys.getD (n + k - i) 0)
def timesC (n : Nat) (xs ys : List Int) (q : Int) (k : Nat) : Int := sumI (negT n xs ys k) n % q
def timesI (n : Nat) (xs ys : List Int) (q : Int) : List Int := (List.range n).map (timesC n xs ys q)

theorem map_range_succ (f : Nat → Int) (k : Nat) : (List.range (k + 1)).map f = (List.range k).map f ++ [f k] := by
  rw [List.range_succ, List.map_append, List.map_singleton]

theorem sub_mod_right (a b q : Int) : (a - b % q) % q = (a - b) % q := by
  rw [Int.sub_emod, Int.emod_emod_of_dvd _ (Int.dvd_refl q), ← Int.sub_emod]

theorem sub_mod_left (a b q : Int) : (a % q - b) % q = (a - b) % q := by
  rw [Int.sub_emod, Int.emod_emod_of_dvd _ (Int.dvd_refl q), ← Int.sub_emod]

theorem mod_bounds {q : Int} (hq : 0 < q) (a : Int) : 0 ≤ a % q ∧ a % q < q := ⟨Int.emod_nonneg _ (by omega), Int.emod_lt_of_pos _ hq⟩

end Go.Proofs.YtcjhgbljhpflfabGreat
