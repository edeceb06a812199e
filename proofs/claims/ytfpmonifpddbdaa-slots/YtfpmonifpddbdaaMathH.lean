/-
  From slots to coefficients, by the crosswise sums and by elimination: they come to the same. No program here.
-/
import Derived.Test.YtfpmonifpddbdaaMathG
namespace Go.Proofs.Ytfpmonifpddbdaa

/-- slot j of the polynomial cs -/
def valI (n t : Nat) (cs : List Int) (j : Nat) : Int := sumI (fun i => cs.getD i 0 * pI n t j ^ i) n % (t : Int)
def decI (n t : Nat) (cs : List Int) : List Int := (List.range n).map (valI n t cs)

/-- coefficient i of the polynomial with the slots ss -/
def encC (n t : Nat) (ss : List Int) (i : Nat) : Int := sumI (fun k => ss.getD k 0 * (pI n t k ^ (2 * n - i) % (t : Int))) n % (t : Int) * overN n t % (t : Int)
def encI (n t : Nat) (ss : List Int) : List Int := (List.range n).map (encC n t ss)

theorem getD_range {f : Nat → Int} {n i : Nat} (h : i < n) : ((List.range n).map f).getD i 0 = f i := by
  simp [List.getD_eq_getElem?_getD, h]

theorem encC_bounds {n t : Nat} (g : NT n t) (ss : List Int) (i : Nat) : 0 ≤ encC n t ss i ∧ encC n t ss i < t := by
  have ht := g.t3
  exact ⟨Int.emod_nonneg _ (by omega), Int.emod_lt_of_pos _ (by omega)⟩

theorem valI_bounds {n t : Nat} (g : NT n t) (ss : List Int) (i : Nat) : 0 ≤ valI n t ss i ∧ valI n t ss i < t := by
  have ht := g.t3
  exact ⟨Int.emod_nonneg _ (by omega), Int.emod_lt_of_pos _ (by omega)⟩

/-- the polynomial that is given has these slots -/
theorem enc_solves {n t : Nat} (g : NT n t) (ss : List Int) (j : Nat) (hj : j < n) :
    sumI (fun i => pI n t j ^ i * encC n t ss i) n % (t : Int) = ss.getD j 0 % (t : Int) := by
  have h1 : sumI (fun i => pI n t j ^ i * encC n t ss i) n % (t : Int)
      = sumI (fun i => sumI (fun k => ss.getD k 0 * (pI n t j ^ i * (pI n t k ^ (2 * n - i) % (t : Int)) * overN n t)) n) n % (t : Int) := by
    refine sumI_mod _ fun i _ => ?_
    unfold encC
    rw [mul_mod_right, ← mul_mod_right, mul_mod_left, mul_mod_right]
    have e : ∀ k, ss.getD k 0 * (pI n t j ^ i * (pI n t k ^ (2 * n - i) % (t : Int)) * overN n t) = (pI n t j ^ i * overN n t) * (ss.getD k 0 * (pI n t k ^ (2 * n - i) % (t : Int))) := fun k => by
      generalize pI n t j ^ i = a
      generalize pI n t k ^ (2 * n - i) % (t : Int) = b
      generalize overN n t = c
      generalize ss.getD k 0 = d
      rw [Int.mul_right_comm a b c, Int.mul_left_comm d]
    simp only [e, sumI_mul]
    rw [Int.mul_right_comm, ← Int.mul_assoc]
  rw [h1, sumI_comm]
  have h2 : sumI (fun k => sumI (fun i => ss.getD k 0 * (pI n t j ^ i * (pI n t k ^ (2 * n - i) % (t : Int)) * overN n t)) n) n % (t : Int)
      = sumI (fun k => ss.getD k 0 * (if j = k then 1 else 0)) n % (t : Int) := by
    refine sumI_mod _ fun k hk => ?_
    have e : ∀ i, pI n t j ^ i * (pI n t k ^ (2 * n - i) % (t : Int)) * overN n t = overN n t * (pI n t j ^ i * (pI n t k ^ (2 * n - i) % (t : Int))) := fun i => Int.mul_comm _ _
    simp only [e, sumI_mul]
    rw [Int.mul_comm (overN n t), ← mul_mod_right, orth_fact g j k hj hk]
  rw [h2, sumI_one _ j n hj fun i _ hne => by rw [if_neg (fun c => hne c.symm), Int.mul_zero]]
  rw [if_pos rfl, Int.mul_one]

/-- what a step of the elimination makes of a matrix -/
def stepA (A : Nat → Nat → Int) (i k : Nat) (o t : Int) (j c : Nat) : Int :=
  if j = i then A k c * o % t else (A (if j = k then i else j) c - A (if j = k then i else j) i * (A k c * o % t)) % t

structure Elim (n t : Nat) (x : Nat → Int) (i : Nat) (A : Nat → Nat → Int) : Prop where
  left : ∀ j c, j < n → c < n → A j c = (at2 (elimN n t i) j c : Int)
  row : ∀ j, j < n → sumI (fun c => A j c * x c) n % (t : Int) = A j n % (t : Int)
  bnd : ∀ j c, j < n → c ≤ n → 0 ≤ A j c ∧ A j c < (t : Int)

def pivK (n t i : Nat) : Nat := pivN (elimN n t i) i (n - i) i

theorem piv_facts {n t : Nat} (g : NT n t) {x : Nat → Int} {i : Nat} {A : Nat → Nat → Int} (h : Elim n t x i A) (hi : i < n) :
    i ≤ pivK n t i ∧ pivK n t i < n ∧ 1 ≤ A (pivK n t i) i ∧ ∀ j, i ≤ j → j < pivK n t i → A j i = 0 := by
  have hc := chk_of all_elim g
  simp only [chkElim, Bool.and_eq_true] at hc
  have h1 := List.all_eq_true.1 hc.1 i (by simpa using hi)
  simp only [Bool.and_eq_true] at h1
  have h2 : pivK n t i < n := blt_iff.1 h1.1
  have h3 : at2 (elimN n t i) (pivK n t i) i ≠ 0 := by
    intro e
    have h4 := h1.2
    unfold pivK at e
    rw [e] at h4
    simp at h4
  refine ⟨pivN_ge _ _ _ _, h2, ?_, ?_⟩
  · rw [h.left _ _ h2 hi]; omega
  · intro j hj1 hj2
    rw [h.left _ _ (by omega) hi, pivN_zero _ _ _ _ _ hj1 hj2]
    rfl

theorem Elim.step {n t : Nat} (g : NT n t) {x : Nat → Int} {i : Nat} {A : Nat → Nat → Int} (h : Elim n t x i A) (hi : i < n) :
    Elim n t x (i + 1) (stepA A i (pivK n t i) (A (pivK n t i) i ^ ((t : Int) - 2).toNat % (t : Int)) t) := by
  obtain ⟨hk1, hk2, hk3, hk4⟩ := piv_facts g h hi
  have ht := g.t3
  have e2 : ((t : Int) - 2).toNat = t - 2 := by omega
  have hp := h.row _ hk2
  generalize ho : A (pivK n t i) i ^ ((t : Int) - 2).toNat % (t : Int) = o
  have hpr : sumI (fun c => A (pivK n t i) c * o % (t : Int) * x c) n % (t : Int) = A (pivK n t i) n * o % (t : Int) := by
    have e : sumI (fun c => A (pivK n t i) c * o % (t : Int) * x c) n % (t : Int) = sumI (fun c => o * (A (pivK n t i) c * x c)) n % (t : Int) := by
      refine sumI_mod _ fun c _ => ?_
      rw [mul_mod_left, Int.mul_comm _ o, Int.mul_assoc]
    rw [e, sumI_mul, ← mul_mod_right, hp, mul_mod_right, Int.mul_comm]
  have hs : ∀ j, j < n → (if j = pivK n t i then i else j) < n := fun j hj => by split <;> omega
  refine ⟨?_, ?_, ?_⟩
  · intro j c hj hc
    have hl1 := h.left _ c hk2 hc
    have hl2 := h.left _ c (hs j hj) hc
    have hl3 := h.left _ i (hs j hj) hi
    have ho2 : o = ((at2 (elimN n t i) (pivK n t i) i ^ (t - 2) % t : Nat) : Int) := by
      rw [← ho, h.left _ _ hk2 hi, e2, cast_pow_mod]
    show stepA A i (pivK n t i) o t j c = ((at2 (stepE n t i (elimN n t i) (pivK n t i) (at2 (elimN n t i) (pivK n t i) i ^ (t - 2) % t)) j c : Nat) : Int)
    unfold stepE
    rw [at2_tab _ _ _ _ _ hj hc]
    unfold stepA
    by_cases e : j = i
    · subst e
      rw [if_pos rfl, if_pos (Nat.beq_refl j), hl1, ho2, ← Int.natCast_mul, ← Int.natCast_emod]
    · have e' : ¬ Nat.beq j i = true := fun c => e (Nat.eq_of_beq_eq_true c)
      rw [if_neg e, if_neg e']
      have e3 : (if Nat.beq j (pivK n t i) = true then i else j) = (if j = pivK n t i then i else j) := by
        by_cases e4 : j = pivK n t i
        · rw [if_pos e4, e4, if_pos (Nat.beq_refl _)]
        · rw [if_neg e4, if_neg (fun c => e4 (Nat.eq_of_beq_eq_true c))]
      rw [e3, hl2, hl3, hl1, ho2, ← Int.natCast_mul, ← Int.natCast_emod, ← Int.natCast_mul]
      generalize hf : at2 (elimN n t i) (if j = pivK n t i then i else j) i = f
      have hfb : f < t := by
        have := (h.bnd _ i (hs j hj) (by omega)).2
        rw [hl3, hf] at this
        omega
      generalize at2 (elimN n t i) (if j = pivK n t i then i else j) c = a
      have hpb : at2 (elimN n t i) (pivK n t i) c * (at2 (elimN n t i) (pivK n t i) i ^ (t - 2) % t) % t < t := Nat.mod_lt _ (by omega)
      generalize at2 (elimN n t i) (pivK n t i) c * (at2 (elimN n t i) (pivK n t i) i ^ (t - 2) % t) % t = p at hpb
      have hfp : f * p ≤ t * t := Nat.mul_le_mul (by omega) (by omega)
      have e5 : ((a + t * t - f * p : Nat) : Int) = ((a : Int) - ((f * p : Nat) : Int)) + (t : Int) * (t : Int) := by
        rw [Int.natCast_sub (by omega), Int.natCast_add, Int.natCast_mul t t]
        omega
      rw [Int.natCast_emod, e5, Int.add_mul_emod_self_left]
  · intro j hj
    unfold stepA
    by_cases e : j = i
    · simp only [if_pos e]
      rw [hpr, Int.emod_emod_of_dvd _ (Int.dvd_refl _)]
    · simp only [if_neg e]
      have hr := h.row _ (hs j hj)
      generalize (if j = pivK n t i then i else j) = s at hr
      rw [Int.emod_emod_of_dvd _ (Int.dvd_refl _)]
      have e6 : sumI (fun c => (A s c - A s i * (A (pivK n t i) c * o % (t : Int))) % (t : Int) * x c) n % (t : Int)
          = sumI (fun c => A s c * x c + (- A s i) * (A (pivK n t i) c * o % (t : Int) * x c)) n % (t : Int) := by
        refine sumI_mod _ fun c _ => ?_
        rw [mul_mod_left, Int.sub_mul, Int.neg_mul, Int.mul_assoc (A s i)]
        rfl
      rw [e6, sumI_add, sumI_mul, ← add_mod_left, hr, add_mod_left, ← add_mod_right, ← mul_mod_right, hpr, add_mod_right, Int.neg_mul]
      rfl
  · intro j c _ _
    unfold stepA
    split
    · exact ⟨Int.emod_nonneg _ (by omega), Int.emod_lt_of_pos _ (by omega)⟩
    · exact ⟨Int.emod_nonneg _ (by omega), Int.emod_lt_of_pos _ (by omega)⟩

/-- the matrix at the start -/
theorem Elim.start {n t : Nat} (g : NT n t) (ss : List Int) (hs : ∀ j, j < n → 0 ≤ ss.getD j 0 ∧ ss.getD j 0 < (t : Int)) :
    Elim n t (encC n t ss) 0 (fun j c => if c < n then pI n t j ^ c % (t : Int) else ss.getD j 0) := by
  have ht := g.t3
  refine ⟨?_, ?_, ?_⟩
  · intro j c hj hc
    show _ = ((at2 (tabN n n fun j c => ptN n t j ^ c % t) j c : Nat) : Int)
    rw [if_pos hc, at2_tab _ _ _ _ _ hj hc, cast_pow_mod]
    rfl
  · intro j hj
    rw [if_neg (Nat.lt_irrefl n), ← enc_solves g ss j hj]
    refine sumI_mod _ fun c hc => ?_
    rw [if_pos hc, mul_mod_left]
  · intro j c hj _
    split
    · exact ⟨Int.emod_nonneg _ (by omega), Int.emod_lt_of_pos _ (by omega)⟩
    · exact hs j hj

theorem Elim.end {n t : Nat} (g : NT n t) {x : Nat → Int} {A : Nat → Nat → Int} (h : Elim n t x n A) (hx : ∀ j, j < n → 0 ≤ x j ∧ x j < (t : Int)) (j : Nat) (hj : j < n) : A j n = x j := by
  have hc := chk_of all_elim g
  simp only [chkElim, Bool.and_eq_true] at hc
  have hr := h.row j hj
  rw [sumI_one _ j n hj ?_] at hr
  · have e1 := List.all_eq_true.1 (List.all_eq_true.1 hc.2 j (by simpa using hj)) j (by simpa using hj)
    have e2 := Nat.eq_of_beq_eq_true e1
    rw [if_pos rfl] at e2
    rw [h.left j j hj hj, e2] at hr
    have hb := h.bnd j n hj (Nat.le_refl n)
    rw [Int.emod_eq_of_lt hb.1 hb.2] at hr
    rw [← hr]
    show (1 : Int) * x j % (t : Int) = x j
    rw [Int.one_mul, Int.emod_eq_of_lt (hx j hj).1 (hx j hj).2]
  · intro c hcn hne
    have e1 := List.all_eq_true.1 (List.all_eq_true.1 hc.2 j (by simpa using hj)) c (by simpa using hcn)
    have e2 := Nat.eq_of_beq_eq_true e1
    rw [if_neg (fun e => hne e.symm)] at e2
    show A j c * x c = 0
    rw [h.left j c hj hcn, e2]
    simp

end Go.Proofs.Ytfpmonifpddbdaa
