/-
  The points as lists; a slice appended to a slice; the reference's root.
  Walks: the reference's points.
  Walks: the reference's slots of a polynomial.
  A matrix in memory: rows of numbers, each in a block of its own, and their headers in one block; the reference's solve.
  Rows in memory, one after the other.
  Walks: the reference's Poly.
  Walks: Decode and Encode of the reference.
-/
import Derived.Test.YtcjhgbljhpflfabWalksR
import Derived.Test.YtcjhgbljhpflfabMathE
import Derived.StillTailTactics
import Derived.Deep.RegionHeld3
namespace Go.Proofs.Ytcjhgbljhpflfab
open Go.RowKit
set_option linter.unusedVariables false

/-- the first k points -/
def ptL (n t k : Nat) : List Int := (List.range k).map (pI n t)

theorem ptL_length (n t k : Nat) : (ptL n t k).length = k := by simp [ptL]

theorem ptL_succ (n t k : Nat) : ptL n t (k + 1) = ptL n t k ++ [pI n t k] := by simp [ptL, List.range_succ]

theorem ptL_getD (n t k i : Nat) (h : i < k) : (ptL n t k).getD i 0 = pI n t i := getD_range h

/-- z cubed k times -/
def cubeI (n t k : Nat) : Int := (cubeN t (rootN n t) k : Int)

theorem cubeI_pI (n t k : Nat) (h : k < n / 2) : cubeI n t k = pI n t k := by
  unfold cubeI pI ptN
  rw [if_pos (blt_iff.2 h)]

theorem cubeI_succ (n t k : Nat) : cubeI n t k ^ 3 % (t : Int) = cubeI n t (k + 1) := by
  unfold cubeI
  rw [← cast_pow_mod]
  rfl

theorem cubeI_bounds {n t : Nat} (g : NT n t) (k : Nat) : 0 ≤ cubeI n t k ∧ cubeI n t k < t := by
  have ht := g.t3
  cases k with
  | zero => exact ⟨Int.natCast_nonneg _, (root_facts g).2.1⟩
  | succ k => rw [← cubeI_succ]; exact ⟨Int.emod_nonneg _ (by omega), Int.emod_lt_of_pos _ (by omega)⟩

theorem NT.half {n t : Nat} (g : NT n t) : n / 2 + n / 2 = n ∧ 2 ≤ n / 2 ∧ n / 2 ≤ 8 := by
  rcases g.hn with rfl | rfl | rfl <;> decide

/-- out = append(out, src...), out the call's own -/
theorem append_ints {ops : Array Oper} {rest : List Oper} {o : Oper} {a : Act} {Q : Exit → Act → World → Prop} (w : World) (hgd : o.guard = none) (s x : Operand)
    (ho : o.op = .call { callee := .builtin .append, args := #[s, x], argTypes := #[26, 26] })
    (base : Nat) (v : Value) (xs : List Int) (hs : a.eval s = v) (hown : OwnI w base v xs) (g cap : Nat) (ys : List Int) (hy : IsI w g ys) (hx : a.eval x = .slice (some ⟨g, 0, none⟩) ys.length cap)
    (hlen : xs.length + ys.length ≤ 1099511627776) (hbase : base ≤ w.heap.size)
    (h : ∀ v' w', OwnI w' base v' (xs ++ ys) → w.grownBy w' v.ownBlock → Below base w w' → wpList Try.prog ops Q rest (a.put o.dst v') w') :
    wpList Try.prog ops Q (o :: rest) a w := by
  obtain ⟨i0, hi, hz0, hz1, hz2⟩ := info_parts info_int
  refine wpList_append_own_at _ hgd s x 26 ho base 3 i0 (.int .i64 0) 1 8 Try.underlying26 hi hz0 hz1 hz2 rfl (by decide) v xs.length (xs.map (Value.int .i64)) hs hown
    ⟨g, 0, none⟩ ys.length cap (ys.map (Value.int .i64)) hx (by simp) ?_ ?_ ?_ ?_ hbase ?_
  · intro j u hj
    have hj2 : j < ys.length := by
      rcases Nat.lt_or_ge j ys.length with h | h
      · exact h
      · rw [List.getElem?_eq_none (by simpa using h)] at hj; exact absurd hj (by simp)
    have e : (⟨g, 0, none⟩ : Addr).add j = ⟨g, j, none⟩ := by simp [Addr.add]; omega
    rw [e, hy.2 j hj2]
    rw [List.getElem?_map, List.getElem?_eq_getElem hj2] at hj
    rw [List.getD_eq_getElem?_getD, List.getElem?_eq_getElem hj2]
    exact hj
  · intro u hu
    obtain ⟨y, _, rfl⟩ := List.mem_map.1 hu
    rfl
  · unfold maxLen; omega
  · omega
  · intro v' w' h1 h2 h3 h4
    refine h v' w' ?_ h2 ?_
    · show World.ownsRow _ _ _ _ _ _ _
      rw [List.length_append, List.map_append]
      exact h1
    · exact (Below.refl _ _).grown h2 hbase (fun k hk => (World.ownsRow.lt hown k hk).1)

end Go.Proofs.Ytcjhgbljhpflfab

namespace Go.Proofs.Ytcjhgbljhpflfab
open Go.RowKit
set_option linter.unusedVariables false

/-- the first k points of row 1 -/
def dnL (n t k : Nat) : List Int := (List.range k).map fun j => pI n t (n / 2 + j)

theorem dnL_length (n t k : Nat) : (dnL n t k).length = k := by simp [dnL]

theorem dnL_succ (n t k : Nat) : dnL n t (k + 1) = dnL n t k ++ [pI n t (n / 2 + k)] := by simp [dnL, List.range_succ]

theorem ptL_dnL (n t k : Nat) : ptL n t (n / 2) ++ dnL n t k = ptL n t (n / 2 + k) := by
  induction k with
  | zero => simp [dnL]
  | succ k ih => rw [dnL_succ, ← List.append_assoc, ih, ← Nat.add_assoc, ptL_succ]

theorem OwnI.kept {w w' : World} {base : Nat} {v : Value} {xs : List Int} {row : Option Nat} (h : OwnI w base v xs) (hg : w.grownBy w' row) (hne : v.ownBlock = none ∨ v.ownBlock ≠ row) : OwnI w' base v xs := World.ownsRow.kept h hg hne

/-- no block is both's -/
def Apart (v u : Value) : Prop := v.ownBlock = none ∨ u.ownBlock = none ∨ v.ownBlock ≠ u.ownBlock

theorem Apart.symm {v u : Value} (h : Apart v u) : Apart u v := by
  rcases h with h | h | h
  · exact Or.inr (Or.inl h)
  · exact Or.inl h
  · exact Or.inr (Or.inr fun e => h e.symm)

theorem Apart.keeps {v u : Value} (h : Apart v u) : v.ownBlock = none ∨ v.ownBlock ≠ u.ownBlock := by
  rcases h with h | h | h
  · exact Or.inl h
  · by_cases e : v.ownBlock = none
    · exact Or.inl e
    · exact Or.inr fun c => e (c.trans h)
  · exact Or.inr h

theorem Apart.grown {w : World} {base : Nat} {v u v' : Value} {xs : List Int} (h : Apart v u) (hu : OwnI w base u xs) (hv : v'.ownBlock = v.ownBlock ∨ ∃ g, v'.ownBlock = some g ∧ w.heap.size ≤ g) : Apart v' u := by
  rcases hv with e | ⟨g, e, hg⟩
  · unfold Apart; rw [e]; exact h
  · cases hub : u.ownBlock with
    | none => exact Or.inr (Or.inl hub)
    | some k =>
      refine Or.inr (Or.inr fun c => ?_)
      rw [e, hub] at c
      have := (hu.lt k hub).2
      injection c with c
      omega

theorem expN_le (n k : Nat) (hn : 0 < n) : expN n k ≤ 2 * n := by
  cases k with
  | zero => simp [expN]; omega
  | succ k => exact Nat.le_of_lt (Nat.mod_lt _ (by omega))

end Go.Proofs.Ytcjhgbljhpflfab

namespace Go.Proofs.Ytcjhgbljhpflfab
open Go.RowKit
set_option linter.unusedVariables false

theorem sumI_nonneg {f : Nat → Int} {n : Nat} {B : Int} (h : ∀ i, i < n → 0 ≤ f i ∧ f i ≤ B) : 0 ≤ sumI f n ∧ sumI f n ≤ n * B := by
  induction n with
  | zero => simp [sumI]
  | succ n ih =>
    have h1 := ih (fun i hi => h i (by omega))
    have h2 := h n (by omega)
    simp only [sumI]
    rw [Int.natCast_succ, Int.add_mul]
    omega

end Go.Proofs.Ytcjhgbljhpflfab

namespace Go.Proofs.Ytcjhgbljhpflfab
open Go.RowKit
set_option linter.unusedVariables false

structure MatAt (w : World) (B H n m : Nat) (gs caps : Nat → Nat) (A : Nat → Nat → Int) : Prop where
  hH : B ≤ H ∧ H < w.heap.size
  hg : ∀ j, j < n → B ≤ gs j ∧ gs j < w.heap.size ∧ gs j ≠ H
  inj : ∀ j k, j < n → k < n → gs j = gs k → j = k
  head : ∀ j, j < n → w.cell? ⟨H, j, none⟩ = some (.slice (some ⟨gs j, 0, none⟩) m (caps j))
  headf : ∀ j, j < n → w.frozen? ⟨H, j, none⟩ = false
  cell : ∀ j c, j < n → c < m → w.cell? ⟨gs j, c, none⟩ = some (.int .i64 (A j c))
  cellf : ∀ j c, j < n → c < m → w.frozen? ⟨gs j, c, none⟩ = false

theorem MatAt.congr {w : World} {B H n m : Nat} {gs caps : Nat → Nat} {A A' : Nat → Nat → Int} (h : MatAt w B H n m gs caps A) (e : ∀ j c, j < n → c < m → A j c = A' j c) : MatAt w B H n m gs caps A' :=
  ⟨h.hH, h.hg, h.inj, h.head, h.headf, fun j c hj hc => by rw [← e j c hj hc]; exact h.cell j c hj hc, h.cellf⟩

theorem MatAt.up {w w' : World} {B H n m : Nat} {gs caps : Nat → Nat} {A : Nat → Nat → Int} (h : MatAt w B H n m gs caps A) (hu : Up w w') : MatAt w' B H n m gs caps A :=
  ⟨⟨h.hH.1, Nat.lt_of_lt_of_le h.hH.2 hu.size⟩, fun j hj => ⟨(h.hg j hj).1, Nat.lt_of_lt_of_le (h.hg j hj).2.1 hu.size, (h.hg j hj).2.2⟩, h.inj,
    fun j hj => (hu.cell (p := ⟨H, j, none⟩) h.hH.2).trans (h.head j hj), fun j hj => (hu.frozen (p := ⟨H, j, none⟩) h.hH.2).trans (h.headf j hj),
    fun j c hj hc => (hu.cell (p := ⟨gs j, c, none⟩) (h.hg j hj).2.1).trans (h.cell j c hj hc), fun j c hj hc => (hu.frozen (p := ⟨gs j, c, none⟩) (h.hg j hj).2.1).trans (h.cellf j c hj hc)⟩

theorem addr_ne {b b' o o' : Nat} (h : b ≠ b' ∨ o ≠ o') : (⟨b, o, none⟩ : Addr) ≠ ⟨b', o', none⟩ := by
  intro c
  injection c with c1 c2
  rcases h with h | h
  · exact h c1
  · exact h c2

/-- a store into a row -/
theorem MatAt.set {w : World} {B H n m : Nat} {gs caps : Nat → Nat} {A : Nat → Nat → Int} (h : MatAt w B H n m gs caps A) (j c : Nat) (hj : j < n) (hc : c < m) (x : Int) :
    MatAt (w.setCell ⟨gs j, c, none⟩ (.int .i64 x)) B H n m gs caps (fun j' c' => if j' = j ∧ c' = c then x else A j' c') := by
  refine ⟨by simpa using h.hH, fun k hk => by simpa using h.hg k hk, h.inj, ?_, fun k hk => by simpa using h.headf k hk, ?_, fun k d hk hd => by simpa using h.cellf k d hk hd⟩
  · intro k hk
    rw [World.cell?_setCell_other _ _ _ _ (addr_ne (Or.inl (h.hg j hj).2.2))]
    exact h.head k hk
  · intro k d hk hd
    by_cases e : k = j ∧ d = c
    · obtain ⟨rfl, rfl⟩ := e
      rw [World.cell?_setCell_same _ _ _ (h.cell k d hk hd), if_pos ⟨rfl, rfl⟩]
    · rw [if_neg e, World.cell?_setCell_other _ _ _ _ (addr_ne ?_)]
      · exact h.cell k d hk hd
      · by_cases e1 : d = c
        · refine Or.inl fun e2 => e ⟨(h.inj j k hj hk e2).symm, e1⟩
        · exact Or.inr fun e2 => e1 e2.symm

/-- rows i and k change places -/
def sw (i k j : Nat) : Nat := if j = i then k else if j = k then i else j

theorem sw_lt {i k j n : Nat} (hi : i < n) (hk : k < n) (hj : j < n) : sw i k j < n := by
  unfold sw; split
  · exact hk
  · split
    · exact hi
    · exact hj

theorem sw_inj {i k a b : Nat} (h : sw i k a = sw i k b) : a = b := by
  unfold sw at h
  split at h <;> split at h <;> (try split at h) <;> (try split at h) <;> omega

theorem MatAt.swap {w : World} {B H n m : Nat} {gs caps : Nat → Nat} {A : Nat → Nat → Int} (h : MatAt w B H n m gs caps A) (i k : Nat) (hi : i < n) (hk : k < n) :
    MatAt ((w.setCell ⟨H, k, none⟩ (.slice (some ⟨gs i, 0, none⟩) m (caps i))).setCell ⟨H, i, none⟩ (.slice (some ⟨gs k, 0, none⟩) m (caps k))) B H n m
      (fun j => gs (sw i k j)) (fun j => caps (sw i k j)) (fun j c => A (sw i k j) c) := by
  refine ⟨by simpa using h.hH, fun j hj => by simpa using h.hg _ (sw_lt hi hk hj), fun a b ha hb e => sw_inj (h.inj _ _ (sw_lt hi hk ha) (sw_lt hi hk hb) e), ?_, fun j hj => by simpa using h.headf j hj, ?_, fun j c hj hc => by simpa using h.cellf _ c (sw_lt hi hk hj) hc⟩
  · intro j hj
    obtain ⟨v', hv'⟩ := cell?_setCell_some (p := ⟨H, k, none⟩) (x := .slice (some ⟨gs i, 0, none⟩) m (caps i)) (h.head i hi)
    by_cases e1 : j = i
    · subst e1
      rw [World.cell?_setCell_same _ _ _ hv']
      simp [sw]
    · rw [World.cell?_setCell_other _ _ _ _ (addr_ne (Or.inr fun e => e1 e.symm))]
      by_cases e2 : j = k
      · subst e2
        rw [World.cell?_setCell_same _ _ _ (h.head j hj)]
        simp [sw, e1]
      · rw [World.cell?_setCell_other _ _ _ _ (addr_ne (Or.inr fun e => e2 e.symm)), h.head j hj]
        simp [sw, e1, e2]
  · intro j c hj hc
    have hne := (h.hg _ (sw_lt hi hk hj)).2.2
    rw [World.cell?_setCell_other _ _ _ _ (addr_ne (Or.inl fun e => hne e.symm)), World.cell?_setCell_other _ _ _ _ (addr_ne (Or.inl fun e => hne e.symm))]
    exact h.cell _ c (sw_lt hi hk hj) hc

/-- row i is scaled up to place d -/
def scM (A1 : Nat → Nat → Int) (p : Nat → Int) (i d j c : Nat) : Int := if j = i ∧ c < d then p c else A1 j c

/-- row i is scaled, and taken out of the rows below k -/
def elM (A1 : Nat → Nat → Int) (p : Nat → Int) (i : Nat) (t : Int) (k j c : Nat) : Int :=
  if j = i then p c else if j < k then (A1 j c - A1 j i * p c) % t else A1 j c

/-- and out of row k up to place d -/
def elR (A1 : Nat → Nat → Int) (p : Nat → Int) (i : Nat) (t : Int) (k d j c : Nat) : Int :=
  if j = k ∧ c < d then (A1 k c - A1 k i * p c) % t else elM A1 p i t k j c

theorem scM_step (A1 : Nat → Nat → Int) (p : Nat → Int) (i d j c : Nat) : (if j = i ∧ c = d then p d else scM A1 p i d j c) = scM A1 p i (d + 1) j c := by
  unfold scM
  by_cases h1 : j = i
  · subst h1
    by_cases h2 : c = d
    · subst h2; simp
    · by_cases h3 : c < d
      · rw [if_neg (fun e => h2 e.2), if_pos ⟨rfl, h3⟩, if_pos ⟨rfl, by omega⟩]
      · rw [if_neg (fun e => h2 e.2), if_neg (fun e => h3 e.2), if_neg (fun e => h3 (by omega))]
  · rw [if_neg (fun e => h1 e.1), if_neg (fun e => h1 e.1), if_neg (fun e => h1 e.1)]

theorem scM_end (A1 : Nat → Nat → Int) (p : Nat → Int) (i m : Nat) (t : Int) (j c : Nat) (hc : c < m) : scM A1 p i m j c = elM A1 p i t 0 j c := by
  unfold scM elM
  by_cases h1 : j = i
  · rw [if_pos ⟨h1, hc⟩, if_pos h1]
  · rw [if_neg (fun e => h1 e.1), if_neg h1, if_neg (Nat.not_lt_zero j)]

theorem elR_start (A1 : Nat → Nat → Int) (p : Nat → Int) (i : Nat) (t : Int) (k j c : Nat) : elM A1 p i t k j c = elR A1 p i t k 0 j c := by
  unfold elR
  rw [if_neg (fun e => Nat.not_lt_zero c e.2)]

theorem elR_step (A1 : Nat → Nat → Int) (p : Nat → Int) (i : Nat) (t : Int) (k d j c : Nat) : (if j = k ∧ c = d then (A1 k d - A1 k i * p d) % t else elR A1 p i t k d j c) = elR A1 p i t k (d + 1) j c := by
  unfold elR
  by_cases h1 : j = k
  · subst h1
    by_cases h2 : c = d
    · subst h2; simp
    · by_cases h3 : c < d
      · rw [if_neg (fun e => h2 e.2), if_pos ⟨rfl, h3⟩, if_pos ⟨rfl, by omega⟩]
      · rw [if_neg (fun e => h2 e.2), if_neg (fun e => h3 e.2), if_neg (fun e => h3 (by omega))]
  · rw [if_neg (fun e => h1 e.1), if_neg (fun e => h1 e.1), if_neg (fun e => h1 e.1)]

theorem elR_end (A1 : Nat → Nat → Int) (p : Nat → Int) (i m : Nat) (t : Int) (k j c : Nat) (hk : k ≠ i) (hc : c < m) : elR A1 p i t k m j c = elM A1 p i t (k + 1) j c := by
  unfold elR elM
  by_cases h1 : j = k
  · subst h1
    rw [if_pos ⟨rfl, hc⟩, if_neg hk, if_pos (Nat.lt_succ_self j)]
  · rw [if_neg (fun e => h1 e.1)]
    by_cases h2 : j = i
    · rw [if_pos h2, if_pos h2]
    · rw [if_neg h2, if_neg h2]
      by_cases h3 : j < k
      · rw [if_pos h3, if_pos (by omega)]
      · rw [if_neg h3, if_neg (by omega)]

theorem elM_skip (A1 : Nat → Nat → Int) (p : Nat → Int) (i : Nat) (t : Int) (j c : Nat) : elM A1 p i t i j c = elM A1 p i t (i + 1) j c := by
  unfold elM
  by_cases h2 : j = i
  · rw [if_pos h2, if_pos h2]
  · rw [if_neg h2, if_neg h2]
    by_cases h3 : j < i
    · rw [if_pos h3, if_pos (by omega)]
    · rw [if_neg h3, if_neg (by omega)]

theorem elM_end (A : Nat → Nat → Int) (i K n : Nat) (o t : Int) (j c : Nat) (hj : j < n) : elM (fun j c => A (sw i K j) c) (fun c => A (sw i K i) c * o % t) i t n j c = stepA A i K o t j c := by
  unfold elM stepA
  dsimp only
  have e : sw i K i = K := by simp [sw]
  by_cases h1 : j = i
  · rw [if_pos h1, if_pos h1, e]
  · rw [if_neg h1, if_neg h1, if_pos hj, e]
    have e2 : sw i K j = if j = K then i else j := by simp [sw, h1]
    rw [e2]

end Go.Proofs.Ytcjhgbljhpflfab

namespace Go.Proofs.Ytcjhgbljhpflfab
open Go.RowKit
set_option linter.unusedVariables false

theorem info_ints : (Try.prog.info? 26).map (fun i => (i.zero, i.size, i.bytes)) = some (some (.slice none 0 0), 1, 24) := by kernel_rfl

/-- the slice v owns the headers hs -/
abbrev OwnH (w : World) (base : Nat) (v : Value) (hs : List Value) : Prop := w.ownsRow base 26 1 v hs.length hs

theorem OwnH.up {w w' : World} {base : Nat} {v : Value} {xs : List Value} (h : OwnH w base v xs) (hu : Up w w') : OwnH w' base v xs := by
  refine ⟨h.1, ?_⟩
  rcases h.2 with h2 | ⟨g, cap, cur, h3, h4, h5, h6⟩
  · exact Or.inl h2
  · exact Or.inr ⟨g, cap, cur, h3, h4, by rw [hu.block g (Array.getElem?_eq_some_iff.1 h5).1]; exact h5, h6⟩

/-- headers and numbers lie in different blocks -/
theorem own_types {w : World} {base base' : Nat} {v u : Value} {hs : List Value} {xs : List Int} (h : OwnH w base v hs) (k : OwnI w base' u xs) : u.ownBlock = none ∨ u.ownBlock ≠ v.ownBlock := by
  rcases h.2 with ⟨rfl, _⟩ | ⟨g, cap, cur, rfl, _, h5, _⟩
  · rcases k.2 with ⟨rfl, _⟩ | ⟨g', cap', cur', rfl, _, _⟩
    · exact Or.inl rfl
    · exact Or.inr (by simp [Value.ownBlock])
  · rcases k.2 with ⟨rfl, _⟩ | ⟨g', cap', cur', rfl, _, k5, _⟩
    · exact Or.inl rfl
    · refine Or.inr fun c => ?_
      simp only [Value.ownBlock, Option.some.injEq] at c
      rw [c, h5] at k5
      injection k5 with k5
      injection k5 with _ k6
      exact absurd k6 (by decide)

/-- rows = append(rows, r) -/
theorem append_hdr {ops : Array Oper} {rest : List Oper} {o : Oper} {a : Act} {Q : Exit → Act → World → Prop} (w : World) (y : Value) (hy : y.oneCell' = true) (hgd : o.guard = none) (s x : Operand)
    (ho : o.op = .call { callee := .builtin .append, args := #[s, x], argTypes := #[89, 89] })
    (base : Nat) (v : Value) (xs : List Value) (hs : a.eval s = v) (hown : OwnH w base v xs) (hx : a.eval x = .slice (some ⟨w.heap.size, 0, none⟩) 1 1)
    (hlen : xs.length ≤ 1048576) (hbase : base ≤ w.heap.size)
    (h : ∀ v' w', OwnH w' base v' (xs ++ [y]) → w.grownBy w' v.ownBlock → Below base w w' → wpList Try.prog ops Q rest (a.put o.dst v') w') :
    wpList Try.prog ops Q (o :: rest) a (w.alloc (.cells #[y] 26)) := by
  obtain ⟨i0, hi, hz0, hz1, hz2⟩ := info_parts info_ints
  refine wpList_append_own_at _ hgd s x 89 ho base 26 i0 (.slice none 0 0) 1 24 Try.underlying89 hi hz0 hz1 hz2 rfl (by decide) v xs.length xs hs (World.ownsRow.alloc hown _)
    ⟨w.heap.size, 0, none⟩ 1 1 [y] hx rfl ?_ ?_ ?_ ?_ ?_ ?_
  · intro j u hj
    match j, hj with
    | 0, hj => simp at hj; subst hj; simp [Addr.add]
  · intro u hu; simp at hu; subst hu; exact hy
  · unfold maxLen; omega
  · omega
  · simp; omega
  · intro v' w' h1 h2 h3 h4
    have hg : w.grownBy w' v.ownBlock := ⟨h2.os, h2.tape, h2.output, Nat.le_trans (by simp) h2.size, fun k hk hne => (h2.block k (by simp; omega) hne).trans (heap_alloc_old w _ hk)⟩
    refine h v' w' ?_ hg ?_
    · show World.ownsRow _ _ _ _ _ _ _
      rw [List.length_append]
      exact h1
    · exact (Below.refl _ _).grown hg hbase (fun k hk => (World.ownsRow.lt hown k hk).1)

/-- an append of one number at a step of a region that draws -/
theorem step_append_int {ops : Array Oper} {o : Oper} {a : Act} {K : Act → World → Prop} {Q : Exit → Act → World → Prop} {E : Prop} (W : World) (y : Int) (g : Nat) (hgd : o.guard = none) (s x : Operand)
    (ho : o.op = .call { callee := .builtin .append, args := #[s, x], argTypes := #[26, 26] })
    (base : Nat) (v : Value) (xs : List Int) (hs : a.eval s = v) (hown : OwnI W base v xs) (hx : a.eval x = .slice (some ⟨g, 0, none⟩) 1 1) (hc : W.cell? ⟨g, 0, none⟩ = some (.int .i64 y))
    (hlen : xs.length ≤ 1099511627776) (hbase : base ≤ W.heap.size)
    (h : ∀ v' w', OwnI w' base v' (xs ++ [y]) → W.grownBy w' v.ownBlock → Below base W w' → K (a.put o.dst v') w') :
    if Region.wanted o (yielded ops a.tmps) = true then Oper.wp Try.prog o a W K Q else E := by
  have hw : Region.wanted o (yielded ops a.tmps) = true := by simp [Region.wanted, hgd]
  rw [if_pos hw]
  obtain ⟨i0, hi, hz0, hz1, hz2⟩ := info_parts info_int
  refine wp_append_own W s x 26 ho base 3 i0 (.int .i64 0) 1 8 Try.underlying26 hi hz0 hz1 hz2 rfl (by decide) v xs.length (xs.map (Value.int .i64)) hs hown
    ⟨g, 0, none⟩ 1 1 [.int .i64 y] hx rfl ?_ ?_ ?_ ?_ hbase ?_
  · intro j u hj
    match j, hj with
    | 0, hj => simp at hj; subst hj; simpa [Addr.add] using hc
  · intro u hu; simp at hu; subst hu; rfl
  · unfold maxLen; omega
  · omega
  · intro v' w' h1 h2 h3
    refine h v' w' ?_ h2 ?_
    · simpa [OwnI] using h1
    · exact (Below.refl _ _).grown h2 hbase (fun k hk => (World.ownsRow.lt hown k hk).1)

/-- the first m powers of point j -/
def powL (n t j m : Nat) : List Int := (List.range m).map fun c => pI n t j ^ c % (t : Int)

theorem powL_length (n t j m : Nat) : (powL n t j m).length = m := by simp [powL]

theorem powL_succ (n t j m : Nat) : powL n t j (m + 1) = powL n t j m ++ [pI n t j ^ m % (t : Int)] := by simp [powL, List.range_succ]

/-- row j of the equations -/
def eqL (n t : Nat) (ss : List Int) (j : Nat) : List Int := powL n t j n ++ [ss.getD j 0]

theorem eqL_length (n t : Nat) (ss : List Int) (j : Nat) : (eqL n t ss j).length = n + 1 := by simp [eqL, powL_length]

theorem eqL_getD (n t : Nat) (ss : List Int) (j c : Nat) (hc : c < n + 1) : (eqL n t ss j).getD c 0 = if c < n then pI n t j ^ c % (t : Int) else ss.getD j 0 := by
  unfold eqL
  by_cases h : c < n
  · rw [if_pos h, List.getD_eq_getElem?_getD, List.getElem?_append_left (by rw [powL_length]; exact h), ← List.getD_eq_getElem?_getD]
    unfold powL
    rw [getD_range h]
  · rw [if_neg h]
    obtain rfl : c = n := by omega
    rw [List.getD_eq_getElem?_getD, List.getElem?_append_right (by rw [powL_length]; exact Nat.le_refl _), powL_length]
    simp

/-- the headers of the first k rows -/
def hdL (m : Nat) (gs caps : Nat → Nat) (k : Nat) : List Value := (List.range k).map fun j => Value.slice (some ⟨gs j, 0, none⟩) m (caps j)

theorem hdL_length (m : Nat) (gs caps : Nat → Nat) (k : Nat) : (hdL m gs caps k).length = k := by simp [hdL]

theorem hdL_succ (m : Nat) (gs caps : Nat → Nat) (k : Nat) : hdL m gs caps (k + 1) = hdL m gs caps k ++ [Value.slice (some ⟨gs k, 0, none⟩) m (caps k)] := by simp [hdL, List.range_succ]

theorem hdL_congr {m : Nat} {gs caps gs' caps' : Nat → Nat} {k : Nat} (h : ∀ j, j < k → gs j = gs' j ∧ caps j = caps' j) : hdL m gs caps k = hdL m gs' caps' k := by
  unfold hdL
  refine List.map_congr_left fun j hj => ?_
  obtain ⟨h1, h2⟩ := h j (List.mem_range.1 hj)
  rw [h1, h2]

/-- k rows are laid -/
structure Laid (w : World) (B n t : Nat) (ss : List Int) (rows : Value) (gs caps : Nat → Nat) (k : Nat) : Prop where
  hdr : OwnH w B rows (hdL (n + 1) gs caps k)
  row : ∀ j, j < k → OwnI w B (.slice (some ⟨gs j, 0, none⟩) (n + 1) (caps j)) (eqL n t ss j)
  inj : ∀ j l, j < k → l < k → gs j = gs l → j = l

theorem Laid.up {w w' : World} {B n t : Nat} {ss : List Int} {rows : Value} {gs caps : Nat → Nat} {k : Nat} (h : Laid w B n t ss rows gs caps k) (hu : Up w w') : Laid w' B n t ss rows gs caps k :=
  ⟨h.hdr.up hu, fun j hj => (h.row j hj).up hu, h.inj⟩

theorem OwnI.block_lt {w : World} {base g n cap : Nat} {xs : List Int} (h : OwnI w base (.slice (some ⟨g, 0, none⟩) n cap) xs) : base ≤ g ∧ g < w.heap.size := h.lt g rfl

/-- all rows are laid: a matrix -/
theorem Laid.mat {w : World} {B n t : Nat} {ss : List Int} {rows : Value} {gs caps : Nat → Nat} (h : Laid w B n t ss rows gs caps n) (hn : 0 < n) :
    ∃ H hcap, rows = .slice (some ⟨H, 0, none⟩) n hcap ∧ MatAt w B H n (n + 1) gs caps (fun j c => if c < n then pI n t j ^ c % (t : Int) else ss.getD j 0) := by
  have hh := h.hdr
  rcases hh.2 with ⟨_, h0⟩ | ⟨H, hcap, cur, rfl, hB, h5, _⟩
  · rw [hdL_length] at h0; omega
  · rw [hdL_length]
    refine ⟨H, hcap, rfl, ⟨hB, (Array.getElem?_eq_some_iff.1 h5).1⟩, fun j hj => ⟨(h.row j hj).block_lt.1, (h.row j hj).block_lt.2, ?_⟩, fun j l hj hl e => h.inj j l hj hl e, ?_, fun j hj => ?_, ?_, fun j c hj hc => ?_⟩
    · intro e
      have := own_types hh (h.row j hj)
      simp [Value.ownBlock, e] at this
    · intro j hj
      rw [World.ownsRow.cellAt hh j (by rw [hdL_length]; omega)]
      simp [hdL, hj]
    · exact World.ownsRow.frozenAt hh j
    · intro j c hj hc
      have hr := h.row j hj
      have hl := eqL_length n t ss j
      have hr2 : w.ownsRow B 3 1 (.slice (some ⟨gs j, 0, none⟩) (n + 1) (caps j)) (n + 1) ((eqL n t ss j).map (Value.int .i64)) := by
        have : OwnI w B (.slice (some ⟨gs j, 0, none⟩) (n + 1) (caps j)) (eqL n t ss j) := hr
        unfold OwnI at this
        rw [hl] at this
        exact this
      rw [World.ownsRow.cellAt hr2 c (by omega), List.getElem?_map, ← eqL_getD n t ss j c hc, List.getD_eq_getElem?_getD, List.getElem?_eq_getElem (by omega)]
      rfl
    · have hr := h.row j hj
      have hl := eqL_length n t ss j
      have hr2 : w.ownsRow B 3 1 (.slice (some ⟨gs j, 0, none⟩) (n + 1) (caps j)) (n + 1) ((eqL n t ss j).map (Value.int .i64)) := by
        have : OwnI w B (.slice (some ⟨gs j, 0, none⟩) (n + 1) (caps j)) (eqL n t ss j) := hr
        unfold OwnI at this
        rw [hl] at this
        exact this
      exact World.ownsRow.frozenAt hr2 c

/-- one row more -/
theorem Laid.next {w wx w' : World} {B n t : Nat} {ss : List Int} {rows rows' : Value} {gs caps : Nat → Nat} {k g cap : Nat} (h : Laid w B n t ss rows gs caps k) (hu : Up w wx) (hB : B ≤ w.heap.size)
    (hr : OwnI wx w.heap.size (.slice (some ⟨g, 0, none⟩) (n + 1) cap) (eqL n t ss k))
    (ho : OwnH w' B rows' (hdL (n + 1) gs caps k ++ [.slice (some ⟨g, 0, none⟩) (n + 1) cap])) (hg : wx.grownBy w' rows.ownBlock) :
    Laid w' B n t ss rows' (fun j => if j = k then g else gs j) (fun j => if j = k then cap else caps j) (k + 1) := by
  have hx := h.up hu
  have hgk := hr.block_lt
  refine ⟨?_, ?_, ?_⟩
  · rw [hdL_succ, if_pos rfl, if_pos rfl, hdL_congr (gs' := gs) (caps' := caps) (fun j hj => by rw [if_neg (by omega), if_neg (by omega)]; exact ⟨rfl, rfl⟩)]
    exact ho
  · intro j hj
    by_cases e : j = k
    · subst e
      rw [if_pos rfl, if_pos rfl]
      exact (hr.kept hg (own_types hx.hdr hr)).base hB
    · rw [if_neg e, if_neg e]
      have := hx.row j (by omega)
      exact this.kept hg (own_types hx.hdr this)
  · intro j l hj hl e
    have hlt : ∀ i, i < k → gs i < w.heap.size := fun i hi => (h.row i hi).block_lt.2
    by_cases e1 : j = k
    · by_cases e2 : l = k
      · omega
      · have := hlt l (by omega)
        rw [if_pos e1, if_neg e2] at e
        omega
    · by_cases e2 : l = k
      · have := hlt j (by omega)
        rw [if_neg e1, if_pos e2] at e
        omega
      · rw [if_neg e1, if_neg e2] at e
        exact h.inj j l (by omega) (by omega) e

end Go.Proofs.Ytcjhgbljhpflfab

namespace Go.Proofs.Ytcjhgbljhpflfab
open Go.RowKit
set_option linter.unusedVariables false

theorem ne_nil_of_length {xs : List Int} {n : Nat} (h : xs.length = n) (hn : 0 < n) : xs ≠ [] := by
  intro c
  subst c
  simp at h
  omega

theorem keepS {B a k c l : Nat} {u v : Value} {W W' : World} (hb : Below B W W') (h1 : a < B) (h2 : c < B) (hS : W.cell? ⟨a, k, none⟩ = some u ∧ W.cell? ⟨c, l, none⟩ = some v) : W'.cell? ⟨a, k, none⟩ = some u ∧ W'.cell? ⟨c, l, none⟩ = some v :=
  ⟨(hb.cell (p := ⟨a, k, none⟩) h1).trans hS.1, (hb.cell (p := ⟨c, l, none⟩) h2).trans hS.2⟩

theorem keepS3 {B a k c l d m : Nat} {u v x : Value} {W W' : World} (hb : Below B W W') (h1 : a < B) (h2 : c < B) (h3 : d < B) (hS : W.cell? ⟨a, k, none⟩ = some u ∧ W.cell? ⟨c, l, none⟩ = some v ∧ W.cell? ⟨d, m, none⟩ = some x) : W'.cell? ⟨a, k, none⟩ = some u ∧ W'.cell? ⟨c, l, none⟩ = some v ∧ W'.cell? ⟨d, m, none⟩ = some x :=
  ⟨(hb.cell (p := ⟨a, k, none⟩) h1).trans hS.1, (hb.cell (p := ⟨c, l, none⟩) h2).trans hS.2.1, (hb.cell (p := ⟨d, m, none⟩) h3).trans hS.2.2⟩

end Go.Proofs.Ytcjhgbljhpflfab

namespace Go.Proofs.Ytcjhgbljhpflfab
open Go.RowKit
set_option linter.unusedVariables false

theorem numsL_getD (l : List UInt8) (size n i : Nat) (h : i < n) : (numsL l size n).getD i 0 = (numL l (i * size) size : Int) := by
  induction n with
  | zero => omega
  | succ n ih =>
    simp only [numsL]
    by_cases e : i = n
    · subst e
      rw [List.getD_eq_getElem?_getD, List.getElem?_append_right (by rw [numsL_length]; exact Nat.le_refl _), numsL_length]
      simp
    · rw [List.getD_eq_getElem?_getD, List.getElem?_append_left (by rw [numsL_length]; omega), ← List.getD_eq_getElem?_getD]
      exact ih (by omega)

theorem numsL_bounds (l : List UInt8) (size n : Nat) (m : Int) (h : okL l n size m = true) (hm : m ≤ 65536) : ∀ i, i < (numsL l size n).length → 0 ≤ (numsL l size n).getD i 0 ∧ (numsL l size n).getD i 0 < 65536 := by
  intro i hi
  rw [numsL_length] at hi
  rw [numsL_getD _ _ _ _ hi]
  have := ((okL_iff _ _ _ _).1 h).2 i hi
  omega

theorem decI_bounds {n t : Nat} (g : NT n t) (xs : List Int) : ∀ i, i < (decI n t xs).length → 0 ≤ (decI n t xs).getD i 0 ∧ (decI n t xs).getD i 0 < 65536 := by
  intro i hi
  have hi : i < n := by simpa [decI] using hi
  have := valI_bounds g xs i
  have ht := g.ht
  unfold decI
  rw [getD_range hi]
  omega

theorem encI_bounds {n t : Nat} (g : NT n t) (xs : List Int) : ∀ i, i < (encI n t xs).length → 0 ≤ (encI n t xs).getD i 0 ∧ (encI n t xs).getD i 0 < 65536 := by
  intro i hi
  have hi : i < n := by simpa [encI] using hi
  have := encC_bounds g xs i
  have ht := g.ht
  unfold encI
  rw [getD_range hi]
  omega

theorem decI_length (n t : Nat) (xs : List Int) : (decI n t xs).length = n := by simp [decI]

theorem encI_length (n t : Nat) (xs : List Int) : (encI n t xs).length = n := by simp [encI]

theorem numsL_lt (l : List UInt8) (size n : Nat) (m : Int) (h : okL l n size m = true) : ∀ i, i < n → 0 ≤ (numsL l size n).getD i 0 ∧ (numsL l size n).getD i 0 < m := by
  intro i hi
  rw [numsL_getD _ _ _ _ hi]
  have := ((okL_iff _ _ _ _).1 h).2 i hi
  omega

end Go.Proofs.Ytcjhgbljhpflfab
