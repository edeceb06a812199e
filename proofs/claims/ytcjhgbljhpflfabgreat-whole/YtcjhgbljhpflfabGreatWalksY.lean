/-
  The points as lists; a slice appended to a slice; the reference's root.
  Walks: the reference's points.
  Walks: the reference's slots of a polynomial.
  A matrix in memory: rows of numbers, each in a block of its own, and their headers in one block; the reference's solve.
  Rows in memory, one after the other.
  Walks: the reference's Poly.
  Walks: Decode and Encode of the reference.
  Walks: the reference's Plus, Scaled, Times.
  Walks: the reference's Pair, Secret, Digits.
  Walks: the reference's Secret, Digits.
  Walks: the reference's Cubed.
  Walks: the reference's hidden.
  Walks: the reference's Key and TurnKey.
  Walks: the reference's Read and Told.
  Walks: the reference's Told, Bound, Encrypt.
  Walks: the reference's Encrypt.
  Walks: the reference's Decrypt.
  Walks: the reference's Add.
  Walks: the reference's Add, where it goes through.
  Walks: the reference's AddPlain.
  Walks: the reference's MulPlain.
  Walks: the reference's MulPlain, where it goes through.
  Walks: the reference's Turner, pairOf.
  Walks: the reference's Turn.
  Walks: the reference's Turn, where it goes through.
-/
import Derived.Test.YtcjhgbljhpflfabGreatWalksR
import Derived.Test.YtcjhgbljhpflfabGreatMathE
import Derived.StillTailTactics
import Derived.Deep.RegionHeld3
import Derived.OwnWalk
namespace Go.Proofs.YtcjhgbljhpflfabGreat
open Go.RowKit
set_option linter.unusedVariables false

/-- the first k points -/
def ptL (n t k : Nat) : List Int := (List.range k).map (pI n t)

theorem ptL_length (n t k : Nat) : (ptL n t k).length = k := by simp [ptL]

theorem ptL_succ (n t k : Nat) : ptL n t (k + 1) = ptL n t k ++ [pI n t k] := by simp [ptL, List.range_succ]

theorem ptL_getD (n t k i : Nat) (h : i < k) : (ptL n t k).getD i 0 = pI n t i := getD_range h

/-- z cubed k times -/
def cubeI (n t k : Nat) : Int := (cubeN t (rootN n t) k : Int)

theorem cubeI_pI (n t k : Nat) (h : k < n / 2) : cubeI n t k = pI n t k := by
  unfold cubeI pI ptN
  rw [if_pos (blt_iff.2 h)]

theorem cubeI_succ (n t k : Nat) : cubeI n t k ^ 3 % (t : Int) = cubeI n t (k + 1) := by
  unfold cubeI
  rw [← cast_pow_mod]
  rfl

theorem cubeI_bounds {n t : Nat} (g : NT n t) (k : Nat) : 0 ≤ cubeI n t k ∧ cubeI n t k < t := by
  have ht := g.t3
  cases k with
  | zero => exact ⟨Int.natCast_nonneg _, (root_facts g).2.1⟩
  | succ k => rw [← cubeI_succ]; exact ⟨Int.emod_nonneg _ (by omega), Int.emod_lt_of_pos _ (by omega)⟩

theorem NT.half {n t : Nat} (g : NT n t) : n / 2 + n / 2 = n ∧ 2 ≤ n / 2 ∧ n / 2 ≤ 8 := by
  rcases g.hn with rfl | rfl | rfl <;> decide

/-- out = append(out, src...), out the call's own -/
theorem append_ints {ops : Array Oper} {rest : List Oper} {o : Oper} {a : Act} {Q : Exit → Act → World → Prop} (w : World) (hgd : o.guard = none) (s x : Operand)
    (ho : o.op = .call { callee := .builtin .append, args := #[s, x], argTypes := #[54, 54] })
    (base : Nat) (v : Value) (xs : List Int) (hs : a.eval s = v) (hown : OwnI w base v xs) (g cap : Nat) (ys : List Int) (hy : IsI w g ys) (hx : a.eval x = .slice (some ⟨g, 0, none⟩) ys.length cap)
    (hlen : xs.length + ys.length ≤ 1099511627776) (hbase : base ≤ w.heap.size)
    (h : ∀ v' w', OwnI w' base v' (xs ++ ys) → w.grownBy w' v.ownBlock → Below base w w' → wpList Tryz.prog ops Q rest (a.put o.dst v') w') :
    wpList Tryz.prog ops Q (o :: rest) a w := by
  obtain ⟨i0, hi, hz0, hz1, hz2⟩ := info_parts info_int
  refine wpList_append_own_at _ hgd s x 54 ho base 3 i0 (.int .i64 0) 1 8 Tryz.underlying54 hi hz0 hz1 hz2 rfl (by decide) v xs.length (xs.map (Value.int .i64)) hs hown
    ⟨g, 0, none⟩ ys.length cap (ys.map (Value.int .i64)) hx (by simp) ?_ ?_ ?_ ?_ hbase ?_
  · intro j u hj
    have hj2 : j < ys.length := by
      rcases Nat.lt_or_ge j ys.length with h | h
      · exact h
      · rw [List.getElem?_eq_none (by simpa using h)] at hj; exact absurd hj (by simp)
    have e : (⟨g, 0, none⟩ : Addr).add j = ⟨g, j, none⟩ := by simp [Addr.add]; omega
    rw [e, hy.2 j hj2]
    rw [List.getElem?_map, List.getElem?_eq_getElem hj2] at hj
    rw [List.getD_eq_getElem?_getD, List.getElem?_eq_getElem hj2]
    exact hj
  · intro u hu
    obtain ⟨y, _, rfl⟩ := List.mem_map.1 hu
    rfl
  · unfold maxLen; omega
  · omega
  · intro v' w' h1 h2 h3 h4
    refine h v' w' ?_ h2 ?_
    · show World.ownsRow _ _ _ _ _ _ _
      rw [List.length_append, List.map_append]
      exact h1
    · exact (Below.refl _ _).grown h2 hbase (fun k hk => (World.ownsRow.lt hown k hk).1)

end Go.Proofs.YtcjhgbljhpflfabGreat

namespace Go.Proofs.YtcjhgbljhpflfabGreat
open Go.RowKit
set_option linter.unusedVariables false

theorem OwnI.kept {w w' : World} {base : Nat} {v : Value} {xs : List Int} {row : Option Nat} (h : OwnI w base v xs) (hg : w.grownBy w' row) (hne : v.ownBlock = none ∨ v.ownBlock ≠ row) : OwnI w' base v xs := World.ownsRow.kept h hg hne

/-- no block is both's -/
def Apart (v u : Value) : Prop := v.ownBlock = none ∨ u.ownBlock = none ∨ v.ownBlock ≠ u.ownBlock

theorem Apart.symm {v u : Value} (h : Apart v u) : Apart u v := by
  rcases h with h | h | h
  · exact Or.inr (Or.inl h)
  · exact Or.inl h
  · exact Or.inr (Or.inr fun e => h e.symm)

theorem Apart.keeps {v u : Value} (h : Apart v u) : v.ownBlock = none ∨ v.ownBlock ≠ u.ownBlock := by
  rcases h with h | h | h
  · exact Or.inl h
  · by_cases e : v.ownBlock = none
    · exact Or.inl e
    · exact Or.inr fun c => e (c.trans h)
  · exact Or.inr h

theorem Apart.grown {w : World} {base : Nat} {v u v' : Value} {xs : List Int} (h : Apart v u) (hu : OwnI w base u xs) (hv : v'.ownBlock = v.ownBlock ∨ ∃ g, v'.ownBlock = some g ∧ w.heap.size ≤ g) : Apart v' u := by
  rcases hv with e | ⟨g, e, hg⟩
  · unfold Apart; rw [e]; exact h
  · cases hub : u.ownBlock with
    | none => exact Or.inr (Or.inl hub)
    | some k =>
      refine Or.inr (Or.inr fun c => ?_)
      rw [e, hub] at c
      have := (hu.lt k hub).2
      injection c with c
      omega

end Go.Proofs.YtcjhgbljhpflfabGreat

namespace Go.Proofs.YtcjhgbljhpflfabGreat
open Go.RowKit
set_option linter.unusedVariables false

end Go.Proofs.YtcjhgbljhpflfabGreat

namespace Go.Proofs.YtcjhgbljhpflfabGreat
open Go.RowKit
set_option linter.unusedVariables false

structure MatAt (w : World) (B H n m : Nat) (gs caps : Nat → Nat) (A : Nat → Nat → Int) : Prop where
  hH : B ≤ H ∧ H < w.heap.size
  hg : ∀ j, j < n → B ≤ gs j ∧ gs j < w.heap.size ∧ gs j ≠ H
  inj : ∀ j k, j < n → k < n → gs j = gs k → j = k
  head : ∀ j, j < n → w.cell? ⟨H, j, none⟩ = some (.slice (some ⟨gs j, 0, none⟩) m (caps j))
  headf : ∀ j, j < n → w.frozen? ⟨H, j, none⟩ = false
  cell : ∀ j c, j < n → c < m → w.cell? ⟨gs j, c, none⟩ = some (.int .i64 (A j c))
  cellf : ∀ j c, j < n → c < m → w.frozen? ⟨gs j, c, none⟩ = false

theorem MatAt.congr {w : World} {B H n m : Nat} {gs caps : Nat → Nat} {A A' : Nat → Nat → Int} (h : MatAt w B H n m gs caps A) (e : ∀ j c, j < n → c < m → A j c = A' j c) : MatAt w B H n m gs caps A' :=
  ⟨h.hH, h.hg, h.inj, h.head, h.headf, fun j c hj hc => by rw [← e j c hj hc]; exact h.cell j c hj hc, h.cellf⟩

theorem MatAt.up {w w' : World} {B H n m : Nat} {gs caps : Nat → Nat} {A : Nat → Nat → Int} (h : MatAt w B H n m gs caps A) (hu : Up w w') : MatAt w' B H n m gs caps A :=
  ⟨⟨h.hH.1, Nat.lt_of_lt_of_le h.hH.2 hu.size⟩, fun j hj => ⟨(h.hg j hj).1, Nat.lt_of_lt_of_le (h.hg j hj).2.1 hu.size, (h.hg j hj).2.2⟩, h.inj,
    fun j hj => (hu.cell (p := ⟨H, j, none⟩) h.hH.2).trans (h.head j hj), fun j hj => (hu.frozen (p := ⟨H, j, none⟩) h.hH.2).trans (h.headf j hj),
    fun j c hj hc => (hu.cell (p := ⟨gs j, c, none⟩) (h.hg j hj).2.1).trans (h.cell j c hj hc), fun j c hj hc => (hu.frozen (p := ⟨gs j, c, none⟩) (h.hg j hj).2.1).trans (h.cellf j c hj hc)⟩

theorem addr_ne {b b' o o' : Nat} (h : b ≠ b' ∨ o ≠ o') : (⟨b, o, none⟩ : Addr) ≠ ⟨b', o', none⟩ := by
  intro c
  injection c with c1 c2
  rcases h with h | h
  · exact h c1
  · exact h c2

/-- a store into a row -/
theorem MatAt.set {w : World} {B H n m : Nat} {gs caps : Nat → Nat} {A : Nat → Nat → Int} (h : MatAt w B H n m gs caps A) (j c : Nat) (hj : j < n) (hc : c < m) (x : Int) :
    MatAt (w.setCell ⟨gs j, c, none⟩ (.int .i64 x)) B H n m gs caps (fun j' c' => if j' = j ∧ c' = c then x else A j' c') := by
  refine ⟨by simpa using h.hH, fun k hk => by simpa using h.hg k hk, h.inj, ?_, fun k hk => by simpa using h.headf k hk, ?_, fun k d hk hd => by simpa using h.cellf k d hk hd⟩
  · intro k hk
    rw [World.cell?_setCell_other _ _ _ _ (addr_ne (Or.inl (h.hg j hj).2.2))]
    exact h.head k hk
  · intro k d hk hd
    by_cases e : k = j ∧ d = c
    · obtain ⟨rfl, rfl⟩ := e
      rw [World.cell?_setCell_same _ _ _ (h.cell k d hk hd), if_pos ⟨rfl, rfl⟩]
    · rw [if_neg e, World.cell?_setCell_other _ _ _ _ (addr_ne ?_)]
      · exact h.cell k d hk hd
      · by_cases e1 : d = c
        · refine Or.inl fun e2 => e ⟨(h.inj j k hj hk e2).symm, e1⟩
        · exact Or.inr fun e2 => e1 e2.symm

end Go.Proofs.YtcjhgbljhpflfabGreat

namespace Go.Proofs.YtcjhgbljhpflfabGreat
open Go.RowKit
set_option linter.unusedVariables false

theorem info_ints : (Tryz.prog.info? 54).map (fun i => (i.zero, i.size, i.bytes)) = some (some (.slice none 0 0), 1, 24) := by kernel_rfl

/-- the slice v owns the headers hs -/
abbrev OwnH (w : World) (base : Nat) (v : Value) (hs : List Value) : Prop := w.ownsRow base 54 1 v hs.length hs

theorem OwnH.up {w w' : World} {base : Nat} {v : Value} {xs : List Value} (h : OwnH w base v xs) (hu : Up w w') : OwnH w' base v xs := by
  refine ⟨h.1, ?_⟩
  rcases h.2 with h2 | ⟨g, cap, cur, h3, h4, h5, h6⟩
  · exact Or.inl h2
  · exact Or.inr ⟨g, cap, cur, h3, h4, by rw [hu.block g (Array.getElem?_eq_some_iff.1 h5).1]; exact h5, h6⟩

/-- headers and numbers lie in different blocks -/
theorem own_types {w : World} {base base' : Nat} {v u : Value} {hs : List Value} {xs : List Int} (h : OwnH w base v hs) (k : OwnI w base' u xs) : u.ownBlock = none ∨ u.ownBlock ≠ v.ownBlock := by
  rcases h.2 with ⟨rfl, _⟩ | ⟨g, cap, cur, rfl, _, h5, _⟩
  · rcases k.2 with ⟨rfl, _⟩ | ⟨g', cap', cur', rfl, _, _⟩
    · exact Or.inl rfl
    · exact Or.inr (by simp [Value.ownBlock])
  · rcases k.2 with ⟨rfl, _⟩ | ⟨g', cap', cur', rfl, _, k5, _⟩
    · exact Or.inl rfl
    · refine Or.inr fun c => ?_
      simp only [Value.ownBlock, Option.some.injEq] at c
      rw [c, h5] at k5
      injection k5 with k5
      injection k5 with _ k6
      exact absurd k6 (by decide)

/-- rows = append(rows, r) -/
theorem append_hdr {ops : Array Oper} {rest : List Oper} {o : Oper} {a : Act} {Q : Exit → Act → World → Prop} (w : World) (y : Value) (hy : y.oneCell' = true) (hgd : o.guard = none) (s x : Operand)
    (ho : o.op = .call { callee := .builtin .append, args := #[s, x], argTypes := #[78, 78] })
    (base : Nat) (v : Value) (xs : List Value) (hs : a.eval s = v) (hown : OwnH w base v xs) (hx : a.eval x = .slice (some ⟨w.heap.size, 0, none⟩) 1 1)
    (hlen : xs.length ≤ 1048576) (hbase : base ≤ w.heap.size)
    (h : ∀ v' w', OwnH w' base v' (xs ++ [y]) → w.grownBy w' v.ownBlock → Below base w w' → wpList Tryz.prog ops Q rest (a.put o.dst v') w') :
    wpList Tryz.prog ops Q (o :: rest) a (w.alloc (.cells #[y] 54)) := by
  obtain ⟨i0, hi, hz0, hz1, hz2⟩ := info_parts info_ints
  refine wpList_append_own_at _ hgd s x 78 ho base 54 i0 (.slice none 0 0) 1 24 Tryz.underlying78 hi hz0 hz1 hz2 rfl (by decide) v xs.length xs hs (World.ownsRow.alloc hown _)
    ⟨w.heap.size, 0, none⟩ 1 1 [y] hx rfl ?_ ?_ ?_ ?_ ?_ ?_
  · intro j u hj
    match j, hj with
    | 0, hj => simp at hj; subst hj; simp [Addr.add]
  · intro u hu; simp at hu; subst hu; exact hy
  · unfold maxLen; omega
  · omega
  · simp; omega
  · intro v' w' h1 h2 h3 h4
    have hg : w.grownBy w' v.ownBlock := ⟨h2.os, h2.tape, h2.output, Nat.le_trans (by simp) h2.size, fun k hk hne => (h2.block k (by simp; omega) hne).trans (heap_alloc_old w _ hk)⟩
    refine h v' w' ?_ hg ?_
    · show World.ownsRow _ _ _ _ _ _ _
      rw [List.length_append]
      exact h1
    · exact (Below.refl _ _).grown hg hbase (fun k hk => (World.ownsRow.lt hown k hk).1)

/-- an append of one number at a step of a region that draws -/
theorem step_append_int {ops : Array Oper} {o : Oper} {a : Act} {K : Act → World → Prop} {Q : Exit → Act → World → Prop} {E : Prop} (W : World) (y : Int) (g : Nat) (hgd : o.guard = none) (s x : Operand)
    (ho : o.op = .call { callee := .builtin .append, args := #[s, x], argTypes := #[54, 54] })
    (base : Nat) (v : Value) (xs : List Int) (hs : a.eval s = v) (hown : OwnI W base v xs) (hx : a.eval x = .slice (some ⟨g, 0, none⟩) 1 1) (hc : W.cell? ⟨g, 0, none⟩ = some (.int .i64 y))
    (hlen : xs.length ≤ 1099511627776) (hbase : base ≤ W.heap.size)
    (h : ∀ v' w', OwnI w' base v' (xs ++ [y]) → W.grownBy w' v.ownBlock → Below base W w' → K (a.put o.dst v') w') :
    if Region.wanted o (yielded ops a.tmps) = true then Oper.wp Tryz.prog o a W K Q else E := by
  have hw : Region.wanted o (yielded ops a.tmps) = true := by simp [Region.wanted, hgd]
  rw [if_pos hw]
  obtain ⟨i0, hi, hz0, hz1, hz2⟩ := info_parts info_int
  refine wp_append_own W s x 54 ho base 3 i0 (.int .i64 0) 1 8 Tryz.underlying54 hi hz0 hz1 hz2 rfl (by decide) v xs.length (xs.map (Value.int .i64)) hs hown
    ⟨g, 0, none⟩ 1 1 [.int .i64 y] hx rfl ?_ ?_ ?_ ?_ hbase ?_
  · intro j u hj
    match j, hj with
    | 0, hj => simp at hj; subst hj; simpa [Addr.add] using hc
  · intro u hu; simp at hu; subst hu; rfl
  · unfold maxLen; omega
  · omega
  · intro v' w' h1 h2 h3
    refine h v' w' ?_ h2 ?_
    · simpa [OwnI] using h1
    · exact (Below.refl _ _).grown h2 hbase (fun k hk => (World.ownsRow.lt hown k hk).1)

/-- the first m powers of point j -/
def powL (n t j m : Nat) : List Int := (List.range m).map fun c => pI n t j ^ c % (t : Int)

/-- row j of the equations -/
def eqL (n t : Nat) (ss : List Int) (j : Nat) : List Int := powL n t j n ++ [ss.getD j 0]

/-- the headers of the first k rows -/
def hdL (m : Nat) (gs caps : Nat → Nat) (k : Nat) : List Value := (List.range k).map fun j => Value.slice (some ⟨gs j, 0, none⟩) m (caps j)

theorem hdL_length (m : Nat) (gs caps : Nat → Nat) (k : Nat) : (hdL m gs caps k).length = k := by simp [hdL]

theorem hdL_succ (m : Nat) (gs caps : Nat → Nat) (k : Nat) : hdL m gs caps (k + 1) = hdL m gs caps k ++ [Value.slice (some ⟨gs k, 0, none⟩) m (caps k)] := by simp [hdL, List.range_succ]

theorem hdL_congr {m : Nat} {gs caps gs' caps' : Nat → Nat} {k : Nat} (h : ∀ j, j < k → gs j = gs' j ∧ caps j = caps' j) : hdL m gs caps k = hdL m gs' caps' k := by
  unfold hdL
  refine List.map_congr_left fun j hj => ?_
  obtain ⟨h1, h2⟩ := h j (List.mem_range.1 hj)
  rw [h1, h2]

/-- k rows are laid -/
structure Laid (w : World) (B n t : Nat) (ss : List Int) (rows : Value) (gs caps : Nat → Nat) (k : Nat) : Prop where
  hdr : OwnH w B rows (hdL (n + 1) gs caps k)
  row : ∀ j, j < k → OwnI w B (.slice (some ⟨gs j, 0, none⟩) (n + 1) (caps j)) (eqL n t ss j)
  inj : ∀ j l, j < k → l < k → gs j = gs l → j = l

theorem Laid.up {w w' : World} {B n t : Nat} {ss : List Int} {rows : Value} {gs caps : Nat → Nat} {k : Nat} (h : Laid w B n t ss rows gs caps k) (hu : Up w w') : Laid w' B n t ss rows gs caps k :=
  ⟨h.hdr.up hu, fun j hj => (h.row j hj).up hu, h.inj⟩

theorem OwnI.block_lt {w : World} {base g n cap : Nat} {xs : List Int} (h : OwnI w base (.slice (some ⟨g, 0, none⟩) n cap) xs) : base ≤ g ∧ g < w.heap.size := h.lt g rfl

/-- one row more -/
theorem Laid.next {w wx w' : World} {B n t : Nat} {ss : List Int} {rows rows' : Value} {gs caps : Nat → Nat} {k g cap : Nat} (h : Laid w B n t ss rows gs caps k) (hu : Up w wx) (hB : B ≤ w.heap.size)
    (hr : OwnI wx w.heap.size (.slice (some ⟨g, 0, none⟩) (n + 1) cap) (eqL n t ss k))
    (ho : OwnH w' B rows' (hdL (n + 1) gs caps k ++ [.slice (some ⟨g, 0, none⟩) (n + 1) cap])) (hg : wx.grownBy w' rows.ownBlock) :
    Laid w' B n t ss rows' (fun j => if j = k then g else gs j) (fun j => if j = k then cap else caps j) (k + 1) := by
  have hx := h.up hu
  have hgk := hr.block_lt
  refine ⟨?_, ?_, ?_⟩
  · rw [hdL_succ, if_pos rfl, if_pos rfl, hdL_congr (gs' := gs) (caps' := caps) (fun j hj => by rw [if_neg (by omega), if_neg (by omega)]; exact ⟨rfl, rfl⟩)]
    exact ho
  · intro j hj
    by_cases e : j = k
    · subst e
      rw [if_pos rfl, if_pos rfl]
      exact (hr.kept hg (own_types hx.hdr hr)).base hB
    · rw [if_neg e, if_neg e]
      have := hx.row j (by omega)
      exact this.kept hg (own_types hx.hdr this)
  · intro j l hj hl e
    have hlt : ∀ i, i < k → gs i < w.heap.size := fun i hi => (h.row i hi).block_lt.2
    by_cases e1 : j = k
    · by_cases e2 : l = k
      · omega
      · have := hlt l (by omega)
        rw [if_pos e1, if_neg e2] at e
        omega
    · by_cases e2 : l = k
      · have := hlt j (by omega)
        rw [if_neg e1, if_pos e2] at e
        omega
      · rw [if_neg e1, if_neg e2] at e
        exact h.inj j l (by omega) (by omega) e

end Go.Proofs.YtcjhgbljhpflfabGreat

namespace Go.Proofs.YtcjhgbljhpflfabGreat
open Go.RowKit
set_option linter.unusedVariables false

theorem ne_nil_of_length {xs : List Int} {n : Nat} (h : xs.length = n) (hn : 0 < n) : xs ≠ [] := by
  intro c
  subst c
  simp at h
  omega

theorem keepS {B a k c l : Nat} {u v : Value} {W W' : World} (hb : Below B W W') (h1 : a < B) (h2 : c < B) (hS : W.cell? ⟨a, k, none⟩ = some u ∧ W.cell? ⟨c, l, none⟩ = some v) : W'.cell? ⟨a, k, none⟩ = some u ∧ W'.cell? ⟨c, l, none⟩ = some v :=
  ⟨(hb.cell (p := ⟨a, k, none⟩) h1).trans hS.1, (hb.cell (p := ⟨c, l, none⟩) h2).trans hS.2⟩

theorem keepS3 {B a k c l d m : Nat} {u v x : Value} {W W' : World} (hb : Below B W W') (h1 : a < B) (h2 : c < B) (h3 : d < B) (hS : W.cell? ⟨a, k, none⟩ = some u ∧ W.cell? ⟨c, l, none⟩ = some v ∧ W.cell? ⟨d, m, none⟩ = some x) : W'.cell? ⟨a, k, none⟩ = some u ∧ W'.cell? ⟨c, l, none⟩ = some v ∧ W'.cell? ⟨d, m, none⟩ = some x :=
  ⟨(hb.cell (p := ⟨a, k, none⟩) h1).trans hS.1, (hb.cell (p := ⟨c, l, none⟩) h2).trans hS.2.1, (hb.cell (p := ⟨d, m, none⟩) h3).trans hS.2.2⟩

end Go.Proofs.YtcjhgbljhpflfabGreat

namespace Go.Proofs.YtcjhgbljhpflfabGreat
open Go.RowKit
set_option linter.unusedVariables false

theorem numsL_getD (l : List UInt8) (size n i : Nat) (h : i < n) : (numsL l size n).getD i 0 = (numL l (i * size) size : Int) := by
  induction n with
  | zero => omega
  | succ n ih =>
    simp only [numsL]
    by_cases e : i = n
    · subst e
      rw [List.getD_eq_getElem?_getD, List.getElem?_append_right (by rw [numsL_length]; exact Nat.le_refl _), numsL_length]
      simp
    · rw [List.getD_eq_getElem?_getD, List.getElem?_append_left (by rw [numsL_length]; omega), ← List.getD_eq_getElem?_getD]
      exact ih (by omega)

theorem numsL_bounds (l : List UInt8) (size n : Nat) (m : Int) (h : okL l n size m = true) (hm : m ≤ 65536) : ∀ i, i < (numsL l size n).length → 0 ≤ (numsL l size n).getD i 0 ∧ (numsL l size n).getD i 0 < 65536 := by
  intro i hi
  rw [numsL_length] at hi
  rw [numsL_getD _ _ _ _ hi]
  have := ((okL_iff _ _ _ _).1 h).2 i hi
  omega

theorem decI_bounds {n t : Nat} (g : NT n t) (xs : List Int) : ∀ i, i < (decI n t xs).length → 0 ≤ (decI n t xs).getD i 0 ∧ (decI n t xs).getD i 0 < 65536 := by
  intro i hi
  have hi : i < n := by simpa [decI] using hi
  have := valI_bounds g xs i
  have ht := g.ht
  unfold decI
  rw [getD_range hi]
  omega

theorem decI_length (n t : Nat) (xs : List Int) : (decI n t xs).length = n := by simp [decI]

theorem encI_length (n t : Nat) (xs : List Int) : (encI n t xs).length = n := by simp [encI]

theorem numsL_lt (l : List UInt8) (size n : Nat) (m : Int) (h : okL l n size m = true) : ∀ i, i < n → 0 ≤ (numsL l size n).getD i 0 ∧ (numsL l size n).getD i 0 < m := by
  intro i hi
  rw [numsL_getD _ _ _ _ hi]
  have := ((okL_iff _ _ _ _).1 h).2 i hi
  omega

end Go.Proofs.YtcjhgbljhpflfabGreat

namespace Go.Proofs.YtcjhgbljhpflfabGreat
open Go.RowKit
set_option linter.unusedVariables false
set_option maxRecDepth 100000

/-- all numbers lie from -m to m -/
def Bnd (xs : List Int) (m : Int) : Prop := ∀ i, -m ≤ xs.getD i 0 ∧ xs.getD i 0 ≤ m

end Go.Proofs.YtcjhgbljhpflfabGreat

namespace Go.Proofs.YtcjhgbljhpflfabGreat
open Go.RowKit
set_option linter.unusedVariables false
set_option maxRecDepth 100000

/-- a drawn pair -/
def prA (l : List UInt8) (q : Int) (at0 i : Nat) : Int := (numL l (at0 + 4 * i) 4 : Int) % q
def prE (l : List UInt8) (n at0 i : Nat) : Int := (byteL l (at0 + 4 * n + i) : Int) % 5 - 2
def pairA (l : List UInt8) (q : Int) (n at0 : Nat) : List Int := (List.range n).map (prA l q at0)
def pairE (l : List UInt8) (n at0 : Nat) : List Int := (List.range n).map (prE l n at0)

theorem keep1 {B a k : Nat} {u : Value} {W W' : World} (hb : Below B W W') (h1 : a < B) (hS : W.cell? ⟨a, k, none⟩ = some u) : W'.cell? ⟨a, k, none⟩ = some u := (hb.cell (p := ⟨a, k, none⟩) h1).trans hS

end Go.Proofs.YtcjhgbljhpflfabGreat

namespace Go.Proofs.YtcjhgbljhpflfabGreat
open Go.RowKit
set_option linter.unusedVariables false
set_option maxRecDepth 100000

/-- is the text a key? -/
def secB (l : List UInt8) (n : Nat) : Bool := decide (l.length = n + 1) && decide (byteL l 0 = 75) && okL l.tail n 1 3
def secI (l : List UInt8) (n : Nat) : List Int := (List.range n).map fun i => (byteL l (i + 1) : Int) - 1

theorem ext_list (s : ByteArray) (i j : Nat) (hj : j ≤ s.size) : (s.extract i j).data.toList = (s.data.toList.take j).drop i := by
  have e : (s.extract i j).data = s.data.extract i j := by simp
  rw [e, Array.toList_extract, List.extract_eq_take_drop, List.drop_take]

theorem ext_tail (s : ByteArray) : (s.extract 1 s.size).data.toList = s.data.toList.tail := by
  rw [ext_list s 1 s.size (Nat.le_refl _)]
  have : s.data.toList.take s.size = s.data.toList := List.take_of_length_le (by simp)
  rw [this, List.drop_one]

theorem set_range (f h : Nat → Int) (n k : Nat) (hk : k < n) : ((List.range n).map f).set k (h k) = (List.range n).map (fun i => if i = k then h k else f i) := by
  apply List.ext_getElem
  · simp
  · intro i h1 h2
    simp only [List.getElem_set, List.getElem_map, List.getElem_range]
    by_cases e : k = i
    · subst e; simp
    · rw [if_neg e, if_neg (fun c => e c.symm)]

/-- a store into an owned list -/
theorem OwnI.stored {w : World} {base g cap n : Nat} {f : Nat → Int} (h : OwnI w base (.slice (some ⟨g, 0, none⟩) n cap) ((List.range n).map f)) (k : Nat) (hk : k < n) (x : Int) :
    OwnI (w.setCell ⟨g, k, none⟩ (.int .i64 x)) base (.slice (some ⟨g, 0, none⟩) n cap) ((List.range n).map (fun i => if i = k then x else f i)) ∧ Below base w (w.setCell ⟨g, k, none⟩ (.int .i64 x)) := by
  have hlen : ((List.range n).map f).length = n := by simp
  have h' : w.ownsRow base 3 1 (.slice (some ⟨g, 0, none⟩) n cap) n (((List.range n).map f).map (Value.int .i64)) := by
    have := h
    unfold OwnI at this
    rw [hlen] at this
    exact this
  obtain ⟨h1, h2⟩ := World.ownsRow.stored h' k (.int .i64 x)
  refine ⟨?_, ?_⟩
  · have e : (((List.range n).map f).map (Value.int .i64)).set k (.int .i64 x) = ((List.range n).map (fun i => if i = k then x else f i)).map (Value.int .i64) := by
      rw [← List.map_set, set_range f (fun _ => x) n k hk]
    rw [e] at h1
    unfold OwnI
    have hl2 : ((List.range n).map (fun i => if i = k then x else f i)).length = n := by simp
    rw [hl2]
    exact h1
  · exact (Below.refl _ _).setCell (p := ⟨g, k, none⟩) (h.block_lt.1) _

theorem OwnI.cellAt {w : World} {base g cap n : Nat} {f : Nat → Int} (h : OwnI w base (.slice (some ⟨g, 0, none⟩) n cap) ((List.range n).map f)) (k : Nat) (hk : k < n) :
    w.cell? ⟨g, k, none⟩ = some (.int .i64 (f k)) ∧ w.frozen? ⟨g, k, none⟩ = false := by
  have hlen : ((List.range n).map f).length = n := by simp
  have h' : w.ownsRow base 3 1 (.slice (some ⟨g, 0, none⟩) n cap) n (((List.range n).map f).map (Value.int .i64)) := by
    have := h
    unfold OwnI at this
    rw [hlen] at this
    exact this
  refine ⟨?_, World.ownsRow.frozenAt h' k⟩
  rw [World.ownsRow.cellAt h' k (by omega)]
  simp [hk]

theorem numsL_range (l : List UInt8) (size n : Nat) : numsL l size n = (List.range n).map fun i => (numL l (i * size) size : Int) := by
  induction n with
  | zero => rfl
  | succ n ih => rw [numsL, ih, map_range_succ]

theorem byteL_tail (l : List UInt8) (i : Nat) : byteL l.tail i = byteL l (i + 1) := by
  unfold byteL
  cases l <;> simp

theorem secB_iff (l : List UInt8) (n : Nat) : secB l n = true ↔ l.length = n + 1 ∧ byteL l 0 = 75 ∧ okL l.tail n 1 3 = true := by
  unfold secB
  simp [and_assoc]

end Go.Proofs.YtcjhgbljhpflfabGreat

namespace Go.Proofs.YtcjhgbljhpflfabGreat
open Go.RowKit
set_option linter.unusedVariables false
set_option maxRecDepth 100000

/-- the place that comes to i when x^3 is put in the place of x -/
def kOf (n i : Nat) : Nat := if n = 16 then 11 * i % n else 3 * i % n

theorem kOf_facts (n : Nat) (hn : n = 4 ∨ n = 8 ∨ n = 16) : ∀ i, i < n → kOf n i < n ∧ (3 * kOf n i % (2 * n) = i ∨ 3 * kOf n i % (2 * n) = i + n) ∧ ∀ k, k < n → k ≠ kOf n i → 3 * k % (2 * n) ≠ i ∧ 3 * k % (2 * n) ≠ i + n := by
  rcases hn with rfl | rfl | rfl <;> decide

/-- coefficient i with x^3 in the place of x -/
def cubC (n : Nat) (xs : List Int) (q : Int) (i : Nat) : Int := if 3 * kOf n i % (2 * n) = i then xs.getD (kOf n i) 0 % q else -(xs.getD (kOf n i) 0) % q
def cubI (n : Nat) (xs : List Int) (q : Int) : List Int := (List.range n).map (cubC n xs q)

end Go.Proofs.YtcjhgbljhpflfabGreat

namespace Go.Proofs.YtcjhgbljhpflfabGreat
open Go.RowKit
set_option linter.unusedVariables false
set_option maxRecDepth 100000

theorem keepU {a k : Nat} {u : Value} {W W' : World} (hu : Up W W') (hS : W.cell? ⟨a, k, none⟩ = some u) : W'.cell? ⟨a, k, none⟩ = some u :=
  (hu.cell (p := ⟨a, k, none⟩) (World.block_lt_of_cell? W ⟨a, k, none⟩ hS)).trans hS

theorem getD_out (xs : List Int) (i : Nat) (h : xs.length ≤ i) : xs.getD i 0 = 0 := by
  rw [List.getD_eq_getElem?_getD, List.getElem?_eq_none h]; rfl

theorem Bnd_map {f : Nat → Int} {n : Nat} {m : Int} (hm : 0 ≤ m) (h : ∀ i, i < n → -m ≤ f i ∧ f i ≤ m) : Bnd ((List.range n).map f) m := by
  intro i
  by_cases hi : i < n
  · rw [getD_range hi]; exact h i hi
  · rw [getD_out _ _ (by simp; omega)]; omega

theorem Bnd_mod {f : Nat → Int} {n : Nat} {q m : Int} (hq : 0 < q) (hm : q ≤ m) (e : ∀ i, ∃ x, f i = x % q) : Bnd ((List.range n).map f) m := by
  refine Bnd_map (by omega) fun i _ => ?_
  obtain ⟨x, hx⟩ := e i
  have := mod_bounds hq x
  rw [hx]
  omega

theorem plusI_length (n : Nat) (xs ys : List Int) (q : Int) : (plusI n xs ys q).length = n := by simp [plusI]
theorem scaledI_length (n : Nat) (xs : List Int) (k q : Int) : (scaledI n xs k q).length = n := by simp [scaledI]
theorem timesI_length (n : Nat) (xs ys : List Int) (q : Int) : (timesI n xs ys q).length = n := by simp [timesI]
theorem pairA_length (l : List UInt8) (q : Int) (n at0 : Nat) : (pairA l q n at0).length = n := by simp [pairA]
theorem pairE_length (l : List UInt8) (n at0 : Nat) : (pairE l n at0).length = n := by simp [pairE]
theorem secI_length (l : List UInt8) (n : Nat) : (secI l n).length = n := by simp [secI]
theorem cubI_length (n : Nat) (xs : List Int) (q : Int) : (cubI n xs q).length = n := by simp [cubI]

theorem pairE_bnd (l : List UInt8) (n at0 : Nat) (m : Int) (hm : 2 ≤ m) : Bnd (pairE l n at0) m := by
  refine Bnd_map (by omega) fun i _ => ?_
  have := byteL_lt l (at0 + 4 * n + i)
  unfold prE
  omega

/-- m, hidden by a drawn pair, times k: c -/
def hidI (n : Nat) (s m : List Int) (k q : Int) (l : List UInt8) (at0 : Nat) : List Int :=
  plusI n (plusI n (pairE l n at0) (scaledI n m k q) q) (scaledI n (timesI n (pairA l q n at0) s q) (-1) q) q

theorem hidI_length (n : Nat) (s m : List Int) (k q : Int) (l : List UInt8) (at0 : Nat) : (hidI n s m k q l at0).length = n := plusI_length _ _ _ _

end Go.Proofs.YtcjhgbljhpflfabGreat

namespace Go.Proofs.YtcjhgbljhpflfabGreat
open Go.RowKit
set_option linter.unusedVariables false
set_option maxRecDepth 100000

/-- the key of these draws -/
def keyL (l : List UInt8) (n : Nat) : List UInt8 := 75 :: (List.range n).map fun i => UInt8.ofNat (byteL l i % 3)

theorem keyL_succ (l : List UInt8) (n : Nat) : keyL l (n + 1) = keyL l n ++ [UInt8.ofNat (byteL l n % 3)] := by simp [keyL, List.range_succ]
theorem keyL_length (l : List UInt8) (n : Nat) : (keyL l n).length = n + 1 := by simp [keyL]

theorem add_str (xs ys : List UInt8) (hx : xs.length ≤ 1000000) (hy : ys.length ≤ 1000000) (W : World) : (Op.stringOp .add ⟨xs.toArray⟩ ⟨ys.toArray⟩).run Tryz.prog W = .ok (.string ⟨(xs ++ ys).toArray⟩) W :=
  run_string_add_lists (P := Tryz.prog) W xs ys (by omega) (by omega)

/-- the least number of digits -/
structure DigOf (q b : Int) (L : Nat) : Prop where
  top : q ≤ 2 ^ (b.toNat * L)
  low : ∀ j, j < L → (2 : Int) ^ (b.toNat * j) < q

theorem DigOf.le {q b : Int} {L : Nat} (h : DigOf q b L) (hb : 1 ≤ b) (hq : q ≤ 1073741823) : L ≤ 30 := by
  rcases Nat.lt_or_ge 30 L with c | c
  · exfalso
    have h3 := h.low 30 c
    have h4 : (2 : Int) ^ (1 * 30) ≤ 2 ^ (b.toNat * 30) := by
      have : (2 : Nat) ^ (1 * 30) ≤ 2 ^ (b.toNat * 30) := Nat.pow_le_pow_right (by omega) (Nat.mul_le_mul_right _ (by omega))
      exact_mod_cast this
    have h5 : (2 : Int) ^ (1 * 30) = 1073741824 := by decide
    omega
  · exact c

/-- the pairs of a turning key, the first L -/
def tkL (n : Nat) (ss : List Int) (q b : Int) (l : List UInt8) : Nat → List UInt8
  | 0 => [82]
  | i + 1 => tkL n ss q b l i ++ textsL 4 (hidI n ss (cubI n ss q) (2 ^ (b.toNat * i)) q l (5 * n * i)) ++ textsL 4 (pairA l q n (5 * n * i))

theorem tkL_length (n : Nat) (ss : List Int) (q b : Int) (l : List UInt8) (i : Nat) : (tkL n ss q b l i).length = 1 + 8 * n * i := by
  induction i with
  | zero => rfl
  | succ i ih =>
    simp only [tkL, List.length_append, ih, textsL_length, hidI_length, pairA_length]
    rw [Nat.mul_succ]
    omega

theorem plusI_bounds (n : Nat) (xs ys : List Int) (q : Int) (hq : 0 < q) (i : Nat) (hi : i < (plusI n xs ys q).length) : 0 ≤ (plusI n xs ys q).getD i 0 ∧ (plusI n xs ys q).getD i 0 < q := by
  rw [plusI_length] at hi
  unfold plusI
  rw [getD_range hi]
  exact mod_bounds hq _

theorem hidI_bounds (n : Nat) (ss ms : List Int) (k q : Int) (l : List UInt8) (at0 : Nat) (hq : 0 < q) (i : Nat) (hi : i < (hidI n ss ms k q l at0).length) : 0 ≤ (hidI n ss ms k q l at0).getD i 0 ∧ (hidI n ss ms k q l at0).getD i 0 < q := plusI_bounds n _ _ q hq i hi

theorem pairA_bounds (l : List UInt8) (q : Int) (n at0 : Nat) (hq : 0 < q) (i : Nat) (hi : i < (pairA l q n at0).length) : 0 ≤ (pairA l q n at0).getD i 0 ∧ (pairA l q n at0).getD i 0 < q := by
  rw [pairA_length] at hi
  unfold pairA
  rw [getD_range hi]
  exact mod_bounds hq _

theorem pow_b (b : Int) (hb : 1 ≤ b) (hb2 : b ≤ 8) : (2 : Int) ^ b.toNat % 1048576 = 2 ^ b.toNat ∧ (2 : Int) ^ b.toNat ≤ 256 ∧ 2 ≤ (2 : Int) ^ b.toNat := by
  obtain ⟨m, rfl⟩ := Int.eq_ofNat_of_zero_le (a := b) (by omega)
  rw [Int.toNat_natCast]
  rcases (show m = 1 ∨ m = 2 ∨ m = 3 ∨ m = 4 ∨ m = 5 ∨ m = 6 ∨ m = 7 ∨ m = 8 from by omega) with rfl | rfl | rfl | rfl | rfl | rfl | rfl | rfl <;> decide

end Go.Proofs.YtcjhgbljhpflfabGreat

namespace Go.Proofs.YtcjhgbljhpflfabGreat
open Go.RowKit
set_option linter.unusedVariables false
set_option maxRecDepth 100000

/-- a ciphertext's parts -/
def ctE (l : List UInt8) : Nat := numL l 1 5
def ct0 (l : List UInt8) (n : Nat) : List Int := (List.range n).map fun i => (numL l (6 + 4 * i) 4 : Int)
def ct1 (l : List UInt8) (n : Nat) : List Int := (List.range n).map fun i => (numL l (6 + 4 * n + 4 * i) 4 : Int)

/-- is the text a ciphertext? -/
def ctB (l : List UInt8) (n : Nat) (t q : Int) : Bool :=
  decide (l.length = 6 + 8 * n) && decide (byteL l 0 = 67) && okL ((l.take (6 + 4 * n)).drop 6) n 4 q && okL (l.drop (6 + 4 * n)) n 4 q && fitsB t q (ctE l)

theorem byteL_drop (l : List UInt8) (k i : Nat) : byteL (l.drop k) i = byteL l (k + i) := by
  unfold byteL
  simp [List.getD_eq_getElem?_getD, List.getElem?_drop]

theorem byteL_take (l : List UInt8) (k i : Nat) (h : i < k) : byteL (l.take k) i = byteL l i := by
  unfold byteL
  simp [List.getD_eq_getElem?_getD, h]

theorem numL_drop (l : List UInt8) (k i m : Nat) : numL (l.drop k) i m = numL l (k + i) m := by
  induction m with
  | zero => rfl
  | succ m ih => simp only [numL]; rw [ih, byteL_drop, Nat.add_assoc]

theorem numL_take (l : List UInt8) (k i m : Nat) (h : i + m ≤ k) : numL (l.take k) i m = numL l i m := by
  induction m with
  | zero => rfl
  | succ m ih => simp only [numL]; rw [ih (by omega), byteL_take _ _ _ (by omega)]

theorem ct0_eq (l : List UInt8) (n : Nat) : numsL ((l.take (6 + 4 * n)).drop 6) 4 n = ct0 l n := by
  rw [numsL_range]
  refine List.map_congr_left fun i hi => ?_
  have := List.mem_range.1 hi
  rw [numL_drop, numL_take _ _ _ _ (by omega), Nat.mul_comm i 4]

theorem ct0_length (l : List UInt8) (n : Nat) : (ct0 l n).length = n := by simp [ct0]
theorem ct1_length (l : List UInt8) (n : Nat) : (ct1 l n).length = n := by simp [ct1]

theorem ctB_iff (l : List UInt8) (n : Nat) (t q : Int) : ctB l n t q = true ↔ l.length = 6 + 8 * n ∧ byteL l 0 = 67 ∧ okL ((l.take (6 + 4 * n)).drop 6) n 4 q = true ∧ okL (l.drop (6 + 4 * n)) n 4 q = true ∧ fitsB t q (ctE l) = true := by
  unfold ctB
  simp [and_assoc]

end Go.Proofs.YtcjhgbljhpflfabGreat

namespace Go.Proofs.YtcjhgbljhpflfabGreat
open Go.RowKit
set_option linter.unusedVariables false
set_option maxRecDepth 100000

/-- a ciphertext as bytes -/
def toldL (e : Nat) (c0 c1 : List Int) : List UInt8 := [67] ++ textL e 5 ++ textsL 4 c0 ++ textsL 4 c1

end Go.Proofs.YtcjhgbljhpflfabGreat

namespace Go.Proofs.YtcjhgbljhpflfabGreat
open Go.RowKit
set_option linter.unusedVariables false
set_option maxRecDepth 100000

/-- what Encrypt answers -/
def hideL (n t : Nat) (q : Int) (k v d : List UInt8) : List UInt8 :=
  toldL 2 (hidI n (secI k n) (encI n t (numsL v 2 n)) (q / (t : Int)) q d 0) (pairA d q n 0)

end Go.Proofs.YtcjhgbljhpflfabGreat

namespace Go.Proofs.YtcjhgbljhpflfabGreat
open Go.RowKit
set_option linter.unusedVariables false
set_option maxRecDepth 100000

/-- what is opened: coefficient i -/
def openC (t q : Int) (vs : List Int) (i : Nat) : Int := (2 * t * vs.getD i 0 + q) / (2 * q) % t
def openI (n : Nat) (t q : Int) (vs : List Int) : List Int := (List.range n).map (openC t q vs)

/-- c0 and c1 times s -/
def mixI (n : Nat) (q : Int) (c s : List UInt8) : List Int := plusI n (ct0 c n) (timesI n (ct1 c n) (secI s n) q) q

def openL (n t : Nat) (q : Int) (k c : List UInt8) : List UInt8 := textsL 2 (decI n t (openI n t q (mixI n q c k)))

theorem openI_length (n : Nat) (t q : Int) (vs : List Int) : ((List.range n).map (openC t q vs)).length = n := by simp

theorem openI_bounds (n : Nat) (t q : Int) (vs : List Int) (ht : 0 < t) (ht2 : t ≤ 1021) : ∀ i, i < ((List.range n).map (openC t q vs)).length → 0 ≤ ((List.range n).map (openC t q vs)).getD i 0 ∧ ((List.range n).map (openC t q vs)).getD i 0 < 65536 := by
  intro i hi
  rw [openI_length] at hi
  rw [getD_range hi]
  have := mod_bounds ht ((2 * t * vs.getD i 0 + q) / (2 * q))
  unfold openC
  omega

theorem OwnI.isI {w : World} {base g cap n : Nat} {xs : List Int} (h : OwnI w base (.slice (some ⟨g, 0, none⟩) n cap) xs) : IsI w g xs := by
  have h1 := h.block_lt
  refine ⟨h1.2, fun i hi => ?_⟩
  rcases h.2 with ⟨c, _⟩ | ⟨g', cap', cur, he, _, h5, _, _, _, h9⟩
  · simp at c
  · simp only [Value.slice.injEq, Option.some.injEq, Addr.mk.injEq, and_true] at he
    obtain ⟨rfl, _, _⟩ := he
    have hc : w.cell? ⟨g, i, none⟩ = cur.toList[i]? := by
      simp [World.cell?, h5]
    rw [hc]
    have h10 : (cur.toList.take (xs.length * 1))[i]? = (xs.map (Value.int .i64))[i]? := by rw [h9]
    rw [List.getElem?_take, if_pos (by omega)] at h10
    rw [h10, List.getElem?_map, List.getD_eq_getElem?_getD, List.getElem?_eq_getElem hi]
    rfl

theorem ct0_bnd (l : List UInt8) (n : Nat) (t q : Int) (h : ctB l n t q = true) (hq2 : q ≤ 1073741823) (m : Int) (hm : 1073741823 ≤ m) : Bnd (ct0 l n) m := by
  obtain ⟨_, _, h3, _, _⟩ := (ctB_iff _ _ _ _).1 h
  refine Bnd_map (by omega) fun i hi => ?_
  have := ((okL_iff _ _ _ _).1 h3).2 i hi
  rw [numL_drop, numL_take _ _ _ _ (by omega), Nat.mul_comm i 4] at this
  omega

theorem ct1_bnd (l : List UInt8) (n : Nat) (t q : Int) (h : ctB l n t q = true) (hq2 : q ≤ 1073741823) (m : Int) (hm : 1073741823 ≤ m) : Bnd (ct1 l n) m := by
  obtain ⟨_, _, _, h4, _⟩ := (ctB_iff _ _ _ _).1 h
  refine Bnd_map (by omega) fun i hi => ?_
  have := ((okL_iff _ _ _ _).1 h4).2 i hi
  rw [numL_drop, Nat.mul_comm i 4] at this
  omega

end Go.Proofs.YtcjhgbljhpflfabGreat

namespace Go.Proofs.YtcjhgbljhpflfabGreat
open Go.RowKit
set_option linter.unusedVariables false
set_option maxRecDepth 100000

/-- what Told answers -/
def tellL (t q : Int) (e : Nat) (c0 c1 : List Int) : List UInt8 × Int := if fitsB t q e = true then (toldL e c0 c1, 0) else ([], 4)

end Go.Proofs.YtcjhgbljhpflfabGreat

namespace Go.Proofs.YtcjhgbljhpflfabGreat
open Go.RowKit
set_option linter.unusedVariables false
set_option maxRecDepth 100000

/-- what Add answers -/
def addL (n t : Nat) (q : Int) (x y : List UInt8) : List UInt8 × Int :=
  tellL t q (ctE x + ctE y + (q % (t : Int)).toNat) (plusI n (ct0 x n) (ct0 y n) q) (plusI n (ct1 x n) (ct1 y n) q)

theorem ctE_lt (l : List UInt8) (n : Nat) (t q : Int) (ht : 1 ≤ t) (hq : 0 ≤ q) (h : ctB l n t q = true) : (ctE l : Int) < q := by
  obtain ⟨_, _, _, _, h5⟩ := (ctB_iff _ _ _ _).1 h
  rcases Int.lt_or_le (ctE l : Int) q with c | c
  · exact c
  · rw [fitsB_far ht hq c] at h5
    exact absurd h5 (by decide)

end Go.Proofs.YtcjhgbljhpflfabGreat

namespace Go.Proofs.YtcjhgbljhpflfabGreat
open Go.RowKit
set_option linter.unusedVariables false
set_option maxRecDepth 100000

/-- what AddPlain answers -/
def addPlainL (n t : Nat) (q : Int) (x v : List UInt8) : List UInt8 × Int :=
  tellL t q (ctE x + (q % (t : Int)).toNat) (plusI n (ct0 x n) (scaledI n (encI n t (numsL v 2 n)) (q / (t : Int)) q) q) (ct1 x n)

theorem ct1_bounds (l : List UInt8) (n : Nat) (t q : Int) (h : ctB l n t q = true) : ∀ i, i < (ct1 l n).length → 0 ≤ (ct1 l n).getD i 0 ∧ (ct1 l n).getD i 0 < q := by
  obtain ⟨_, _, _, h4, _⟩ := (ctB_iff _ _ _ _).1 h
  intro i hi
  rw [ct1_length] at hi
  unfold ct1
  rw [getD_range hi]
  have := ((okL_iff _ _ _ _).1 h4).2 i hi
  rw [numL_drop, Nat.mul_comm i 4] at this
  omega

end Go.Proofs.YtcjhgbljhpflfabGreat

namespace Go.Proofs.YtcjhgbljhpflfabGreat
open Go.RowKit
set_option linter.unusedVariables false
set_option maxRecDepth 100000

/-- a number below t, centred -/
def cenC (t x : Int) : Int := if t < 2 * x then x - t else x
def cenI (n : Nat) (t : Int) (ms : List Int) : List Int := (List.range n).map fun i => cenC t (ms.getD i 0)
def absS (t : Int) (ms : List Int) (k : Nat) : Nat := sumN (fun i => (cenC t (ms.getD i 0)).natAbs) k

theorem cenC_bounds (t x : Int) (hx : 0 ≤ x) (hx2 : x < t) : -t < 2 * cenC t x ∧ 2 * cenC t x ≤ t := by
  unfold cenC
  split <;> omega

/-- what MulPlain answers -/
def mulPlainL (n t : Nat) (q : Int) (x v : List UInt8) : List UInt8 × Int :=
  tellL t q (absS t (encI n t (numsL v 2 n)) n * (ctE x + (q % (t : Int)).toNat)) (timesI n (ct0 x n) (cenI n t (encI n t (numsL v 2 n))) q) (timesI n (ct1 x n) (cenI n t (encI n t (numsL v 2 n))) q)

end Go.Proofs.YtcjhgbljhpflfabGreat

namespace Go.Proofs.YtcjhgbljhpflfabGreat
open Go.RowKit
set_option linter.unusedVariables false
set_option maxRecDepth 100000

theorem absS_succ (t : Int) (ms : List Int) (k : Nat) : absS t ms (k + 1) = absS t ms k + (cenC t (ms.getD k 0)).natAbs := rfl

theorem absS_le (t : Int) (ms : List Int) (n k : Nat) (hk : k ≤ n) (hm : ∀ i, i < n → 0 ≤ ms.getD i 0 ∧ ms.getD i 0 < t) (ht : t ≤ 1021) : absS t ms k ≤ k * 510 := by
  induction k with
  | zero => exact Nat.le_refl _
  | succ k ih =>
    have h1 := ih (by omega)
    have h2 := hm k (by omega)
    have h3 := cenC_bounds t _ h2.1 h2.2
    rw [absS_succ]
    omega

theorem encI_lt {n t : Nat} (g : NT n t) (xs : List Int) : ∀ i, i < n → 0 ≤ (encI n t xs).getD i 0 ∧ (encI n t xs).getD i 0 < (t : Int) := by
  intro i hi
  unfold encI
  rw [getD_range hi]
  exact encC_bounds g xs i

theorem cenI_length (n : Nat) (t : Int) (ms : List Int) : (cenI n t ms).length = n := by simp [cenI]

theorem timesI_bounds (n : Nat) (xs ys : List Int) (q : Int) (hq : 0 < q) (i : Nat) (hi : i < (timesI n xs ys q).length) : 0 ≤ (timesI n xs ys q).getD i 0 ∧ (timesI n xs ys q).getD i 0 < q := by
  rw [timesI_length] at hi
  unfold timesI
  rw [getD_range hi]
  exact mod_bounds hq _

end Go.Proofs.YtcjhgbljhpflfabGreat

namespace Go.Proofs.YtcjhgbljhpflfabGreat
open Go.RowKit
set_option linter.unusedVariables false
set_option maxRecDepth 100000

theorem pow2_le {b : Nat} {j k : Nat} (h : j ≤ k) : (2 : Int) ^ (b * j) ≤ 2 ^ (b * k) := by
  have : (2 : Nat) ^ (b * j) ≤ 2 ^ (b * k) := Nat.pow_le_pow_right (by omega) (Nat.mul_le_mul_left _ h)
  exact_mod_cast this

theorem dig_up (q b : Int) (hq : 2 ≤ q) : ∀ k : Nat, q ≤ 2 ^ (b.toNat * k) → ∃ L, DigOf q b L := by
  intro k
  induction k with
  | zero => intro h; simp at h; omega
  | succ k ih =>
    intro h
    by_cases c : q ≤ 2 ^ (b.toNat * k)
    · exact ih c
    · refine ⟨k + 1, h, fun j hj => ?_⟩
      have := pow2_le (b := b.toNat) (show j ≤ k by omega)
      omega

/-- the digits -/
theorem dig_ex (q b : Int) (hq : 2 ≤ q) (hq2 : q ≤ 1073741823) (hb : 1 ≤ b) : ∃ L, DigOf q b L := by
  refine dig_up q b hq 30 ?_
  have h4 : (2 : Int) ^ (1 * 30) ≤ 2 ^ (b.toNat * 30) := by
    have : (2 : Nat) ^ (1 * 30) ≤ 2 ^ (b.toNat * 30) := Nat.pow_le_pow_right (by omega) (Nat.mul_le_mul_right _ (by omega))
    exact_mod_cast this
  have h5 : (2 : Int) ^ (1 * 30) = 1073741824 := by decide
  omega

/-- is the text a turning key of m numbers? -/
def tnB (l : List UInt8) (m : Nat) (q : Int) : Bool := decide (l.length = 1 + 4 * m) && decide (byteL l 0 = 82) && okL l.tail m 4 q

theorem tnB_iff (l : List UInt8) (m : Nat) (q : Int) : tnB l m q = true ↔ l.length = 1 + 4 * m ∧ byteL l 0 = 82 ∧ okL l.tail m 4 q = true := by
  unfold tnB
  simp [and_assoc]

/-- polynomial k of a turning key -/
def tkP (l : List UInt8) (n k : Nat) : List Int := (List.range n).map fun i => (numL l (1 + 4 * (n * k) + 4 * i) 4 : Int)

theorem tkP_length (l : List UInt8) (n k : Nat) : (tkP l n k).length = n := by simp [tkP]

theorem tk_ok (l : List UInt8) (n k m : Nat) (q : Int) (h : tnB l m q = true) (hk : n * (k + 1) ≤ m) : okL ((l.take (1 + 4 * (n * k) + 4 * n)).drop (1 + 4 * (n * k))) n 4 q = true := by
  obtain ⟨h1, _, h3⟩ := (tnB_iff _ _ _).1 h
  obtain ⟨_, h5⟩ := (okL_iff _ _ _ _).1 h3
  rw [Nat.mul_succ] at hk
  rw [okL_iff]
  refine ⟨by simp; omega, fun i hi => ?_⟩
  rw [numL_drop, numL_take _ _ _ _ (by omega)]
  have := h5 (n * k + i) (by omega)
  rw [← List.drop_one, numL_drop, show 1 + (n * k + i) * 4 = 1 + 4 * (n * k) + i * 4 by omega] at this
  exact this

theorem tk_nums (l : List UInt8) (n k : Nat) : numsL ((l.take (1 + 4 * (n * k) + 4 * n)).drop (1 + 4 * (n * k))) 4 n = tkP l n k := by
  rw [numsL_range]
  unfold tkP
  refine List.map_congr_left fun i hi => ?_
  have hi := List.mem_range.1 hi
  rw [numL_drop, numL_take _ _ _ _ (by omega), Nat.mul_comm i 4]

theorem tkP_bounds (l : List UInt8) (n k m : Nat) (q : Int) (h : tnB l m q = true) (hk : n * (k + 1) ≤ m) : ∀ i, i < n → 0 ≤ (tkP l n k).getD i 0 ∧ (tkP l n k).getD i 0 < q := by
  have h1 := tk_ok l n k m q h hk
  have h2 := numsL_lt _ 4 n q h1
  rw [tk_nums] at h2
  exact h2

end Go.Proofs.YtcjhgbljhpflfabGreat

namespace Go.Proofs.YtcjhgbljhpflfabGreat
open Go.RowKit
set_option linter.unusedVariables false
set_option maxRecDepth 100000

/-- the i-th digits -/
def digC (X : List Int) (B : Int) (i j : Nat) : Int := X.getD j 0 / B ^ i % B
def digI (n : Nat) (X : List Int) (B : Int) (i : Nat) : List Int := (List.range n).map (digC X B i)
def restC (X : List Int) (B : Int) (i j : Nat) : Int := X.getD j 0 / B ^ i

/-- c0 behind the first i digits -/
def turn0 (n : Nat) (q B : Int) (a X : List Int) (l : List UInt8) : Nat → List Int
  | 0 => a
  | i + 1 => plusI n (turn0 n q B a X l i) (timesI n (tkP l n (2 * i)) (digI n X B i) q) q
/-- c1 behind the first i digits -/
def turn1 (n : Nat) (q B : Int) (X : List Int) (l : List UInt8) : Nat → List Int
  | 0 => (List.range n).map fun _ => 0
  | i + 1 => plusI n (turn1 n q B X l i) (timesI n (tkP l n (2 * i + 1)) (digI n X B i) q) q

/-- what Turn answers -/
def turnL (n t : Nat) (q b : Int) (L : Nat) (x l : List UInt8) : List UInt8 × Int :=
  tellL t q (ctE x + (q % (t : Int)).toNat + L * n * ((2 : Int) ^ b.toNat - 1).toNat * 2) (turn0 n q (2 ^ b.toNat) (cubI n (ct0 x n) q) (cubI n (ct1 x n) q) l L) (turn1 n q (2 ^ b.toNat) (cubI n (ct1 x n) q) l L)

theorem digI_length (n : Nat) (X : List Int) (B : Int) (i : Nat) : (digI n X B i).length = n := by simp [digI]
theorem turn0_length (n : Nat) (q B : Int) (a X : List Int) (l : List UInt8) (i : Nat) (h : a.length = n) : (turn0 n q B a X l i).length = n := by
  cases i with
  | zero => exact h
  | succ i => exact plusI_length _ _ _ _
theorem turn1_length (n : Nat) (q B : Int) (X : List Int) (l : List UInt8) (i : Nat) : (turn1 n q B X l i).length = n := by
  cases i with
  | zero => simp [turn1]
  | succ i => exact plusI_length _ _ _ _
theorem turn0_bounds (n : Nat) (q B : Int) (a X : List Int) (l : List UInt8) (i : Nat) (hq : 0 < q) (h : ∀ j, j < n → 0 ≤ a.getD j 0 ∧ a.getD j 0 < q) : ∀ j, j < n → 0 ≤ (turn0 n q B a X l i).getD j 0 ∧ (turn0 n q B a X l i).getD j 0 < q := by
  cases i with
  | zero => exact h
  | succ i => exact fun j hj => plusI_bounds _ _ _ _ hq j (by rw [plusI_length]; exact hj)
theorem turn1_bounds (n : Nat) (q B : Int) (X : List Int) (l : List UInt8) (i : Nat) (hq : 0 < q) : ∀ j, j < n → 0 ≤ (turn1 n q B X l i).getD j 0 ∧ (turn1 n q B X l i).getD j 0 < q := by
  cases i with
  | zero => intro j hj; simp only [turn1]; rw [getD_range hj]; omega
  | succ i => exact fun j hj => plusI_bounds _ _ _ _ hq j (by rw [plusI_length]; exact hj)

theorem cubI_bounds (n : Nat) (xs : List Int) (q : Int) (hq : 0 < q) : ∀ i, i < n → 0 ≤ (cubI n xs q).getD i 0 ∧ (cubI n xs q).getD i 0 < q := by
  intro i hi
  unfold cubI
  rw [getD_range hi]
  unfold cubC
  split <;> exact mod_bounds hq _

end Go.Proofs.YtcjhgbljhpflfabGreat

namespace Go.Proofs.YtcjhgbljhpflfabGreat
open Go.RowKit
set_option linter.unusedVariables false
set_option maxRecDepth 100000

end Go.Proofs.YtcjhgbljhpflfabGreat
