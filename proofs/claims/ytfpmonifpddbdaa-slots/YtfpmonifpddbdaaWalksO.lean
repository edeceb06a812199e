/-
  Rows in memory, one after the other.
-/
import Derived.Test.YtfpmonifpddbdaaWalksM
import Derived.Deep.RegionHeld3
namespace Go.Proofs.Ytfpmonifpddbdaa
open Go.RowKit
set_option linter.unusedVariables false

theorem info_ints : (Try.prog.info? 51).map (fun i => (i.zero, i.size, i.bytes)) = some (some (.slice none 0 0), 1, 24) := by kernel_rfl

/-- the slice v owns the headers hs -/
abbrev OwnH (w : World) (base : Nat) (v : Value) (hs : List Value) : Prop := w.ownsRow base 51 1 v hs.length hs

theorem OwnH.up {w w' : World} {base : Nat} {v : Value} {xs : List Value} (h : OwnH w base v xs) (hu : Up w w') : OwnH w' base v xs := by
  refine ⟨h.1, ?_⟩
  rcases h.2 with h2 | ⟨g, cap, cur, h3, h4, h5, h6⟩
  · exact Or.inl h2
  · exact Or.inr ⟨g, cap, cur, h3, h4, by rw [hu.block g (Array.getElem?_eq_some_iff.1 h5).1]; exact h5, h6⟩

/-- headers and numbers lie in different blocks -/
theorem own_types {w : World} {base base' : Nat} {v u : Value} {hs : List Value} {xs : List Int} (h : OwnH w base v hs) (k : OwnI w base' u xs) : u.ownBlock = none ∨ u.ownBlock ≠ v.ownBlock := by
  rcases h.2 with ⟨rfl, _⟩ | ⟨g, cap, cur, rfl, _, h5, _⟩
  · rcases k.2 with ⟨rfl, _⟩ | ⟨g', cap', cur', rfl, _, _⟩
    · exact Or.inl rfl
    · exact Or.inr (by simp [Value.ownBlock])
  · rcases k.2 with ⟨rfl, _⟩ | ⟨g', cap', cur', rfl, _, k5, _⟩
    · exact Or.inl rfl
    · refine Or.inr fun c => ?_
      simp only [Value.ownBlock, Option.some.injEq] at c
      rw [c, h5] at k5
      injection k5 with k5
      injection k5 with _ k6
      exact absurd k6 (by decide)

/-- rows = append(rows, r) -/
theorem append_hdr {ops : Array Oper} {rest : List Oper} {o : Oper} {a : Act} {Q : Exit → Act → World → Prop} (w : World) (y : Value) (hy : y.oneCell' = true) (hgd : o.guard = none) (s x : Operand)
    (ho : o.op = .call { callee := .builtin .append, args := #[s, x], argTypes := #[112, 112] })
    (base : Nat) (v : Value) (xs : List Value) (hs : a.eval s = v) (hown : OwnH w base v xs) (hx : a.eval x = .slice (some ⟨w.heap.size, 0, none⟩) 1 1)
    (hlen : xs.length ≤ 1048576) (hbase : base ≤ w.heap.size)
    (h : ∀ v' w', OwnH w' base v' (xs ++ [y]) → w.grownBy w' v.ownBlock → Below base w w' → wpList Try.prog ops Q rest (a.put o.dst v') w') :
    wpList Try.prog ops Q (o :: rest) a (w.alloc (.cells #[y] 51)) := by
  obtain ⟨i0, hi, hz0, hz1, hz2⟩ := info_parts info_ints
  refine wpList_append_own_at _ hgd s x 112 ho base 51 i0 (.slice none 0 0) 1 24 Try.underlying112 hi hz0 hz1 hz2 rfl (by decide) v xs.length xs hs (World.ownsRow.alloc hown _)
    ⟨w.heap.size, 0, none⟩ 1 1 [y] hx rfl ?_ ?_ ?_ ?_ ?_ ?_
  · intro j u hj
    match j, hj with
    | 0, hj => simp at hj; subst hj; simp [Addr.add]
  · intro u hu; simp at hu; subst hu; exact hy
  · unfold maxLen; omega
  · omega
  · simp; omega
  · intro v' w' h1 h2 h3 h4
    have hg : w.grownBy w' v.ownBlock := ⟨h2.os, h2.tape, h2.output, Nat.le_trans (by simp) h2.size, fun k hk hne => (h2.block k (by simp; omega) hne).trans (heap_alloc_old w _ hk)⟩
    refine h v' w' ?_ hg ?_
    · show World.ownsRow _ _ _ _ _ _ _
      rw [List.length_append]
      exact h1
    · exact (Below.refl _ _).grown hg hbase (fun k hk => (World.ownsRow.lt hown k hk).1)

/-- an append of one number at a step of a region that draws -/
theorem step_append_int {ops : Array Oper} {o : Oper} {a : Act} {K : Act → World → Prop} {Q : Exit → Act → World → Prop} {E : Prop} (W : World) (y : Int) (g : Nat) (hgd : o.guard = none) (s x : Operand)
    (ho : o.op = .call { callee := .builtin .append, args := #[s, x], argTypes := #[51, 51] })
    (base : Nat) (v : Value) (xs : List Int) (hs : a.eval s = v) (hown : OwnI W base v xs) (hx : a.eval x = .slice (some ⟨g, 0, none⟩) 1 1) (hc : W.cell? ⟨g, 0, none⟩ = some (.int .i64 y))
    (hlen : xs.length ≤ 1099511627776) (hbase : base ≤ W.heap.size)
    (h : ∀ v' w', OwnI w' base v' (xs ++ [y]) → W.grownBy w' v.ownBlock → Below base W w' → K (a.put o.dst v') w') :
    if Region.wanted o (yielded ops a.tmps) = true then Oper.wp Try.prog o a W K Q else E := by
  have hw : Region.wanted o (yielded ops a.tmps) = true := by simp [Region.wanted, hgd]
  rw [if_pos hw]
  obtain ⟨i0, hi, hz0, hz1, hz2⟩ := info_parts info_int
  refine wp_append_own W s x 51 ho base 3 i0 (.int .i64 0) 1 8 Try.underlying51 hi hz0 hz1 hz2 rfl (by decide) v xs.length (xs.map (Value.int .i64)) hs hown
    ⟨g, 0, none⟩ 1 1 [.int .i64 y] hx rfl ?_ ?_ ?_ ?_ hbase ?_
  · intro j u hj
    match j, hj with
    | 0, hj => simp at hj; subst hj; simpa [Addr.add] using hc
  · intro u hu; simp at hu; subst hu; rfl
  · unfold maxLen; omega
  · omega
  · intro v' w' h1 h2 h3
    refine h v' w' ?_ h2 ?_
    · simpa [OwnI] using h1
    · exact (Below.refl _ _).grown h2 hbase (fun k hk => (World.ownsRow.lt hown k hk).1)

/-- the first m powers of point j -/
def powL (n t j m : Nat) : List Int := (List.range m).map fun c => pI n t j ^ c % (t : Int)

theorem powL_length (n t j m : Nat) : (powL n t j m).length = m := by simp [powL]

theorem powL_succ (n t j m : Nat) : powL n t j (m + 1) = powL n t j m ++ [pI n t j ^ m % (t : Int)] := by simp [powL, List.range_succ]

/-- row j of the equations -/
def eqL (n t : Nat) (ss : List Int) (j : Nat) : List Int := powL n t j n ++ [ss.getD j 0]

theorem eqL_length (n t : Nat) (ss : List Int) (j : Nat) : (eqL n t ss j).length = n + 1 := by simp [eqL, powL_length]

theorem eqL_getD (n t : Nat) (ss : List Int) (j c : Nat) (hc : c < n + 1) : (eqL n t ss j).getD c 0 = if c < n then pI n t j ^ c % (t : Int) else ss.getD j 0 := by
  unfold eqL
  by_cases h : c < n
  · rw [if_pos h, List.getD_eq_getElem?_getD, List.getElem?_append_left (by rw [powL_length]; exact h), ← List.getD_eq_getElem?_getD]
    unfold powL
    rw [getD_range h]
  · rw [if_neg h]
    obtain rfl : c = n := by omega
    rw [List.getD_eq_getElem?_getD, List.getElem?_append_right (by rw [powL_length]; exact Nat.le_refl _), powL_length]
    simp

/-- the headers of the first k rows -/
def hdL (m : Nat) (gs caps : Nat → Nat) (k : Nat) : List Value := (List.range k).map fun j => Value.slice (some ⟨gs j, 0, none⟩) m (caps j)

theorem hdL_length (m : Nat) (gs caps : Nat → Nat) (k : Nat) : (hdL m gs caps k).length = k := by simp [hdL]

theorem hdL_succ (m : Nat) (gs caps : Nat → Nat) (k : Nat) : hdL m gs caps (k + 1) = hdL m gs caps k ++ [Value.slice (some ⟨gs k, 0, none⟩) m (caps k)] := by simp [hdL, List.range_succ]

theorem hdL_congr {m : Nat} {gs caps gs' caps' : Nat → Nat} {k : Nat} (h : ∀ j, j < k → gs j = gs' j ∧ caps j = caps' j) : hdL m gs caps k = hdL m gs' caps' k := by
  unfold hdL
  refine List.map_congr_left fun j hj => ?_
  obtain ⟨h1, h2⟩ := h j (List.mem_range.1 hj)
  rw [h1, h2]

/-- k rows are laid -/
structure Laid (w : World) (B n t : Nat) (ss : List Int) (rows : Value) (gs caps : Nat → Nat) (k : Nat) : Prop where
  hdr : OwnH w B rows (hdL (n + 1) gs caps k)
  row : ∀ j, j < k → OwnI w B (.slice (some ⟨gs j, 0, none⟩) (n + 1) (caps j)) (eqL n t ss j)
  inj : ∀ j l, j < k → l < k → gs j = gs l → j = l

theorem Laid.up {w w' : World} {B n t : Nat} {ss : List Int} {rows : Value} {gs caps : Nat → Nat} {k : Nat} (h : Laid w B n t ss rows gs caps k) (hu : Up w w') : Laid w' B n t ss rows gs caps k :=
  ⟨h.hdr.up hu, fun j hj => (h.row j hj).up hu, h.inj⟩

theorem OwnI.block_lt {w : World} {base g n cap : Nat} {xs : List Int} (h : OwnI w base (.slice (some ⟨g, 0, none⟩) n cap) xs) : base ≤ g ∧ g < w.heap.size := h.lt g rfl

/-- all rows are laid: a matrix -/
theorem Laid.mat {w : World} {B n t : Nat} {ss : List Int} {rows : Value} {gs caps : Nat → Nat} (h : Laid w B n t ss rows gs caps n) (hn : 0 < n) :
    ∃ H hcap, rows = .slice (some ⟨H, 0, none⟩) n hcap ∧ MatAt w B H n (n + 1) gs caps (fun j c => if c < n then pI n t j ^ c % (t : Int) else ss.getD j 0) := by
  have hh := h.hdr
  rcases hh.2 with ⟨_, h0⟩ | ⟨H, hcap, cur, rfl, hB, h5, _⟩
  · rw [hdL_length] at h0; omega
  · rw [hdL_length]
    refine ⟨H, hcap, rfl, ⟨hB, (Array.getElem?_eq_some_iff.1 h5).1⟩, fun j hj => ⟨(h.row j hj).block_lt.1, (h.row j hj).block_lt.2, ?_⟩, fun j l hj hl e => h.inj j l hj hl e, ?_, fun j hj => ?_, ?_, fun j c hj hc => ?_⟩
    · intro e
      have := own_types hh (h.row j hj)
      simp [Value.ownBlock, e] at this
    · intro j hj
      rw [World.ownsRow.cellAt hh j (by rw [hdL_length]; omega)]
      simp [hdL, hj]
    · exact World.ownsRow.frozenAt hh j
    · intro j c hj hc
      have hr := h.row j hj
      have hl := eqL_length n t ss j
      have hr2 : w.ownsRow B 3 1 (.slice (some ⟨gs j, 0, none⟩) (n + 1) (caps j)) (n + 1) ((eqL n t ss j).map (Value.int .i64)) := by
        have : OwnI w B (.slice (some ⟨gs j, 0, none⟩) (n + 1) (caps j)) (eqL n t ss j) := hr
        unfold OwnI at this
        rw [hl] at this
        exact this
      rw [World.ownsRow.cellAt hr2 c (by omega), List.getElem?_map, ← eqL_getD n t ss j c hc, List.getD_eq_getElem?_getD, List.getElem?_eq_getElem (by omega)]
      rfl
    · have hr := h.row j hj
      have hl := eqL_length n t ss j
      have hr2 : w.ownsRow B 3 1 (.slice (some ⟨gs j, 0, none⟩) (n + 1) (caps j)) (n + 1) ((eqL n t ss j).map (Value.int .i64)) := by
        have : OwnI w B (.slice (some ⟨gs j, 0, none⟩) (n + 1) (caps j)) (eqL n t ss j) := hr
        unfold OwnI at this
        rw [hl] at this
        exact this
      exact World.ownsRow.frozenAt hr2 c

/-- one row more -/
theorem Laid.next {w wx w' : World} {B n t : Nat} {ss : List Int} {rows rows' : Value} {gs caps : Nat → Nat} {k g cap : Nat} (h : Laid w B n t ss rows gs caps k) (hu : Up w wx) (hB : B ≤ w.heap.size)
    (hr : OwnI wx w.heap.size (.slice (some ⟨g, 0, none⟩) (n + 1) cap) (eqL n t ss k))
    (ho : OwnH w' B rows' (hdL (n + 1) gs caps k ++ [.slice (some ⟨g, 0, none⟩) (n + 1) cap])) (hg : wx.grownBy w' rows.ownBlock) :
    Laid w' B n t ss rows' (fun j => if j = k then g else gs j) (fun j => if j = k then cap else caps j) (k + 1) := by
  have hx := h.up hu
  have hgk := hr.block_lt
  refine ⟨?_, ?_, ?_⟩
  · rw [hdL_succ, if_pos rfl, if_pos rfl, hdL_congr (gs' := gs) (caps' := caps) (fun j hj => by rw [if_neg (by omega), if_neg (by omega)]; exact ⟨rfl, rfl⟩)]
    exact ho
  · intro j hj
    by_cases e : j = k
    · subst e
      rw [if_pos rfl, if_pos rfl]
      exact (hr.kept hg (own_types hx.hdr hr)).base hB
    · rw [if_neg e, if_neg e]
      have := hx.row j (by omega)
      exact this.kept hg (own_types hx.hdr this)
  · intro j l hj hl e
    have hlt : ∀ i, i < k → gs i < w.heap.size := fun i hi => (h.row i hi).block_lt.2
    by_cases e1 : j = k
    · by_cases e2 : l = k
      · omega
      · have := hlt l (by omega)
        rw [if_pos e1, if_neg e2] at e
        omega
    · by_cases e2 : l = k
      · have := hlt j (by omega)
        rw [if_neg e1, if_pos e2] at e
        omega
      · rw [if_neg e1, if_neg e2] at e
        exact h.inj j l (by omega) (by omega) e

end Go.Proofs.Ytfpmonifpddbdaa
