/-
  A row of layers in memory, as it grows, of the statements without the document's answer.
-/
import Derived.Test.YtcjhgbljhpflfabGreatKeepWf
namespace Go.Proofs.YtcjhgbljhpflfabGreat
open Go.RowKit
set_option linter.unusedVariables false
set_option maxRecDepth 100000

theorem info_klay : (Tryz.prog.info? 56).map (fun i => (i.zero, i.size, i.bytes)) = some (some (.agg #[.bool false, .int .i64 0, .slice none 0 0, .slice none 0 0]), 4, 64) := by kernel_rfl

/-- l = append(l, y) -/
theorem append_klay {ops : Array Oper} {rest : List Oper} {o : Oper} {a : Act} {Q : Exit → Act → World → Prop} (w : World) (y0 y1 y2 y3 : Value) (hy0 : y0.oneCell' = true) (hy1 : y1.oneCell' = true) (hy2 : y2.oneCell' = true) (hy3 : y3.oneCell' = true) (hgd : o.guard = none) (s x : Operand)
    (ho : o.op = .call { callee := .builtin .append, args := #[s, x], argTypes := #[53, 53] })
    (base : Nat) (v : Value) (k : Nat) (xs : List Value) (hs : a.eval s = v) (hown : w.ownsRow base 56 4 v k xs) (hx : a.eval x = .slice (some ⟨w.heap.size, 0, none⟩) 1 1)
    (hlen : k ≤ 1048576) (hbase : base ≤ w.heap.size)
    (h : ∀ v' w', w'.ownsRow base 56 4 v' (k + 1) (xs ++ [y0, y1, y2, y3]) → w.grownBy w' v.ownBlock → Below base w w' → wpList Tryz.prog ops Q rest (a.put o.dst v') w') :
    wpList Tryz.prog ops Q (o :: rest) a (w.alloc (.cells #[y0, y1, y2, y3] 56)) := by
  obtain ⟨i0, hi, hz0, hz1, hz2⟩ := info_parts info_klay
  refine wpList_append_own_at _ hgd s x 53 ho base 56 i0 (.agg #[.bool false, .int .i64 0, .slice none 0 0, .slice none 0 0]) 4 64 Tryz.underlying53 hi hz0 hz1 hz2 rfl (by decide) v k xs hs (World.ownsRow.alloc hown _)
    ⟨w.heap.size, 0, none⟩ 1 1 [y0, y1, y2, y3] hx rfl ?_ ?_ ?_ ?_ ?_ ?_
  · intro j u hj
    match j, hj with
    | 0, hj => simp at hj; subst hj; simp [Addr.add]
    | 1, hj => simp at hj; subst hj; simp [Addr.add]
    | 2, hj => simp at hj; subst hj; simp [Addr.add]
    | 3, hj => simp at hj; subst hj; simp [Addr.add]
  · intro u hu
    simp at hu
    rcases hu with rfl | rfl | rfl | rfl
    · exact hy0
    · exact hy1
    · exact hy2
    · exact hy3
  · unfold maxLen; omega
  · omega
  · simp; omega
  · intro v' w' h1 h2 h3 h4
    have hg : w.grownBy w' v.ownBlock := ⟨h2.os, h2.tape, h2.output, Nat.le_trans (by simp) h2.size, fun k hk hne => (h2.block k (by simp; omega) hne).trans (heap_alloc_old w _ hk)⟩
    refine h v' w' h1 hg ?_
    exact (Below.refl _ _).grown hg hbase (fun k hk => (World.ownsRow.lt hown k hk).1)

/-- a layer as four values -/
def LayV (w : World) (n : Nat) (l : Lay) (a0 a1 a2 a3 : Value) : Prop :=
  ∃ gm cm gb cb : Nat, a0 = .bool l.bd ∧ a1 = .int .i64 (l.s : Int) ∧ a2 = .slice (some ⟨gm, 0, none⟩) (n / 2 * (n / 2)) cm ∧ a3 = .slice (some ⟨gb, 0, none⟩) n cb ∧ IsI w gm l.M ∧ IsI w gb l.B

theorem LayV.up {w w' : World} {n : Nat} {l : Lay} {a0 a1 a2 a3 : Value} (h : LayV w n l a0 a1 a2 a3) (hu : Up w w') : LayV w' n l a0 a1 a2 a3 := by
  obtain ⟨gm, cm, gb, cb, e0, e1, e2, e3, im, ib⟩ := h
  exact ⟨gm, cm, gb, cb, e0, e1, e2, e3, im.up hu, ib.up hu⟩

abbrev xsD (xs : List Value) (i : Nat) : Value := xs.getD i (.bool false)

/-- the k layers F of a row -/
structure LaysK (w : World) (base n t : Nat) (v : Value) (k : Nat) (F : Nat → Lay) (xs : List Value) : Prop where
  own : w.ownsRow base 56 4 v k xs
  nil : k = 0 → v = .slice none 0 0
  lay : ∀ i, i < k → LayV w n (F i) (xsD xs (4 * i)) (xsD xs (4 * i + 1)) (xsD xs (4 * i + 2)) (xsD xs (4 * i + 3))
  ok : ∀ i, i < k → (F i).Ok n t

theorem LaysK.empty (w : World) (base n t : Nat) (F : Nat → Lay) : LaysK w base n t (.slice none 0 0) 0 F [] := ⟨World.ownsRow_nil _ _ _ _, fun _ => rfl, fun i hi => absurd hi (Nat.not_lt_zero _), fun i hi => absurd hi (Nat.not_lt_zero _)⟩

theorem LaysK.up {w w' : World} {base n t : Nat} {v : Value} {k : Nat} {F : Nat → Lay} {xs : List Value} (h : LaysK w base n t v k F xs) (hu : Up w w') : LaysK w' base n t v k F xs := by
  refine ⟨⟨h.own.1, ?_⟩, h.nil, fun i hi => (h.lay i hi).up hu, h.ok⟩
  rcases h.own.2 with h2 | ⟨g, cap, cur, rfl, h4, h5, h6⟩
  · exact Or.inl h2
  · exact Or.inr ⟨g, cap, cur, rfl, h4, by rw [hu.block g (Array.getElem?_eq_some_iff.1 h5).1]; exact h5, h6⟩

/-- a list of numbers is not the row's block -/
theorem LaysK.far {w : World} {base n t : Nat} {v : Value} {k : Nat} {F : Nat → Lay} {xs : List Value} (h : LaysK w base n t v k F xs) {g : Nat} {ys : List Int} (hy : IsI w g ys) (hl : 0 < ys.length) : some g ≠ v.ownBlock := by
  intro e
  have ho := h.own
  rcases ho.2 with ⟨rfl, _⟩ | ⟨g', cap', cur, rfl, _⟩
  · cases e
  · simp only [Value.ownBlock, Option.some.injEq] at e
    subst e
    by_cases hk : 1 ≤ k
    · obtain ⟨gm, cm, gb, cb, e0, _⟩ := h.lay 0 (by omega)
      have hx := ho.1
      have hc2 := World.ownsRow.cellAt ho 0 (by omega)
      have hc := hy.2 0 hl
      rw [hc, List.getElem?_eq_getElem (by omega)] at hc2
      unfold xsD at e0
      rw [List.getD_eq_getElem?_getD, List.getElem?_eq_getElem (by omega)] at e0
      simp only [Option.getD_some] at e0
      rw [e0] at hc2
      cases hc2
    · have := h.nil (by omega)
      cases this

theorem LayV.grown {w w' : World} {base n t : Nat} {v : Value} {k : Nat} {F : Nat → Lay} {xs : List Value} (h : LaysK w base n t v k F xs) {l : Lay} {a0 a1 a2 a3 : Value} (hl : LayV w n l a0 a1 a2 a3) (ol : l.Ok n t) (hn : 4 ≤ n) (hg : w.grownBy w' v.ownBlock) : LayV w' n l a0 a1 a2 a3 := by
  obtain ⟨gm, cm, gb, cb, e0, e1, e2, e3, im, ib⟩ := hl
  have hm : 0 < n / 2 * (n / 2) := Nat.mul_pos (by omega) (by omega)
  exact ⟨gm, cm, gb, cb, e0, e1, e2, e3, im.grown hg (h.far im (by rw [ol.hM]; exact hm)), ib.grown hg (h.far ib (by rw [ol.hB]; omega))⟩

/-- one more layer -/
theorem LaysK.more {w w' : World} {base n t : Nat} {v v' : Value} {k : Nat} {F : Nat → Lay} {xs : List Value} {l : Lay} {a0 a1 a2 a3 : Value} (h : LaysK w base n t v k F xs) (hl : LayV w n l a0 a1 a2 a3) (ol : l.Ok n t) (hn : 4 ≤ n) (ho : w'.ownsRow base 56 4 v' (k + 1) (xs ++ [a0, a1, a2, a3])) (hg : w.grownBy w' v.ownBlock) :
    LaysK w' base n t v' (k + 1) (fun i => if i = k then l else F i) (xs ++ [a0, a1, a2, a3]) := by
  have hx := h.own.1
  refine ⟨ho, fun c => by omega, fun i hi => ?_, fun i hi => ?_⟩
  · by_cases e : i = k
    · subst e
      have g : ∀ j, j < 4 → xsD (xs ++ [a0, a1, a2, a3]) (4 * i + j) = [a0, a1, a2, a3].getD j (.bool false) := fun j hj => by
        unfold xsD
        rw [List.getD_eq_getElem?_getD, List.getElem?_append_right (by omega), show 4 * i + j - xs.length = j by omega, ← List.getD_eq_getElem?_getD]
      rw [if_pos rfl, show 4 * i = 4 * i + 0 by omega, g 0 (by omega), show 4 * i + 0 + 1 = 4 * i + 1 by omega, g 1 (by omega), show 4 * i + 0 + 2 = 4 * i + 2 by omega, g 2 (by omega), show 4 * i + 0 + 3 = 4 * i + 3 by omega, g 3 (by omega)]
      exact LayV.grown h hl ol hn hg
    · have g : ∀ j, j < 4 → xsD (xs ++ [a0, a1, a2, a3]) (4 * i + j) = xsD xs (4 * i + j) := fun j hj => by
        unfold xsD
        rw [List.getD_eq_getElem?_getD, List.getElem?_append_left (by omega), ← List.getD_eq_getElem?_getD]
      have hh := h.lay i (by omega)
      rw [show 4 * i = 4 * i + 0 by omega] at hh ⊢
      rw [if_neg e, g 0 (by omega), show 4 * i + 0 + 1 = 4 * i + 1 by omega, g 1 (by omega), show 4 * i + 0 + 2 = 4 * i + 2 by omega, g 2 (by omega), show 4 * i + 0 + 3 = 4 * i + 3 by omega, g 3 (by omega)]
      exact LayV.grown h hh (h.ok i (by omega)) hn hg
  · by_cases e : i = k
    · rw [if_pos e]; exact ol
    · rw [if_neg e]; exact h.ok i (by omega)

/-- the row in memory -/
theorem LaysK.at_ {w : World} {base n t : Nat} {v : Value} {k : Nat} {F : Nat → Lay} {xs : List Value} (h : LaysK w base n t v k F xs) (hk : 1 ≤ k) :
    ∃ H cap, v = .slice (some ⟨H, 0, none⟩) k cap ∧ base ≤ H ∧ ∀ i, i < k → LayAt w H (i * 4) n (F i) := by
  have ho := h.own
  have hl := ho.1
  rcases ho.2 with ⟨_, h0⟩ | ⟨H, cap, cur, rfl, hB, h5, h6, _⟩
  · omega
  · refine ⟨H, cap, rfl, hB, fun i hi => ?_⟩
    have g : ∀ j, j < 4 → w.cell? ⟨H, i * 4 + j, none⟩ = some (xsD xs (4 * i + j)) := fun j hj => by
      have hc := World.ownsRow.cellAt ho (4 * i + j) (by omega)
      rw [Nat.mul_comm i 4, hc]
      unfold xsD
      rw [List.getD_eq_getElem?_getD, List.getElem?_eq_getElem (by omega)]
      rfl
    obtain ⟨gm, cm, gb, cb, e0, e1, e2, e3, im, ib⟩ := h.lay i hi
    exact ⟨gm, cm, gb, cb, by rw [← e0]; exact g 0 (by omega), by rw [← e1]; exact g 1 (by omega), by rw [← e2]; exact g 2 (by omega), by rw [← e3]; exact g 3 (by omega), im, ib⟩

end Go.Proofs.YtcjhgbljhpflfabGreat
