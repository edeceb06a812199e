/-
  Walks: the program's reading of a net.
-/
import Derived.Test.YtcjhgbljhpflfabGreatCodeLa
import Derived.Test.YtcjhgbljhpflfabGreatCodeV
import Derived.Test.YtcjhgbljhpflfabGreatWalksNa
namespace Go.Proofs.YtcjhgbljhpflfabGreat
open Go.RowKit
set_option linter.unusedVariables false
set_option maxRecDepth 100000

set_option maxHeartbeats 400000 in
theorem length_calls (n : Nat) (t q b : Int) (w : World) (hn : n = 4 ∨ n = 8 ∨ n = 16) :
    Calls Tryz.prog 124 #[.agg #[.int .i64 n, .int .i64 t, .int .i64 q, .int .i64 b]] w fun e w' => e = .returned (.int .i64 (sizN n : Nat)) ∧ Up w w' := by
  rcases hn with rfl | rfl | rfl
  all_goals
    go_enter Tryz.func124, Tryz.ntmps124
    go_wp2
    go_ret
    exact ⟨rfl, (Up.refl _).alloc _⟩

/-- a layer as it lies in memory: what it makes, by how much it shifts, its matrix, its bias -/
def LayX (w : World) (n d : Nat) (l : List UInt8) (a0 a1 a2 a3 : Value) : Prop :=
  ∃ (H cap : Nat) (gs caps : Nat → Nat) (gb cb : Nat), a0 = .bool (byteL l 1 == 1) ∧ a1 = .int .i64 (byteL l 2 : Nat) ∧ a2 = .slice (some ⟨H, 0, none⟩) d cap ∧ a3 = .slice (some ⟨gb, 0, none⟩) n cb ∧ RowsAt w H d d gs caps (matR n l) ∧ IsI w gb (biasI n l)

theorem LayX.up {w w' : World} {n d : Nat} {l : List UInt8} {a0 a1 a2 a3 : Value} (h : LayX w n d l a0 a1 a2 a3) (hu : Up w w') : LayX w' n d l a0 a1 a2 a3 := by
  obtain ⟨H, cap, gs, caps, gb, cb, e0, e1, e2, e3, hR, ib⟩ := h
  exact ⟨H, cap, gs, caps, gb, cb, e0, e1, e2, e3, hR.up hu, ib.up hu⟩

theorem LayX.set4 {w : World} {n d G : Nat} {f : Bool} {l : List UInt8} {a0 a1 a2 a3 x0 x1 x2 x3 : Value} (h : LayX w n d l a0 a1 a2 a3) (hd : 1 ≤ d) (hdn : n / 2 = d) (hc : w.cell? ⟨G, 0, none⟩ = some (.bool f)) :
    LayX ((((w.setCell ⟨G, 0, none⟩ x0).setCell ⟨G, 1, none⟩ x1).setCell ⟨G, 2, none⟩ x2).setCell ⟨G, 3, none⟩ x3) n d l a0 a1 a2 a3 := by
  obtain ⟨H, cap, gs, caps, gb, cb, e0, e1, e2, e3, hR, ib⟩ := h
  have k1 : H ≠ G := by
    rintro rfl
    have := hR.head 0 (by omega)
    rw [hc] at this
    cases this
  have k2 : ∀ k, k < d → gs k ≠ G := by
    rintro k hk rfl
    have := (hR.row k hk).2 0 (by rw [matR_length, hdn]; omega)
    rw [hc] at this
    cases this
  have k3 : gb ≠ G := by
    rintro rfl
    have := ib.2 0 (by rw [biasI_length]; omega)
    rw [hc] at this
    cases this
  exact ⟨H, cap, gs, caps, gb, cb, e0, e1, e2, e3, (((hR.set k1 k2 _ _).set k1 k2 _ _).set k1 k2 _ _).set k1 k2 _ _, (((ib.set k3 _ _).set k3 _ _).set k3 _ _).set k3 _ _⟩

theorem IsI.grown {w w' : World} {g : Nat} {xs : List Int} {row : Option Nat} (h : IsI w g xs) (hg : w.grownBy w' row) (hne : some g ≠ row) : IsI w' g xs :=
  ⟨Nat.lt_of_lt_of_le h.1 hg.size, fun i hi => hg.cell (h.2 i hi) hne⟩

theorem RowsAt.grown {w w' : World} {H m n : Nat} {gs caps : Nat → Nat} {P : Nat → List Int} {row : Option Nat} (h : RowsAt w H m n gs caps P) (hg : w.grownBy w' row) (hne : some H ≠ row) (hns : ∀ k, k < m → some (gs k) ≠ row) : RowsAt w' H m n gs caps P :=
  ⟨Nat.lt_of_lt_of_le h.lt hg.size, fun k hk => hg.cell (h.head k hk) hne, fun k hk => (h.row k hk).grown hg (hns k hk)⟩

theorem LayX.grown {w w' : World} {base n d k : Nat} {l : List UInt8} {a0 a1 a2 a3 v : Value} {xs : List Value} (h : LayX w n d l a0 a1 a2 a3) (hd : 1 ≤ d) (hdn : n / 2 = d) (ho : w.ownsRow base 80 4 v k xs) (hb : 1 ≤ k → ∃ f, xs.getD 0 (.bool false) = .bool f) (h0 : k = 0 → v = .slice none 0 0) (hg : w.grownBy w' v.ownBlock) : LayX w' n d l a0 a1 a2 a3 := by
  obtain ⟨H, cap, gs, caps, gb, cb, e0, e1, e2, e3, hR, ib⟩ := h
  have key : ∀ g u, w.cell? ⟨g, 0, none⟩ = some u → (∀ f, u ≠ .bool f) → some g ≠ v.ownBlock := by
    intro g u hc hu e
    rcases ho.2 with ⟨rfl, _⟩ | ⟨g', cap', cur, rfl, _⟩
    · cases e
    · simp only [Value.ownBlock, Option.some.injEq] at e
      subst e
      by_cases hk : 1 ≤ k
      · obtain ⟨f, hf⟩ := hb hk
        have hl := ho.1
        have hc2 := World.ownsRow.cellAt ho 0 (by omega)
        rw [hc, List.getElem?_eq_getElem (by omega)] at hc2
        rw [List.getD_eq_getElem?_getD, List.getElem?_eq_getElem (by omega)] at hf
        simp only [Option.getD_some] at hf
        rw [hf] at hc2
        exact hu f (Option.some.inj hc2)
      · have := h0 (by omega)
        cases this
  refine ⟨H, cap, gs, caps, gb, cb, e0, e1, e2, e3, hR.grown hg (key H _ (hR.head 0 (by omega)) (fun f c => by cases c)) (fun k hk => key (gs k) _ ((hR.row k hk).2 0 (by rw [matR_length, hdn]; omega)) (fun f c => by cases c)), ib.grown hg (key gb _ (ib.2 0 (by rw [biasI_length]; omega)) (fun f c => by cases c))⟩

theorem layRead_any (n d t : Nat) (q b : Int) (s : ByteArray) (w : World) (hs : s.size ≤ maxLen) (hn : n = 4 ∨ n = 8 ∨ n = 16) (hd : n / 2 = d) :
    Calls Tryz.prog 34 #[.agg #[.int .i64 n, .int .i64 t, .int .i64 q, .int .i64 b], .string s] w fun e w' => ∃ (bb : Bool) (sh : Int) (p2 : Option Addr) (x2 y2 : Nat) (p3 : Option Addr) (x3 y3 : Nat), e = .returned (.tuple #[.agg #[.bool bb, .int .i64 sh, .slice p2 x2 y2, .slice p3 x3 y3], .bool (layB s.data.toList n t)]) ∧ (layB s.data.toList n t = true → LayX w' n d s.data.toList (.bool bb) (.int .i64 sh) (.slice p2 x2 y2) (.slice p3 x3 y3)) ∧ Up w w' := by
  cases h : layB s.data.toList n t with
  | true =>
    refine (layRead_ok n d t q b s w hs hn hd h).mono ?_
    rintro e w' ⟨bb, sh, H, cap, gs, caps, gb, cb, rfl, hbb, hsh, hR, ib, hu⟩
    exact ⟨_, _, _, _, _, _, _, _, rfl, fun _ => ⟨H, cap, gs, caps, gb, cb, by rw [hbb], by rw [hsh], rfl, rfl, hR, ib⟩, hu⟩
  | false =>
    refine (layRead_no n t q b s w hs hn h).mono ?_
    rintro e w' ⟨rfl, hu⟩
    exact ⟨_, _, _, _, _, _, _, _, rfl, (fun c => by cases c), hu⟩

theorem info_lay : (Tryz.prog.info? 80).map (fun i => (i.zero, i.size, i.bytes)) = some (some (.agg #[.bool false, .int .i64 0, .slice none 0 0, .slice none 0 0]), 4, 64) := by kernel_rfl

/-- net = append(net, l) -/
theorem append_layer {ops : Array Oper} {rest : List Oper} {o : Oper} {a : Act} {Q : Exit → Act → World → Prop} (w : World) (y0 y1 y2 y3 : Value) (hy0 : y0.oneCell' = true) (hy1 : y1.oneCell' = true) (hy2 : y2.oneCell' = true) (hy3 : y3.oneCell' = true) (hgd : o.guard = none) (s x : Operand)
    (ho : o.op = .call { callee := .builtin .append, args := #[s, x], argTypes := #[122, 122] })
    (base : Nat) (v : Value) (k : Nat) (xs : List Value) (hs : a.eval s = v) (hown : w.ownsRow base 80 4 v k xs) (hx : a.eval x = .slice (some ⟨w.heap.size, 0, none⟩) 1 1)
    (hlen : k ≤ 1048576) (hbase : base ≤ w.heap.size)
    (h : ∀ v' w', w'.ownsRow base 80 4 v' (k + 1) (xs ++ [y0, y1, y2, y3]) → w.grownBy w' v.ownBlock → Below base w w' → wpList Tryz.prog ops Q rest (a.put o.dst v') w') :
    wpList Tryz.prog ops Q (o :: rest) a (w.alloc (.cells #[y0, y1, y2, y3] 80)) := by
  obtain ⟨i0, hi, hz0, hz1, hz2⟩ := info_parts info_lay
  refine wpList_append_own_at _ hgd s x 122 ho base 80 i0 (.agg #[.bool false, .int .i64 0, .slice none 0 0, .slice none 0 0]) 4 64 Tryz.underlying122 hi hz0 hz1 hz2 rfl (by decide) v k xs hs (World.ownsRow.alloc hown _)
    ⟨w.heap.size, 0, none⟩ 1 1 [y0, y1, y2, y3] hx rfl ?_ ?_ ?_ ?_ ?_ ?_
  · intro j u hj
    match j, hj with
    | 0, hj => simp at hj; subst hj; simp [Addr.add]
    | 1, hj => simp at hj; subst hj; simp [Addr.add]
    | 2, hj => simp at hj; subst hj; simp [Addr.add]
    | 3, hj => simp at hj; subst hj; simp [Addr.add]
  · intro u hu
    simp at hu
    rcases hu with rfl | rfl | rfl | rfl
    · exact hy0
    · exact hy1
    · exact hy2
    · exact hy3
  · unfold maxLen; omega
  · omega
  · simp; omega
  · intro v' w' h1 h2 h3 h4
    have hg : w.grownBy w' v.ownBlock := ⟨h2.os, h2.tape, h2.output, Nat.le_trans (by simp) h2.size, fun k hk hne => (h2.block k (by simp; omega) hne).trans (heap_alloc_old w _ hk)⟩
    refine h v' w' h1 hg ?_
    exact (Below.refl _ _).grown hg hbase (fun k hk => (World.ownsRow.lt hown k hk).1)

/-- the k first layers of a net, as values -/
def LaysX (w : World) (n d : Nat) (l : List UInt8) (xs : List Value) (k : Nat) : Prop :=
  ∀ i, i < k → LayX w n d (layOf n l i) (xs.getD (4 * i) (.bool false)) (xs.getD (4 * i + 1) (.bool false)) (xs.getD (4 * i + 2) (.bool false)) (xs.getD (4 * i + 3) (.bool false))

theorem LaysX.up {w w' : World} {n d k : Nat} {l : List UInt8} {xs : List Value} (h : LaysX w n d l xs k) (hu : Up w w') : LaysX w' n d l xs k := fun i hi => (h i hi).up hu

theorem LaysX.bool {w : World} {n d k : Nat} {l : List UInt8} {xs : List Value} (h : LaysX w n d l xs k) (hk : 1 ≤ k) : ∃ f, xs.getD 0 (.bool false) = .bool f := by
  obtain ⟨H, cap, gs, caps, gb, cb, e0, _⟩ := h 0 (by omega)
  exact ⟨_, e0⟩

theorem LaysX.next {w : World} {n d k : Nat} {l : List UInt8} {xs : List Value} {a0 a1 a2 a3 : Value} (h : LaysX w n d l xs k) (hl : xs.length = k * 4) (hx : LayX w n d (layOf n l k) a0 a1 a2 a3) : LaysX w n d l (xs ++ [a0, a1, a2, a3]) (k + 1) := by
  intro i hi
  by_cases e : i = k
  · subst e
    have g : ∀ j, j < 4 → (xs ++ [a0, a1, a2, a3]).getD (4 * i + j) (.bool false) = [a0, a1, a2, a3].getD j (.bool false) := fun j hj => by
      rw [List.getD_eq_getElem?_getD, List.getElem?_append_right (by omega), show 4 * i + j - xs.length = j by omega, ← List.getD_eq_getElem?_getD]
    rw [show 4 * i = 4 * i + 0 by omega, g 0 (by omega), show 4 * i + 0 + 1 = 4 * i + 1 by omega, g 1 (by omega), show 4 * i + 0 + 2 = 4 * i + 2 by omega, g 2 (by omega), show 4 * i + 0 + 3 = 4 * i + 3 by omega, g 3 (by omega)]
    exact hx
  · have g : ∀ j, j < 4 → (xs ++ [a0, a1, a2, a3]).getD (4 * i + j) (.bool false) = xs.getD (4 * i + j) (.bool false) := fun j hj => by
      rw [List.getD_eq_getElem?_getD, List.getElem?_append_left (by omega), ← List.getD_eq_getElem?_getD]
    have hh := h i (by omega)
    rw [show 4 * i = 4 * i + 0 by omega] at hh ⊢
    rw [g 0 (by omega), show 4 * i + 0 + 1 = 4 * i + 1 by omega, g 1 (by omega), show 4 * i + 0 + 2 = 4 * i + 2 by omega, g 2 (by omega), show 4 * i + 0 + 3 = 4 * i + 3 by omega, g 3 (by omega)]
    exact hh

/-- a net in memory: m layers one behind the other in block H -/
structure NetAt (w : World) (H n d m : Nat) (l : List UInt8) : Prop where
  lt : H < w.heap.size
  lay : ∀ i, i < m → ∃ a0 a1 a2 a3, w.cell? ⟨H, 4 * i, none⟩ = some a0 ∧ w.cell? ⟨H, 4 * i + 1, none⟩ = some a1 ∧ w.cell? ⟨H, 4 * i + 2, none⟩ = some a2 ∧ w.cell? ⟨H, 4 * i + 3, none⟩ = some a3 ∧ LayX w n d (layOf n l i) a0 a1 a2 a3

theorem NetAt.up {w w' : World} {H n d m : Nat} {l : List UInt8} (h : NetAt w H n d m l) (hu : Up w w') : NetAt w' H n d m l :=
  ⟨Nat.lt_of_lt_of_le h.lt hu.size, fun i hi => by
    obtain ⟨a0, a1, a2, a3, c0, c1, c2, c3, hx⟩ := h.lay i hi
    exact ⟨a0, a1, a2, a3, keepC hu c0, keepC hu c1, keepC hu c2, keepC hu c3, hx.up hu⟩⟩

theorem net_of_own {w : World} {base n d k : Nat} {v : Value} {xs : List Value} {l : List UInt8} (hk : 1 ≤ k) (ho : w.ownsRow base 80 4 v k xs) (hx : LaysX w n d l xs k) :
    ∃ H cap, v = .slice (some ⟨H, 0, none⟩) k cap ∧ k ≤ cap ∧ base ≤ H ∧ NetAt w H n d k l := by
  have hl := ho.1
  rcases ho.2 with ⟨_, h0⟩ | ⟨H, cap, cur, rfl, hB, h5, h6, _⟩
  · omega
  · refine ⟨H, cap, rfl, h6, hB, (Array.getElem?_eq_some_iff.1 h5).1, fun i hi => ?_⟩
    have g : ∀ j, j < 4 → w.cell? ⟨H, 4 * i + j, none⟩ = some (xs.getD (4 * i + j) (.bool false)) := fun j hj => by
      have hc := World.ownsRow.cellAt ho (4 * i + j) (by omega)
      rw [hc, List.getD_eq_getElem?_getD, List.getElem?_eq_getElem (by omega)]
      rfl
    exact ⟨_, _, _, _, g 0 (by omega), g 1 (by omega), g 2 (by omega), g 3 (by omega), hx i hi⟩

theorem frozen_upN {w w' : World} {g o : Nat} {v : Value} (hu : Up w w') (hc : w.cell? ⟨g, 0, none⟩ = some v) (h : w.frozen? ⟨g, o, none⟩ = false) : w'.frozen? ⟨g, o, none⟩ = false :=
  ((bcell hu).2 g o (World.block_lt_of_cell? w ⟨g, 0, none⟩ hc)).trans h

theorem far_cell {W : World} {r o g o' : Nat} {x : Value} (h : r ≠ g) : (W.setCell ⟨r, o, none⟩ x).cell? ⟨g, o', none⟩ = W.cell? ⟨g, o', none⟩ := World.cell?_setCell_other _ _ _ _ (by intro e; simp only [Addr.mk.injEq] at e; omega)
theorem else_cell {W : World} {r o o' : Nat} {x : Value} (h : o ≠ o') : (W.setCell ⟨r, o, none⟩ x).cell? ⟨r, o', none⟩ = W.cell? ⟨r, o', none⟩ := World.cell?_setCell_other _ _ _ _ (by intro e; simp only [Addr.mk.injEq] at e; omega)
theorem far_cell4 {W : World} {G g o : Nat} {x0 x1 x2 x3 : Value} (h : G ≠ g) : ((((W.setCell ⟨G, 0, none⟩ x0).setCell ⟨G, 1, none⟩ x1).setCell ⟨G, 2, none⟩ x2).setCell ⟨G, 3, none⟩ x3).cell? ⟨g, o, none⟩ = W.cell? ⟨g, o, none⟩ := (far_cell h).trans ((far_cell h).trans ((far_cell h).trans (far_cell h)))
theorem same_cell4 {W : World} {G : Nat} {x0 x1 x2 x3 u0 u1 u2 u3 : Value} (n0 : W.cell? ⟨G, 0, none⟩ = some u0) (n1 : W.cell? ⟨G, 1, none⟩ = some u1) (n2 : W.cell? ⟨G, 2, none⟩ = some u2) (n3 : W.cell? ⟨G, 3, none⟩ = some u3) :
    ((((W.setCell ⟨G, 0, none⟩ x0).setCell ⟨G, 1, none⟩ x1).setCell ⟨G, 2, none⟩ x2).setCell ⟨G, 3, none⟩ x3).cell? ⟨G, 0, none⟩ = some x0 ∧ ((((W.setCell ⟨G, 0, none⟩ x0).setCell ⟨G, 1, none⟩ x1).setCell ⟨G, 2, none⟩ x2).setCell ⟨G, 3, none⟩ x3).cell? ⟨G, 1, none⟩ = some x1 ∧ ((((W.setCell ⟨G, 0, none⟩ x0).setCell ⟨G, 1, none⟩ x1).setCell ⟨G, 2, none⟩ x2).setCell ⟨G, 3, none⟩ x3).cell? ⟨G, 2, none⟩ = some x2 ∧ ((((W.setCell ⟨G, 0, none⟩ x0).setCell ⟨G, 1, none⟩ x1).setCell ⟨G, 2, none⟩ x2).setCell ⟨G, 3, none⟩ x3).cell? ⟨G, 3, none⟩ = some x3 := by
  have m1 := (else_cell (W := W) (r := G) (o := 0) (o' := 1) (x := x0) (by decide)).trans n1
  have m2 := (else_cell (W := W.setCell ⟨G, 0, none⟩ x0) (r := G) (o := 1) (o' := 2) (x := x1) (by decide)).trans ((else_cell (by decide)).trans n2)
  have m3 := (else_cell (W := (W.setCell ⟨G, 0, none⟩ x0).setCell ⟨G, 1, none⟩ x1) (r := G) (o := 2) (o' := 3) (x := x2) (by decide)).trans ((else_cell (by decide)).trans ((else_cell (by decide)).trans n3))
  exact ⟨(else_cell (by decide)).trans ((else_cell (by decide)).trans ((else_cell (by decide)).trans (World.cell?_setCell_same _ _ _ n0))), (else_cell (by decide)).trans ((else_cell (by decide)).trans (World.cell?_setCell_same _ _ _ m1)), (else_cell (by decide)).trans (World.cell?_setCell_same _ _ _ m2), World.cell?_setCell_same _ _ _ m3⟩

/-- what reading a net answers -/
abbrev NetRd (n d t : Nat) (q b : Int) (s : ByteArray) (w : World) : Prop :=
  Calls Tryz.prog 68 #[.agg #[.int .i64 n, .int .i64 t, .int .i64 q, .int .i64 b], .string s] w fun e w' => ((netB s.data.toList n t = true ∧ ∃ H cap, byteL s.data.toList 1 ≤ cap ∧ e = .returned (.tuple #[.slice (some ⟨H, 0, none⟩) (byteL s.data.toList 1) cap, .bool true]) ∧ NetAt w' H n d (byteL s.data.toList 1) s.data.toList) ∨ (netB s.data.toList n t = false ∧ e = .returned (.tuple #[.slice none 0 0, .bool false]))) ∧ Up w w'

theorem netB_no {l : List UInt8} {n : Nat} {t : Int} (h : ¬ (2 ≤ l.length ∧ byteL l 0 = 78 ∧ 1 ≤ byteL l 1 ∧ byteL l 1 ≤ 3 ∧ l.length = 2 + byteL l 1 * sizN n)) : netB l n t = false := by
  cases e : netB l n t with
  | false => rfl
  | true =>
    obtain ⟨h1, h2, h3, h4, h5, _⟩ := (netB_iff _ _ _).1 e
    exact absurd ⟨h1, h2, h3, h4, h5⟩ h

set_option maxHeartbeats 2000000 in
theorem ReadNet_out (n d t : Nat) (q b : Int) (s : ByteArray) (w : World) (hs : s.size ≤ maxLen) (hn : n = 4 ∨ n = 8 ∨ n = 16) (h : ¬ (2 ≤ s.data.toList.length ∧ byteL s.data.toList 0 = 78 ∧ 1 ≤ byteL s.data.toList 1 ∧ byteL s.data.toList 1 ≤ 3 ∧ s.data.toList.length = 2 + byteL s.data.toList 1 * sizN n)) : NetRd n d t q b s w := by
  have HNo : Hid (netB s.data.toList n t = false) := netB_no h
  have hs2 : (s.size : Int) ≤ 9223372036854775807 := by unfold maxLen at hs; omega
  have hz := sizN_le n hn
  have hz1 : 1 ≤ sizN n := by rcases hn with rfl | rfl | rfl <;> decide
  have HZ : Hid (∀ W, Calls Tryz.prog 124 #[.agg #[.int .i64 n, .int .i64 t, .int .i64 q, .int .i64 b]] W fun e w' => e = .returned (.int .i64 (sizN n : Nat)) ∧ Up W w') := fun W => length_calls n t q b W hn
  have hsl : s.data.toList.length = s.size := by simp
  rw [hsl] at h
  by_cases k2 : s.size < 2
  · have c2 : (s.size : Int) < 2 := by omega
    clear h
    go_enter Tryz.func68, Tryz.ntmps68
    go_wp2_with fail
    go_ret2
    exact ⟨Or.inr ⟨HNo.out, rfl⟩, (Up.refl _).alloc _⟩
  · have c2 : ¬ (s.size : Int) < 2 := by omega
    have p0 : 0 < s.size := by omega
    have p1 : 1 < s.size := by omega
    rw [byteL_in s 0 p0, byteL_in s 1 p1] at h
    have hb1 := (s[1]'p1).toNat_lt
    by_cases k78 : (s[0]'p0).toNat = 78
    · have c78 : (((s[0]'p0).toNat : Int) != 78) = false := by rw [k78]; rfl
      by_cases kc : (s[1]'p1).toNat < 1
      · have cc : ((s[1]'p1).toNat : Int) < 1 := by omega
        clear h k78
        go_enter Tryz.func68, Tryz.ntmps68
        go_wp2_with fail
        go_ret2
        exact ⟨Or.inr ⟨HNo.out, rfl⟩, (Up.refl _).alloc _⟩
      · have cc : ¬ ((s[1]'p1).toNat : Int) < 1 := by omega
        by_cases k3 : 3 < (s[1]'p1).toNat
        · have c3 : (3 : Int) < ((s[1]'p1).toNat : Int) := by omega
          clear h k78
          go_enter Tryz.func68, Tryz.ntmps68
          go_wp2_with fail
          go_ret2
          exact ⟨Or.inr ⟨HNo.out, rfl⟩, (Up.refl _).alloc _⟩
        · have c3 : ¬ (3 : Int) < ((s[1]'p1).toNat : Int) := by omega
          have hA : (s[1]'p1).toNat * sizN n ≤ 3 * 200 := Nat.mul_le_mul (by omega) hz
          have e1 : IntKind.i64.wrap (((s[1]'p1).toNat : Int) * (sizN n : Int)) = (((s[1]'p1).toNat * sizN n : Nat) : Int) := by rw [← Int.natCast_mul]; exact IntWalk.i64_in _ (by omega)
          have hl : ¬ s.size = 2 + (s[1]'p1).toNat * sizN n := fun c => h ⟨by omega, k78, by omega, by omega, c⟩
          have c4 : ((s.size : Int) - (2 : Int) != (((s[1]'p1).toNat * sizN n : Nat) : Int)) = true := bne_iff_ne.2 (by omega)
          generalize (s[1]'p1).toNat * sizN n = A at hA e1 hl c4
          generalize sizN n = Z at hz hz1 HZ e1
          clear h k78
          go_enter Tryz.func68, Tryz.ntmps68
          go_wp2_with fail
          refine Calls.mono (HZ.out _) ?_
          rintro e w1 ⟨rfl, hu1⟩
          go_wp2_with fail
          go_ret2
          exact ⟨Or.inr ⟨HNo.out, rfl⟩, ((Up.refl _).alloc _).trans hu1⟩
    · have c78 : (((s[0]'p0).toNat : Int) != 78) = true := bne_iff_ne.2 (by omega)
      clear h
      go_enter Tryz.func68, Tryz.ntmps68
      go_wp2_with fail
      go_ret2
      exact ⟨Or.inr ⟨HNo.out, rfl⟩, (Up.refl _).alloc _⟩

end Go.Proofs.YtcjhgbljhpflfabGreat
