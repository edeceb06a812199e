/-
  Walks: the program's matrix times what is hidden.
-/
import Derived.Test.YtcjhgbljhpflfabGreatCodeLc
namespace Go.Proofs.YtcjhgbljhpflfabGreat
open Go.RowKit
set_option linter.unusedVariables false
set_option maxRecDepth 100000

/-- the values of a diagonal -/
def diaI (n : Nat) (l : List UInt8) (i : Nat) : List Int := (List.range n).map fun j => dgC n l i (j % (n / 2))

theorem diaI_length (n : Nat) (l : List UInt8) (i : Nat) : (diaI n l i).length = n := by simp [diaI]

theorem dia_twice (n : Nat) (hn : n = 4 ∨ n = 8 ∨ n = 16) (l : List UInt8) (i : Nat) : dgI n l i (n / 2) ++ dgI n l i (n / 2) = diaI n l i := by
  have hn2 : n / 2 + n / 2 = n := by omega
  refine list_same (n := n) (by rw [List.length_append, dgI_length]; exact hn2) (diaI_length _ _ _) fun j hj => ?_
  rw [diaI, getD_range hj, List.getD_eq_getElem?_getD]
  rcases Nat.lt_or_ge j (n / 2) with c | c
  · rw [List.getElem?_append_left (by rw [dgI_length]; exact c), ← List.getD_eq_getElem?_getD, dgI, getD_range c, Nat.mod_eq_of_lt c]
  · rw [List.getElem?_append_right (by rw [dgI_length]; exact c), dgI_length, ← List.getD_eq_getElem?_getD, dgI, getD_range (by omega), Nat.mod_eq_sub_mod c, Nat.mod_eq_of_lt (by omega)]

theorem diag_text (n : Nat) (hn : n = 4 ∨ n = 8 ∨ n = 16) (l : List UInt8) (i : Nat) : diagL n l i = textsL 2 (diaI n l i) := by
  rw [← dia_twice n hn, textsL_append]; rfl

theorem lay_entry (n : Nat) (t : Int) (l : List UInt8) (hl : layB l n t = true) (r c : Nat) (hr : r < n / 2) (hc : c < n / 2) : (numL l (entN n r c) 2 : Int) < t := by
  obtain ⟨_, _, h5, _⟩ := (layB_two _ _ _).1 hl
  have h2 := ((okL_iff _ _ _ _).1 h5).2 (r * (n / 2) + c) (by
    have : (r + 1) * (n / 2) ≤ n / 2 * (n / 2) := Nat.mul_le_mul_right _ hr
    rw [Nat.succ_mul] at this
    omega)
  rw [numL_take _ _ _ _ (by
    have : (r + 1) * (n / 2) ≤ n / 2 * (n / 2) := Nat.mul_le_mul_right _ hr
    rw [Nat.succ_mul] at this
    omega), numL_drop] at h2
  rw [show entN n r c = 3 + (r * (n / 2) + c) * 2 by unfold entN; omega]
  exact h2

theorem diaI_small (n : Nat) (hn : n = 4 ∨ n = 8 ∨ n = 16) (t : Int) (l : List UInt8) (hl : layB l n t = true) (i : Nat) : ∀ j, j < n → 0 ≤ (diaI n l i).getD j 0 ∧ (diaI n l i).getD j 0 < t := by
  intro j hj
  rw [diaI, getD_range hj]
  have hd : 0 < n / 2 := by omega
  exact ⟨Int.natCast_nonneg _, lay_entry n t l hl _ _ (Nat.mod_lt _ hd) (Nat.mod_lt _ hd)⟩

theorem dia_mat (n d : Nat) (hd : n / 2 = d) (hn : n = 4 ∨ n = 8 ∨ n = 16) (l : List UInt8) (i : Nat) : (List.range d).map (fun j => (matR n l j).getD ((j + i) % d) 0) ++ (List.range d).map (fun j => (matR n l j).getD ((j + i) % d) 0) = diaI n l i := by
  subst hd
  have hd0 : 0 < n / 2 := by omega
  rw [← dia_twice n hn]
  have e : (List.range (n / 2)).map (fun j => (matR n l j).getD ((j + i) % (n / 2)) 0) = dgI n l i (n / 2) := List.map_congr_left fun j hj => by
    rw [matR, getD_range (Nat.mod_lt _ hd0)]
    rfl
  rw [e]

theorem Out.yes {n t : Nat} {q : Int} {y : List UInt8} {e : Int} {r : Ending} {w' : World} (h : Out n t q y e r w') (he : e = 0) : ctB y n t q = true ∧ toldL (ctE y) (ct0 y n) (ct1 y n) = y ∧ ∃ (g0 k0 g1 k1 : Nat), r = .returned (.tuple #[.agg #[.int .i64 (ctE y : Nat), .slice (some ⟨g0, 0, none⟩) n k0, .slice (some ⟨g1, 0, none⟩) n k1], .bool true]) ∧ IsI w' g0 (ct0 y n) ∧ IsI w' g1 (ct1 y n) := by
  rcases h with ⟨_, h⟩ | ⟨h, _⟩
  · exact h
  · omega

theorem Out.not {n t : Nat} {q : Int} {y : List UInt8} {e : Int} {r : Ending} {w' : World} (h : Out n t q y e r w') (he : e ≠ 0) : r = .returned (.tuple #[.agg #[.int .i64 0, .slice none 0 0, .slice none 0 0], .bool false]) := by
  rcases h with ⟨h, _⟩ | ⟨_, h⟩
  · exact absurd h he
  · exact h

/-- a text that was told is a ciphertext -/
theorem tell_ct {n t : Nat} {q : Int} {E : Nat} {c0 c1 : List Int} (hq : q ≤ 1073741823) (hq0 : 0 ≤ q) (ht : 1 ≤ t) (l0 : c0.length = n) (l1 : c1.length = n) (b0 : ∀ i, i < n → 0 ≤ c0.getD i 0 ∧ c0.getD i 0 < q) (b1 : ∀ i, i < n → 0 ≤ c1.getD i 0 ∧ c1.getD i 0 < q) :
    ((tellL t q E c0 c1).2 = 0 ∧ ctB (tellL t q E c0 c1).1 n t q = true) ∨ (tellL t q E c0 c1).2 = 4 := by
  cases hf : fitsB t q E with
  | true =>
    have hlt := fits_lt (by omega) hq0 hf
    have e : tellL t q E c0 c1 = (toldL E c0 c1, 0) := by unfold tellL; rw [if_pos hf]
    rw [e]
    exact Or.inl ⟨rfl, (told_read n E t q c0 c1 l0 l1 (by omega) b0 b1 (by omega) hf).1⟩
  | false =>
    have e : tellL t q E c0 c1 = ([], 4) := by unfold tellL; rw [if_neg (by rw [hf]; decide)]
    rw [e]
    exact Or.inr rfl

theorem mul_ctB {n t : Nat} (g : NT n t) {q : Int} (hq : 2 ≤ q) (hq2 : q ≤ 1073741823) (x v : List UInt8) : ((mulPlainL n t q x v).2 = 0 ∧ ctB (mulPlainL n t q x v).1 n t q = true) ∨ (mulPlainL n t q x v).2 = 4 := by
  have ht := g.t3
  exact tell_ct hq2 (by omega) (by omega) (timesI_length _ _ _ _) (timesI_length _ _ _ _) (fun i hi => timesI_bounds _ _ _ _ (by omega) i (by rw [timesI_length]; exact hi)) (fun i hi => timesI_bounds _ _ _ _ (by omega) i (by rw [timesI_length]; exact hi))

/-- one more term, by what the program does -/
theorem lin_step {n t : Nat} (g : NT n t) {q b : Int} (hq : 2 ≤ q) (hq2 : q ≤ 1073741823) (L : Nat) (l k x c a : List UInt8) (i : Nat) (hl : layB l n t = true) (hS : linS n t q b L l k x i = (c, a, 0)) (hc : ctB c n t q = true) (ha : ctB a n t q = true) :
    ((turnL n t q b L c k).2 ≠ 0 → (linS n t q b L l k x (i + 1)).2.2 = (turnL n t q b L c k).2) ∧
    ((turnL n t q b L c k).2 = 0 → ctB (turnL n t q b L c k).1 n t q = true → (linS n t q b L l k x (i + 1)).1 = (turnL n t q b L c k).1 ∧ (linS n t q b L l k x (i + 1)).2.2 = (apR n t q a (turnL n t q b L c k).1 (textsL 2 (diaI n l (i + 1)))).2 ∧ ((apR n t q a (turnL n t q b L c k).1 (textsL 2 (diaI n l (i + 1)))).2 = 0 → (linS n t q b L l k x (i + 1)).2.1 = (apR n t q a (turnL n t q b L c k).1 (textsL 2 (diaI n l (i + 1)))).1)) := by
  have h256 : ((256 ^ 2 : Nat) : Int) = 65536 := by decide
  have ht2 := g.ht
  have eS : linS n t q b L l k x (i + 1) = linN n t q b L l k (i + 1) (linS n t q b L l k x i).1 (linS n t q b L l k x i).2.1 (linS n t q b L l k x i).2.2 := rfl
  have e0 : turnA n t q b L c k = turnL n t q b L c k := by unfold turnA; rw [if_pos hc]
  rw [eS, hS]
  show (_ → (linN n t q b L l k (i + 1) c a 0).2.2 = _) ∧ (_ → _ → (linN n t q b L l k (i + 1) c a 0).1 = _ ∧ (linN n t q b L l k (i + 1) c a 0).2.2 = _ ∧ (_ → (linN n t q b L l k (i + 1) c a 0).2.1 = _))
  unfold linN
  rw [if_pos rfl, e0]
  generalize turnL n t q b L c k = T
  constructor
  · intro h
    rw [if_neg h]
  · intro h hT
    rw [if_pos h]
    have e1 : mulA n t q T.1 (diagL n l (i + 1)) = mulPlainL n t q T.1 (textsL 2 (diaI n l (i + 1))) := by
      unfold mulA
      rw [if_pos hT, diag_text n g.hn, if_pos (okL_texts _ n 2 t (diaI_length _ _ _) (diaI_small n g.hn t l hl (i + 1)) (by omega))]
    rw [e1]
    unfold apR
    rcases mul_ctB g hq hq2 T.1 (textsL 2 (diaI n l (i + 1))) with ⟨h1, h2⟩ | h1
    · rw [if_pos h1, if_pos h1]
      have e2 : addA n t q a (mulPlainL n t q T.1 (textsL 2 (diaI n l (i + 1)))).1 = addL n t q a (mulPlainL n t q T.1 (textsL 2 (diaI n l (i + 1)))).1 := by
        unfold addA
        rw [if_pos ha, if_pos h2]
      rw [e2]
      exact ⟨rfl, rfl, fun _ => rfl⟩
    · rw [if_neg (by rw [h1]; decide), if_neg (by rw [h1]; decide)]
      exact ⟨rfl, h1, fun h => absurd h (by decide)⟩

/-- what lies in memory between the terms -/
structure HidAt (w : World) (S G n t : Nat) (q b : Int) (Ec x0 m0 x1 m1 Ea y0 k0 y1 k1 : Nat) : Prop where
  p0 : w.cell? ⟨S, 0, none⟩ = some (.int .i64 (n : Int))
  p1 : w.cell? ⟨S, 1, none⟩ = some (.int .i64 (t : Int))
  p2 : w.cell? ⟨S, 2, none⟩ = some (.int .i64 q)
  p3 : w.cell? ⟨S, 3, none⟩ = some (.int .i64 b)
  c0 : w.cell? ⟨S + 1, 0, none⟩ = some (.int .i64 (Ec : Int))
  c1 : w.cell? ⟨S + 1, 1, none⟩ = some (.slice (some ⟨x0, 0, none⟩) n m0)
  c2 : w.cell? ⟨S + 1, 2, none⟩ = some (.slice (some ⟨x1, 0, none⟩) n m1)
  r0 : w.cell? ⟨S + 2, 0, none⟩ = some (.int .i64 0)
  r1 : w.cell? ⟨S + 2, 1, none⟩ = some (.slice none 0 0)
  r2 : w.cell? ⟨S + 2, 2, none⟩ = some (.slice none 0 0)
  s0 : w.cell? ⟨G, 0, none⟩ = some (.int .i64 (Ea : Int))
  s1 : w.cell? ⟨G, 1, none⟩ = some (.slice (some ⟨y0, 0, none⟩) n k0)
  s2 : w.cell? ⟨G, 2, none⟩ = some (.slice (some ⟨y1, 0, none⟩) n k1)
  zc : ∀ o, w.frozen? ⟨S + 1, o, none⟩ = false
  zr : ∀ o, w.frozen? ⟨S + 2, o, none⟩ = false
  zs : ∀ o, w.frozen? ⟨G, o, none⟩ = false
  far : S + 3 ≤ G

theorem frozen_up {w w' : World} {g o : Nat} {v : Value} (hu : Up w w') (hc : w.cell? ⟨g, 0, none⟩ = some v) (h : w.frozen? ⟨g, o, none⟩ = false) : w'.frozen? ⟨g, o, none⟩ = false :=
  ((bcell hu).2 g o (World.block_lt_of_cell? w ⟨g, 0, none⟩ hc)).trans h

theorem HidAt.up {w w' : World} {S G n t : Nat} {q b : Int} {Ec x0 m0 x1 m1 Ea y0 k0 y1 k1 : Nat} (h : HidAt w S G n t q b Ec x0 m0 x1 m1 Ea y0 k0 y1 k1) (hu : Up w w') : HidAt w' S G n t q b Ec x0 m0 x1 m1 Ea y0 k0 y1 k1 :=
  ⟨keepC hu h.p0, keepC hu h.p1, keepC hu h.p2, keepC hu h.p3, keepC hu h.c0, keepC hu h.c1, keepC hu h.c2, keepC hu h.r0, keepC hu h.r1, keepC hu h.r2, keepC hu h.s0, keepC hu h.s1, keepC hu h.s2, fun o => frozen_up hu h.c0 (h.zc o), fun o => frozen_up hu h.r0 (h.zr o), fun o => frozen_up hu h.s0 (h.zs o), h.far⟩

theorem far3 {W : World} {H r k : Nat} {x y z : Value} (hne : r ≠ H) : (((W.setCell ⟨r, 0, none⟩ x).setCell ⟨r, 1, none⟩ y).setCell ⟨r, 2, none⟩ z).cell? ⟨H, k, none⟩ = W.cell? ⟨H, k, none⟩ := by
  rw [World.cell?_setCell_far _ ⟨r, 2, none⟩ ⟨H, k, none⟩ _ hne, World.cell?_setCell_far _ ⟨r, 1, none⟩ ⟨H, k, none⟩ _ hne, World.cell?_setCell_far _ ⟨r, 0, none⟩ ⟨H, k, none⟩ _ hne]

theorem same3 {W : World} {r : Nat} {x y z u v t : Value} (h0 : W.cell? ⟨r, 0, none⟩ = some u) (h1 : W.cell? ⟨r, 1, none⟩ = some v) (h2 : W.cell? ⟨r, 2, none⟩ = some t) :
    (((W.setCell ⟨r, 0, none⟩ x).setCell ⟨r, 1, none⟩ y).setCell ⟨r, 2, none⟩ z).cell? ⟨r, 0, none⟩ = some x ∧ (((W.setCell ⟨r, 0, none⟩ x).setCell ⟨r, 1, none⟩ y).setCell ⟨r, 2, none⟩ z).cell? ⟨r, 1, none⟩ = some y ∧ (((W.setCell ⟨r, 0, none⟩ x).setCell ⟨r, 1, none⟩ y).setCell ⟨r, 2, none⟩ z).cell? ⟨r, 2, none⟩ = some z := by
  have a1 : (W.setCell ⟨r, 0, none⟩ x).cell? ⟨r, 1, none⟩ = some v := by rw [World.cell?_setCell_other _ _ _ _ (by simp)]; exact h1
  have a2 : ((W.setCell ⟨r, 0, none⟩ x).setCell ⟨r, 1, none⟩ y).cell? ⟨r, 2, none⟩ = some t := by rw [World.cell?_setCell_other _ _ _ _ (by simp), World.cell?_setCell_other _ _ _ _ (by simp)]; exact h2
  refine ⟨?_, ?_, ?_⟩
  · rw [World.cell?_setCell_other _ _ _ _ (by simp), World.cell?_setCell_other _ _ _ _ (by simp), World.cell?_setCell_same _ _ _ h0]
  · rw [World.cell?_setCell_other _ _ _ _ (by simp), World.cell?_setCell_same _ _ _ a1]
  · rw [World.cell?_setCell_same _ _ _ a2]

theorem HidAt.setC {w : World} {S G n t : Nat} {q b : Int} {Ec x0 m0 x1 m1 Ea y0 k0 y1 k1 : Nat} (h : HidAt w S G n t q b Ec x0 m0 x1 m1 Ea y0 k0 y1 k1) (E a0 c0 a1 c1 : Nat) :
    HidAt (((w.setCell ⟨S + 1, 0, none⟩ (.int .i64 (E : Int))).setCell ⟨S + 1, 1, none⟩ (.slice (some ⟨a0, 0, none⟩) n c0)).setCell ⟨S + 1, 2, none⟩ (.slice (some ⟨a1, 0, none⟩) n c1)) S G n t q b E a0 c0 a1 c1 Ea y0 k0 y1 k1 := by
  have hf := h.far
  obtain ⟨e0, e1, e2⟩ := same3 (x := .int .i64 (E : Int)) (y := .slice (some ⟨a0, 0, none⟩) n c0) (z := .slice (some ⟨a1, 0, none⟩) n c1) h.c0 h.c1 h.c2
  exact ⟨(far3 (by omega)).trans h.p0, (far3 (by omega)).trans h.p1, (far3 (by omega)).trans h.p2, (far3 (by omega)).trans h.p3, e0, e1, e2, (far3 (by omega)).trans h.r0, (far3 (by omega)).trans h.r1, (far3 (by omega)).trans h.r2, (far3 (by omega)).trans h.s0, (far3 (by omega)).trans h.s1, (far3 (by omega)).trans h.s2,
    fun o => by simpa using h.zc o, fun o => by simpa using h.zr o, fun o => by simpa using h.zs o, hf⟩

theorem HidAt.setS {w : World} {S G n t : Nat} {q b : Int} {Ec x0 m0 x1 m1 Ea y0 k0 y1 k1 : Nat} (h : HidAt w S G n t q b Ec x0 m0 x1 m1 Ea y0 k0 y1 k1) (E a0 c0 a1 c1 : Nat) :
    HidAt (((w.setCell ⟨G, 0, none⟩ (.int .i64 (E : Int))).setCell ⟨G, 1, none⟩ (.slice (some ⟨a0, 0, none⟩) n c0)).setCell ⟨G, 2, none⟩ (.slice (some ⟨a1, 0, none⟩) n c1)) S G n t q b Ec x0 m0 x1 m1 E a0 c0 a1 c1 := by
  have hf := h.far
  obtain ⟨e0, e1, e2⟩ := same3 (x := .int .i64 (E : Int)) (y := .slice (some ⟨a0, 0, none⟩) n c0) (z := .slice (some ⟨a1, 0, none⟩) n c1) h.s0 h.s1 h.s2
  exact ⟨(far3 (by omega)).trans h.p0, (far3 (by omega)).trans h.p1, (far3 (by omega)).trans h.p2, (far3 (by omega)).trans h.p3, (far3 (by omega)).trans h.c0, (far3 (by omega)).trans h.c1, (far3 (by omega)).trans h.c2, (far3 (by omega)).trans h.r0, (far3 (by omega)).trans h.r1, (far3 (by omega)).trans h.r2, e0, e1, e2,
    fun o => by simpa using h.zc o, fun o => by simpa using h.zr o, fun o => by simpa using h.zs o, hf⟩

theorem IsI.set3 {W : World} {g r : Nat} {xs : List Int} (h : IsI W g xs) (hne : g ≠ r) (x y z : Value) : IsI (((W.setCell ⟨r, 0, none⟩ x).setCell ⟨r, 1, none⟩ y).setCell ⟨r, 2, none⟩ z) g xs := ((h.set hne _ _).set hne _ _).set hne _ _

theorem Up.set3 {w W : World} {r : Nat} (h : Up w W) (hr : w.heap.size ≤ r) (x y z : Value) : Up w (((W.setCell ⟨r, 0, none⟩ x).setCell ⟨r, 1, none⟩ y).setCell ⟨r, 2, none⟩ z) := ((Below.setCell h hr _).setCell hr _).setCell hr _

/-- what lies in memory at the beginning -/
structure HidW (W : World) (S n t : Nat) (q b : Int) (Ec x0 m0 x1 m1 : Nat) : Prop where
  p0 : W.cell? ⟨S, 0, none⟩ = some (.int .i64 (n : Int))
  p1 : W.cell? ⟨S, 1, none⟩ = some (.int .i64 (t : Int))
  p2 : W.cell? ⟨S, 2, none⟩ = some (.int .i64 q)
  p3 : W.cell? ⟨S, 3, none⟩ = some (.int .i64 b)
  c0 : W.cell? ⟨S + 1, 0, none⟩ = some (.int .i64 (Ec : Int))
  c1 : W.cell? ⟨S + 1, 1, none⟩ = some (.slice (some ⟨x0, 0, none⟩) n m0)
  c2 : W.cell? ⟨S + 1, 2, none⟩ = some (.slice (some ⟨x1, 0, none⟩) n m1)
  r0 : W.cell? ⟨S + 2, 0, none⟩ = some (.int .i64 0)
  r1 : W.cell? ⟨S + 2, 1, none⟩ = some (.slice none 0 0)
  r2 : W.cell? ⟨S + 2, 2, none⟩ = some (.slice none 0 0)
  zc : ∀ o, W.frozen? ⟨S + 1, o, none⟩ = false
  zr : ∀ o, W.frozen? ⟨S + 2, o, none⟩ = false
  size : W.heap.size = S + 3

theorem hid_mkA {W w2 : World} {S n t : Nat} {q b : Int} {Ec x0 m0 x1 m1 : Nat} (h : HidW W S n t q b Ec x0 m0 x1 m1) (hu : Up W w2) (E h0 k0 h1 k1 : Nat) :
    HidAt (w2.alloc (.cells #[.int .i64 (E : Int), .slice (some ⟨h0, 0, none⟩) n k0, .slice (some ⟨h1, 0, none⟩) n k1] 84)) S w2.heap.size n t q b Ec x0 m0 x1 m1 E h0 k0 h1 k1 := by
  have hu3 : Up W (w2.alloc (.cells #[.int .i64 (E : Int), .slice (some ⟨h0, 0, none⟩) n k0, .slice (some ⟨h1, 0, none⟩) n k1] 84)) := Up.alloc hu _
  have hsz := hu.size
  have := h.size
  exact ⟨keepC hu3 h.p0, keepC hu3 h.p1, keepC hu3 h.p2, keepC hu3 h.p3, keepC hu3 h.c0, keepC hu3 h.c1, keepC hu3 h.c2, keepC hu3 h.r0, keepC hu3 h.r1, keepC hu3 h.r2, by simp, by simp, by simp, fun o => frozen_up hu3 h.c0 (h.zc o), fun o => frozen_up hu3 h.r0 (h.zr o), fun o => by simp, by omega⟩

theorem hid_mkB {W w2 : World} {S n t G : Nat} {q b : Int} {Ec x0 m0 x1 m1 : Nat} {u0 u1 u2 : Value} (h : HidW W S n t q b Ec x0 m0 x1 m1) (hu : Up W w2) (hG : W.heap.size ≤ G) (n0 : w2.cell? ⟨G, 0, none⟩ = some u0) (n1 : w2.cell? ⟨G, 1, none⟩ = some u1) (n2 : w2.cell? ⟨G, 2, none⟩ = some u2) (hz : ∀ o, w2.frozen? ⟨G, o, none⟩ = false) (E h0 k0 h1 k1 : Nat) :
    HidAt (((w2.setCell ⟨G, 0, none⟩ (.int .i64 (E : Int))).setCell ⟨G, 1, none⟩ (.slice (some ⟨h0, 0, none⟩) n k0)).setCell ⟨G, 2, none⟩ (.slice (some ⟨h1, 0, none⟩) n k1)) S G n t q b Ec x0 m0 x1 m1 E h0 k0 h1 k1 := by
  have := h.size
  obtain ⟨e0, e1, e2⟩ := same3 (x := .int .i64 (E : Int)) (y := .slice (some ⟨h0, 0, none⟩) n k0) (z := .slice (some ⟨h1, 0, none⟩) n k1) n0 n1 n2
  exact ⟨(far3 (by omega)).trans (keepC hu h.p0), (far3 (by omega)).trans (keepC hu h.p1), (far3 (by omega)).trans (keepC hu h.p2), (far3 (by omega)).trans (keepC hu h.p3), (far3 (by omega)).trans (keepC hu h.c0), (far3 (by omega)).trans (keepC hu h.c1), (far3 (by omega)).trans (keepC hu h.c2), (far3 (by omega)).trans (keepC hu h.r0), (far3 (by omega)).trans (keepC hu h.r1), (far3 (by omega)).trans (keepC hu h.r2), e0, e1, e2,
    fun o => by simpa using frozen_up hu h.c0 (h.zc o), fun o => by simpa using frozen_up hu h.r0 (h.zr o), fun o => by simpa using hz o, by omega⟩

/-- seven cells are kept -/
theorem keepC7 {p0 p1 p2 p3 p4 p5 p6 : Addr} {u0 u1 u2 u3 u4 u5 u6 : Value} {W W' : World} (hu : Up W W') (hS : W.cell? p0 = some u0 ∧ W.cell? p1 = some u1 ∧ W.cell? p2 = some u2 ∧ W.cell? p3 = some u3 ∧ W.cell? p4 = some u4 ∧ W.cell? p5 = some u5 ∧ W.cell? p6 = some u6) :
    W'.cell? p0 = some u0 ∧ W'.cell? p1 = some u1 ∧ W'.cell? p2 = some u2 ∧ W'.cell? p3 = some u3 ∧ W'.cell? p4 = some u4 ∧ W'.cell? p5 = some u5 ∧ W'.cell? p6 = some u6 :=
  ⟨keepC hu hS.1, keepC hu hS.2.1, keepC hu hS.2.2.1, keepC hu hS.2.2.2.1, keepC hu hS.2.2.2.2.1, keepC hu hS.2.2.2.2.2.1, keepC hu hS.2.2.2.2.2.2⟩

theorem keepA7 {W : World} {S : Nat} {o o' : Obj} {u0 u1 u2 u3 u4 u5 u6 : Value} (hS2 : S + 1 < W.heap.size) (hS : (W.alloc o).cell? ⟨S, 0, none⟩ = some u0 ∧ (W.alloc o).cell? ⟨S, 1, none⟩ = some u1 ∧ (W.alloc o).cell? ⟨S, 2, none⟩ = some u2 ∧ (W.alloc o).cell? ⟨S, 3, none⟩ = some u3 ∧ (W.alloc o).cell? ⟨S + 1, 0, none⟩ = some u4 ∧ (W.alloc o).cell? ⟨S + 1, 1, none⟩ = some u5 ∧ (W.alloc o).cell? ⟨S + 1, 2, none⟩ = some u6) :
    (W.alloc o').cell? ⟨S, 0, none⟩ = some u0 ∧ (W.alloc o').cell? ⟨S, 1, none⟩ = some u1 ∧ (W.alloc o').cell? ⟨S, 2, none⟩ = some u2 ∧ (W.alloc o').cell? ⟨S, 3, none⟩ = some u3 ∧ (W.alloc o').cell? ⟨S + 1, 0, none⟩ = some u4 ∧ (W.alloc o').cell? ⟨S + 1, 1, none⟩ = some u5 ∧ (W.alloc o').cell? ⟨S + 1, 2, none⟩ = some u6 := by
  have e : ∀ (g k : Nat), g < W.heap.size → (W.alloc o').cell? ⟨g, k, none⟩ = (W.alloc o).cell? ⟨g, k, none⟩ := fun g k hg =>
    ((Up.alloc (Up.refl W) o').cell (p := ⟨g, k, none⟩) hg).trans ((Up.alloc (Up.refl W) o).cell (p := ⟨g, k, none⟩) hg).symm
  obtain ⟨a0, a1, a2, a3, a4, a5, a6⟩ := hS
  exact ⟨(e S 0 (by omega)).trans a0, (e S 1 (by omega)).trans a1, (e S 2 (by omega)).trans a2, (e S 3 (by omega)).trans a3, (e (S + 1) 0 hS2).trans a4, (e (S + 1) 1 hS2).trans a5, (e (S + 1) 2 hS2).trans a6⟩

theorem keepSet7 {W : World} {S r : Nat} {x y z u0 u1 u2 u3 u4 u5 u6 : Value} (h0 : r ≠ S) (h1 : r ≠ S + 1) (hS : W.cell? ⟨S, 0, none⟩ = some u0 ∧ W.cell? ⟨S, 1, none⟩ = some u1 ∧ W.cell? ⟨S, 2, none⟩ = some u2 ∧ W.cell? ⟨S, 3, none⟩ = some u3 ∧ W.cell? ⟨S + 1, 0, none⟩ = some u4 ∧ W.cell? ⟨S + 1, 1, none⟩ = some u5 ∧ W.cell? ⟨S + 1, 2, none⟩ = some u6) :
    (((W.setCell ⟨r, 0, none⟩ x).setCell ⟨r, 1, none⟩ y).setCell ⟨r, 2, none⟩ z).cell? ⟨S, 0, none⟩ = some u0 ∧ (((W.setCell ⟨r, 0, none⟩ x).setCell ⟨r, 1, none⟩ y).setCell ⟨r, 2, none⟩ z).cell? ⟨S, 1, none⟩ = some u1 ∧ (((W.setCell ⟨r, 0, none⟩ x).setCell ⟨r, 1, none⟩ y).setCell ⟨r, 2, none⟩ z).cell? ⟨S, 2, none⟩ = some u2 ∧ (((W.setCell ⟨r, 0, none⟩ x).setCell ⟨r, 1, none⟩ y).setCell ⟨r, 2, none⟩ z).cell? ⟨S, 3, none⟩ = some u3 ∧ (((W.setCell ⟨r, 0, none⟩ x).setCell ⟨r, 1, none⟩ y).setCell ⟨r, 2, none⟩ z).cell? ⟨S + 1, 0, none⟩ = some u4 ∧ (((W.setCell ⟨r, 0, none⟩ x).setCell ⟨r, 1, none⟩ y).setCell ⟨r, 2, none⟩ z).cell? ⟨S + 1, 1, none⟩ = some u5 ∧ (((W.setCell ⟨r, 0, none⟩ x).setCell ⟨r, 1, none⟩ y).setCell ⟨r, 2, none⟩ z).cell? ⟨S + 1, 2, none⟩ = some u6 := by
  obtain ⟨a0, a1, a2, a3, a4, a5, a6⟩ := hS
  exact ⟨(far3 h0).trans a0, (far3 h0).trans a1, (far3 h0).trans a2, (far3 h0).trans a3, (far3 h1).trans a4, (far3 h1).trans a5, (far3 h1).trans a6⟩

set_option maxHeartbeats 8000000 in
theorem hid_out (n t d L : Nat) (q b : Int) (l x k : List UInt8) (H cap : Nat) (gs caps : Nat → Nat) (g0 c0 g1 c1 H2 cap2 : Nat) (gs2 caps2 : Nat → Nat) (w : World) (g : NT n t) (hd : n / 2 = d) (hq : 2 ≤ q) (hq2 : q ≤ 1073741823) (hb : 1 ≤ b) (hb2 : b ≤ 8) (hL : DigOf q b L) (hl : layB l n t = true) (hx : ctB x n t q = true) (hk : tnB k (2 * n * L) q = true)
    (hR : RowsAt w H d d gs caps (matR n l)) (i0 : IsI w g0 (ct0 x n)) (i1 : IsI w g1 (ct1 x n)) (hR2 : RowsAt w H2 (2 * L) n gs2 caps2 (tkP k n)) :
    Calls Tryz.prog 91 #[.agg #[.int .i64 n, .int .i64 t, .int .i64 q, .int .i64 b], .slice (some ⟨H, 0, none⟩) d cap, .agg #[.int .i64 (ctE x : Nat), .slice (some ⟨g0, 0, none⟩) n c0, .slice (some ⟨g1, 0, none⟩) n c1], .slice (some ⟨H2, 0, none⟩) L cap2] w fun r w' => Out n t q (linS n t q b L l k x (n / 2 - 1)).2.1 (linS n t q b L l k x (n / 2 - 1)).2.2 r w' ∧ Up w w' := by
  have ht2 := g.ht
  have h256 : ((256 ^ 2 : Nat) : Int) = 65536 := by decide
  have hhf := g.half
  have hn := g.hn
  have hnd : n = 2 * d := by omega
  have HD : Hid (∀ (i : Nat) W, i ≤ 16 → RowsAt W H d d gs caps (matR n l) → Calls Tryz.prog 135 #[.slice (some ⟨H, 0, none⟩) d cap, .int .i64 (i : Int)] W fun e w' => ∃ g c, e = .returned (.slice (some ⟨g, 0, none⟩) n c) ∧ IsI w' g (diaI n l i) ∧ Up W w') := fun i W hi h => by
    have := diag_calls d H cap i gs caps (matR n l) W (by omega) (by omega) hi (fun j _ => by rw [matR_length, hd]) h
    rw [dia_mat n d hd hn l i, ← hnd] at this
    exact this
  have HM : Hid (∀ (y : List UInt8) (i : Nat) W (g0 c0 g1 c1 gv cv : Nat), ctB y n t q = true → IsI W gv (diaI n l i) → IsI W g0 (ct0 y n) → IsI W g1 (ct1 y n) → Calls Tryz.prog 134 #[.agg #[.int .i64 n, .int .i64 t, .int .i64 q, .int .i64 b], .agg #[.int .i64 (ctE y : Nat), .slice (some ⟨g0, 0, none⟩) n c0, .slice (some ⟨g1, 0, none⟩) n c1], .slice (some ⟨gv, 0, none⟩) n cv] W fun r w' => Out n t q (mulPlainL n t q y (textsL 2 (diaI n l i))).1 (mulPlainL n t q y (textsL 2 (diaI n l i))).2 r w' ∧ Up W w') := fun y i W g0 c0 g1 c1 gv cv hy h1 h2 h3 => mul_out n t q b y (diaI n l i) g0 c0 g1 c1 gv cv W g hq hq2 hy (diaI_length _ _ _) (diaI_small n hn t l hl i) h1 h2 h3
  have HT : Hid (∀ (y : List UInt8) W (g0 c0 g1 c1 : Nat), ctB y n t q = true → IsI W g0 (ct0 y n) → IsI W g1 (ct1 y n) → RowsAt W H2 (2 * L) n gs2 caps2 (tkP k n) → Calls Tryz.prog 136 #[.agg #[.int .i64 n, .int .i64 t, .int .i64 q, .int .i64 b], .agg #[.int .i64 (ctE y : Nat), .slice (some ⟨g0, 0, none⟩) n c0, .slice (some ⟨g1, 0, none⟩) n c1], .slice (some ⟨H2, 0, none⟩) L cap2] W fun r w' => Out n t q (turnL n t q b L y k).1 (turnL n t q b L y k).2 r w' ∧ Up W w') := fun y W g0 c0 g1 c1 hy h1 h2 h3 => turn_out n t L q b y k g0 c0 g1 c1 H2 cap2 gs2 caps2 W g hq hq2 hb hb2 hL hy hk h1 h2 h3
  have HA0' : Hid (∀ (a y : List UInt8) (i : Nat) W (g0 c0 g1 c1 g2 c2 g3 c3 gv cv : Nat), ctB a n t q = true → ctB y n t q = true → IsI W gv (diaI n l i) → IsI W g0 (ct0 a n) → IsI W g1 (ct1 a n) → IsI W g2 (ct0 y n) → IsI W g3 (ct1 y n) → Calls Tryz.prog 137 #[.agg #[.int .i64 n, .int .i64 t, .int .i64 q, .int .i64 b], .agg #[.int .i64 (ctE a : Nat), .slice (some ⟨g0, 0, none⟩) n c0, .slice (some ⟨g1, 0, none⟩) n c1], .agg #[.int .i64 (ctE y : Nat), .slice (some ⟨g2, 0, none⟩) n c2, .slice (some ⟨g3, 0, none⟩) n c3], .slice (some ⟨gv, 0, none⟩) n cv] W fun r w' => Out n t q (apR n t q a y (textsL 2 (diaI n l i))).1 (apR n t q a y (textsL 2 (diaI n l i))).2 r w' ∧ Up W w') := fun a y i W g0 c0 g1 c1 g2 c2 g3 c3 gv cv ha hy h1 h2 h3 h4 h5 => layAdd_out n t q b a y (diaI n l i) g0 c0 g1 c1 g2 c2 g3 c3 gv cv W g hq hq2 ha hy (diaI_length _ _ _) (diaI_small n hn t l hl i) h1 h2 h3 h4 h5
  have HStep : Hid (∀ (c a : List UInt8) (i : Nat), linS n t q b L l k x i = (c, a, 0) → ctB c n t q = true → ctB a n t q = true →
    ((turnL n t q b L c k).2 ≠ 0 → (linS n t q b L l k x (i + 1)).2.2 = (turnL n t q b L c k).2) ∧
    ((turnL n t q b L c k).2 = 0 → ctB (turnL n t q b L c k).1 n t q = true → (linS n t q b L l k x (i + 1)).1 = (turnL n t q b L c k).1 ∧ (linS n t q b L l k x (i + 1)).2.2 = (apR n t q a (turnL n t q b L c k).1 (textsL 2 (diaI n l (i + 1)))).2 ∧ ((apR n t q a (turnL n t q b L c k).1 (textsL 2 (diaI n l (i + 1)))).2 = 0 → (linS n t q b L l k x (i + 1)).2.1 = (apR n t q a (turnL n t q b L c k).1 (textsL 2 (diaI n l (i + 1)))).1))) := fun c a i h1 h2 h3 => lin_step g hq hq2 L l k x c a i hl h1 h2 h3
  have HStuck : Hid (∀ i, i ≤ d - 1 → (linS n t q b L l k x i).2.2 ≠ 0 → (linS n t q b L l k x (n / 2 - 1)).2.2 = (linS n t q b L l k x i).2.2) := fun i hi h => by
    have := linS_stuck n t q b L l k x i h (n / 2 - 1 - i)
    rw [Nat.add_sub_cancel' (by omega)] at this
    rw [this]
  have HZero : Hid (linS n t q b L l k x 0 = (x, (mulPlainL n t q x (textsL 2 (diaI n l 0))).1, (mulPlainL n t q x (textsL 2 (diaI n l 0))).2)) := by
    have e1 : mulA n t q x (diagL n l 0) = mulPlainL n t q x (textsL 2 (diaI n l 0)) := by
      unfold mulA
      rw [if_pos hx, diag_text n hn, if_pos (okL_texts _ n 2 t (diaI_length _ _ _) (diaI_small n hn t l hl 0) (by omega))]
    show linS n t q b L l k x 0 = _
    simp only [linS]
    rw [e1]
  have HEnd : Hid (n / 2 - 1 = d - 1) := show n / 2 - 1 = d - 1 by omega
  have HX : Hid _ := hx
  generalize linS n t q b L l k x = LS at HStep HStuck HZero
  have HRR : Hid _ := hR
  have HR2 : Hid _ := hR2
  have HLn : Hid (∀ y, (ct0 y n).length = n ∧ (ct1 y n).length = n) := fun y => ⟨ct0_length y n, ct1_length y n⟩
  have hn16 : n ≤ 16 := by omega
  have hd2 : 2 ≤ d := by omega
  have hd8 : d ≤ 8 := by omega
  clear hL hl hx hk hR hR2 hd hn hnd
  obtain ⟨W, hW⟩ : ∃ W, W = ((w.alloc (.cells #[.int .i64 n, .int .i64 t, .int .i64 q, .int .i64 b] 28)).alloc (.cells #[.int .i64 (ctE x : Nat), .slice (some ⟨g0, 0, none⟩) n c0, .slice (some ⟨g1, 0, none⟩) n c1] 84)).alloc (.cells #[.int .i64 0, .slice none 0 0, .slice none 0 0] 84) := ⟨_, rfl⟩
  have huW : Up w W := by rw [hW]; exact (((Up.refl _).alloc _).alloc _).alloc _
  have HsW : Hid (W.heap.size = w.heap.size + 3) := show W.heap.size = w.heap.size + 3 by rw [hW]; simp
  have hS0 : W.cell? ⟨w.heap.size, 0, none⟩ = some (.int .i64 (n : Int)) := by rw [hW]; simp [go_sem]
  have hS1 : W.cell? ⟨w.heap.size, 1, none⟩ = some (.int .i64 (t : Int)) := by rw [hW]; simp [go_sem]
  have hS2 : W.cell? ⟨w.heap.size, 2, none⟩ = some (.int .i64 q) := by rw [hW]; simp [go_sem]
  have hS3 : W.cell? ⟨w.heap.size, 3, none⟩ = some (.int .i64 b) := by rw [hW]; simp [go_sem]
  have hX0 : W.cell? ⟨w.heap.size + 1, 0, none⟩ = some (.int .i64 ((ctE x : Nat) : Int)) := by rw [hW]; simp [go_sem]
  have hX1 : W.cell? ⟨w.heap.size + 1, 1, none⟩ = some (.slice (some ⟨g0, 0, none⟩) n c0) := by rw [hW]; simp [go_sem]
  have hX2 : W.cell? ⟨w.heap.size + 1, 2, none⟩ = some (.slice (some ⟨g1, 0, none⟩) n c1) := by rw [hW]; simp [go_sem]
  have HK0 : Hid (W.cell? ⟨w.heap.size + 2, 0, none⟩ = some (.int .i64 0)) := show W.cell? ⟨w.heap.size + 2, 0, none⟩ = some (.int .i64 0) from by rw [hW]; simp [go_sem]
  have HK1 : Hid (W.cell? ⟨w.heap.size + 2, 1, none⟩ = some (.slice none 0 0)) := show W.cell? ⟨w.heap.size + 2, 1, none⟩ = some (.slice none 0 0) from by rw [hW]; simp [go_sem]
  have HK2 : Hid (W.cell? ⟨w.heap.size + 2, 2, none⟩ = some (.slice none 0 0)) := show W.cell? ⟨w.heap.size + 2, 2, none⟩ = some (.slice none 0 0) from by rw [hW]; simp [go_sem]
  have HZr : Hid (∀ o, W.frozen? ⟨w.heap.size + 2, o, none⟩ = false) := show ∀ o, W.frozen? ⟨w.heap.size + 2, o, none⟩ = false from fun o => by rw [hW]; simp [go_sem]
  have HZc : Hid (∀ o, W.frozen? ⟨w.heap.size + 1, o, none⟩ = false) := show ∀ o, W.frozen? ⟨w.heap.size + 1, o, none⟩ = false from fun o => by rw [hW]; simp [go_sem]
  by_cases hm : (mulPlainL n t q x (textsL 2 (diaI n l 0))).2 = 0
  · have HM0 : Hid (∀ W (gv cv : Nat), IsI W gv (diaI n l 0) → IsI W g0 (ct0 x n) → IsI W g1 (ct1 x n) → Calls Tryz.prog 134 #[.agg #[.int .i64 n, .int .i64 t, .int .i64 q, .int .i64 b], .agg #[.int .i64 (ctE x : Nat), .slice (some ⟨g0, 0, none⟩) n c0, .slice (some ⟨g1, 0, none⟩) n c1], .slice (some ⟨gv, 0, none⟩) n cv] W fun r w' => ∃ (h0 k0 h1 k1 : Nat), r = .returned (.tuple #[.agg #[.int .i64 (ctE (mulPlainL n t q x (textsL 2 (diaI n l 0))).1 : Nat), .slice (some ⟨h0, 0, none⟩) n k0, .slice (some ⟨h1, 0, none⟩) n k1], .bool true]) ∧ Hid (ctB (mulPlainL n t q x (textsL 2 (diaI n l 0))).1 n t q = true ∧ toldL (ctE (mulPlainL n t q x (textsL 2 (diaI n l 0))).1) (ct0 (mulPlainL n t q x (textsL 2 (diaI n l 0))).1 n) (ct1 (mulPlainL n t q x (textsL 2 (diaI n l 0))).1 n) = (mulPlainL n t q x (textsL 2 (diaI n l 0))).1) ∧ IsI w' h0 (ct0 (mulPlainL n t q x (textsL 2 (diaI n l 0))).1 n) ∧ IsI w' h1 (ct1 (mulPlainL n t q x (textsL 2 (diaI n l 0))).1 n) ∧ Up W w') := fun W gv cv h1 h2 h3 => by
      refine (HM.out x 0 W g0 c0 g1 c1 gv cv HX.out h1 h2 h3).mono ?_
      rintro r w' ⟨ho, hu⟩
      obtain ⟨a1, a2, h0, k0, h1, k1, rfl, j0, j1⟩ := ho.yes hm
      exact ⟨h0, k0, h1, k1, rfl, ⟨a1, a2⟩, j0, j1, hu⟩
    have HZ0 : Hid (LS 0 = (x, (mulPlainL n t q x (textsL 2 (diaI n l 0))).1, 0)) := show _ = _ by rw [HZero.out, hm]
    generalize (mulPlainL n t q x (textsL 2 (diaI n l 0))).1 = M at HM0 HZ0
    clear hm
    have HD0 : Hid (∀ W, RowsAt W H d d gs caps (matR n l) → Calls Tryz.prog 135 #[.slice (some ⟨H, 0, none⟩) d cap, .int .i64 0] W fun e w' => ∃ g c, e = .returned (.slice (some ⟨g, 0, none⟩) n c) ∧ IsI w' g (diaI n l 0) ∧ Up W w') := fun W h => HD.out 0 W (by omega) h
    have HW0 : Hid (HidW W w.heap.size n t q b (ctE x) g0 c0 g1 c1) := ⟨hS0, hS1, hS2, hS3, hX0, hX1, hX2, HK0.out, HK1.out, HK2.out, HZc.out, HZr.out, HsW.out⟩
    go_enter Tryz.func91, Tryz.ntmps91
    go_wp2_with fail
    rw [← hW]
    clear hW
    generalize hEx : ctE x = Ex at HM0 hX0 HW0
    have HEx : Hid _ := hEx
    clear hEx
    go_region_held3 (fun w' => w'.cell? ⟨w.heap.size, 0, none⟩ = some (.int .i64 (n : Int)) ∧ w'.cell? ⟨w.heap.size, 1, none⟩ = some (.int .i64 (t : Int)) ∧ w'.cell? ⟨w.heap.size, 2, none⟩ = some (.int .i64 q) ∧ w'.cell? ⟨w.heap.size, 3, none⟩ = some (.int .i64 b) ∧ w'.cell? ⟨w.heap.size + 1, 0, none⟩ = some (.int .i64 (Ex : Int)) ∧ w'.cell? ⟨w.heap.size + 1, 1, none⟩ = some (.slice (some ⟨g0, 0, none⟩) n c0) ∧ w'.cell? ⟨w.heap.size + 1, 2, none⟩ = some (.slice (some ⟨g1, 0, none⟩) n c1))
      (first | go_keep | exact keepC7 hu2 (by assumption) | exact keepC7 hu1 (by assumption) | exact keepC7 (Up.alloc (Up.refl _) _) (by assumption) | exact keepA7 (by have := HsW.out; omega) (by assumption) | exact keepSet7 (by have := HsW.out; omega) (by have := HsW.out; omega) (by assumption))
      ((first | (go_at_call 135; refine Calls.mono (HD0.out _ (by first | exact HRR.out.up (Up.drew huW) | exact HRR.out.up (Up.alloc (Up.drew huW) _) | exact HRR.out.up (Up.drew (Up.alloc huW _)))) ?_; rintro r w1 ⟨gv, cv, rfl, iv, hu1⟩; have huW1 : Up W w1 := (by first | exact Up.trans (Up.drew (Up.refl W)) hu1 | exact Up.trans (Up.alloc (Up.drew (Up.refl W)) _) hu1 | exact Up.trans (Up.drew (Up.alloc (Up.refl W) _)) hu1); have huw1 : Up w w1 := (by first | exact Up.trans (Up.drew huW) hu1 | exact Up.trans (Up.alloc (Up.drew huW) _) hu1 | exact Up.trans (Up.drew (Up.alloc huW _)) hu1); have hsz1 : W.heap.size ≤ w1.heap.size := (by have := hu1.size; first | omega | (simp at this; omega)); first | (have hg1 : Up (World.alloc _ _) w1 := hu1; have hn0 : w1.cell? ⟨W.heap.size, 0, none⟩ = some (.int .i64 0) := keepC hu1 (by simp); have hn1 : w1.cell? ⟨W.heap.size, 1, none⟩ = some (.slice none 0 0) := keepC hu1 (by simp); have hn2 : w1.cell? ⟨W.heap.size, 2, none⟩ = some (.slice none 0 0) := keepC hu1 (by simp); have hm0 : ∀ o, w1.frozen? ⟨W.heap.size, o, none⟩ = false := fun o => ((bcell hu1).2 _ _ (by simp)).trans (by simp)) | (have hg1 : Up (World.drew (World.alloc _ _)) w1 := hu1; have hn0 : w1.cell? ⟨W.heap.size, 0, none⟩ = some (.int .i64 0) := keepC hu1 (by simp); have hn1 : w1.cell? ⟨W.heap.size, 1, none⟩ = some (.slice none 0 0) := keepC hu1 (by simp); have hn2 : w1.cell? ⟨W.heap.size, 2, none⟩ = some (.slice none 0 0) := keepC hu1 (by simp); have hm0 : ∀ o, w1.frozen? ⟨W.heap.size, o, none⟩ = false := fun o => ((bcell hu1).2 _ _ (by simp)).trans (by simp)) | skip) | (go_at_call 134; refine Calls.mono (HM0.out _ gv cv (by first | exact iv | exact iv.up (Up.alloc (Up.refl _) _)) (by first | exact i0.up huw1 | exact i0.up (Up.alloc huw1 _)) (by first | exact i1.up huw1 | exact i1.up (Up.alloc huw1 _))) ?_; rintro r w2 ⟨h0, k0, h1, k1, rfl, HMc, j0, j1, hu2⟩; have huW2 : Up W w2 := (by first | exact huW1.trans hu2 | exact Up.trans (Up.alloc huW1 _) hu2); have hsz2 : W.heap.size ≤ w2.heap.size := (by have := hu2.size; first | omega | (simp at this; omega)); first | (have hg2 : Up (World.alloc _ _) w2 := hu2; have hn0' : w2.cell? ⟨w1.heap.size, 0, none⟩ = some (.int .i64 0) := keepC hu2 (by simp); have hn1' : w2.cell? ⟨w1.heap.size, 1, none⟩ = some (.slice none 0 0) := keepC hu2 (by simp); have hn2' : w2.cell? ⟨w1.heap.size, 2, none⟩ = some (.slice none 0 0) := keepC hu2 (by simp); have hm0' : ∀ o, w2.frozen? ⟨w1.heap.size, o, none⟩ = false := fun o => ((bcell hu2).2 _ _ (by simp)).trans (by simp)) | (have hn0' : w2.cell? ⟨W.heap.size, 0, none⟩ = some (.int .i64 0) := keepC hu2 hn0; have hn1' : w2.cell? ⟨W.heap.size, 1, none⟩ = some (.slice none 0 0) := keepC hu2 hn1; have hn2' : w2.cell? ⟨W.heap.size, 2, none⟩ = some (.slice none 0 0) := keepC hu2 hn2; have hm0' : ∀ o, w2.frozen? ⟨W.heap.size, o, none⟩ = false := fun o => frozen_up hu2 hn0 (hm0 o)) | skip)))
    all_goals
      rename_i hHeld
      clear hHeld
      first
        | (obtain ⟨Wx, hWx⟩ : ∃ Wx, Wx = w2.alloc (.cells #[.int .i64 ((ctE M : Nat) : Int), .slice (some ⟨h0, 0, none⟩) n k0, .slice (some ⟨h1, 0, none⟩) n k1] 84) := ⟨_, rfl⟩
           rw [← hWx]
           have HA0 : HidAt Wx w.heap.size w2.heap.size n t q b Ex g0 c0 g1 c1 (ctE M) h0 k0 h1 k1 := by rw [hWx]; exact hid_mkA HW0.out huW2 _ _ _ _ _
           have hux : Up w Wx := by rw [hWx]; exact Up.alloc (huW.trans huW2) _
           have jx0 : IsI Wx h0 (ct0 M n) := by rw [hWx]; exact j0.up (Up.alloc (Up.refl _) _)
           have jx1 : IsI Wx h1 (ct1 M n) := by rw [hWx]; exact j1.up (Up.alloc (Up.refl _) _)
           clear hWx
           generalize w2.heap.size = G at HA0 ⊢)
        | (obtain ⟨Wx, hWx⟩ : ∃ Wx, Wx = ((w2.setCell ⟨w1.heap.size, 0, none⟩ (.int .i64 ((ctE M : Nat) : Int))).setCell ⟨w1.heap.size, 1, none⟩ (.slice (some ⟨h0, 0, none⟩) n k0)).setCell ⟨w1.heap.size, 2, none⟩ (.slice (some ⟨h1, 0, none⟩) n k1) := ⟨_, rfl⟩
           rw [← hWx]
           have HA0 : HidAt Wx w.heap.size w1.heap.size n t q b Ex g0 c0 g1 c1 (ctE M) h0 k0 h1 k1 := by rw [hWx]; exact hid_mkB HW0.out huW2 hsz1 hn0' hn1' hn2' hm0' _ _ _ _ _
           have hux : Up w Wx := by rw [hWx]; exact Up.set3 (huW.trans huW2) (Nat.le_trans huW.size hsz1) _ _ _
           have jx0 : IsI Wx h0 (ct0 M n) := by rw [hWx]; exact j0.set3 (j0.ne (by rw [(HLn.out M).1]; omega) hn1') _ _ _
           have jx1 : IsI Wx h1 (ct1 M n) := by rw [hWx]; exact j1.set3 (j1.ne (by rw [(HLn.out M).2]; omega) hn1') _ _ _
           clear hWx
           generalize w1.heap.size = G at HA0 ⊢)
        | (obtain ⟨Wx, hWx⟩ : ∃ Wx, Wx = ((w2.setCell ⟨W.heap.size, 0, none⟩ (.int .i64 ((ctE M : Nat) : Int))).setCell ⟨W.heap.size, 1, none⟩ (.slice (some ⟨h0, 0, none⟩) n k0)).setCell ⟨W.heap.size, 2, none⟩ (.slice (some ⟨h1, 0, none⟩) n k1) := ⟨_, rfl⟩
           rw [← hWx]
           have HA0 : HidAt Wx w.heap.size W.heap.size n t q b Ex g0 c0 g1 c1 (ctE M) h0 k0 h1 k1 := by rw [hWx]; exact hid_mkB HW0.out huW2 (Nat.le_refl _) hn0' hn1' hn2' hm0' _ _ _ _ _
           have hux : Up w Wx := by rw [hWx]; exact Up.set3 (huW.trans huW2) huW.size _ _ _
           have jx0 : IsI Wx h0 (ct0 M n) := by rw [hWx]; exact j0.set3 (j0.ne (by rw [(HLn.out M).1]; omega) hn1') _ _ _
           have jx1 : IsI Wx h1 (ct1 M n) := by rw [hWx]; exact j1.set3 (j1.ne (by rw [(HLn.out M).2]; omega) hn1') _ _ _
           clear hWx
           generalize W.heap.size = G at HA0 ⊢)
      have ix0 := i0.up hux
      have ix1 := i1.up hux
      clear iv hu1 huw1 huW1 huW2 hu2 hsz1 hsz2 j0 j1
      try clear hn0' hn1' hn2' hm0'
      try clear hn0 hn1 hn2 hm0
      try clear hg1
      try clear hg2
      go_wp2_with fail
      go_loopw [11, 12] (fun so si wr => ∃ (i j : Nat) (c a : List UInt8) (x0 m0 x1 m1 y0 l0 y1 l1 Ec Ea : Nat), Hid (i = j + 1) ∧ 1 ≤ i ∧ i ≤ d ∧ so = .bool true ∧ si = .int .i64 (i : Int) ∧ Hid (LS j = (c, a, 0)) ∧ Hid (ctB c n t q = true) ∧ Hid (ctB a n t q = true ∧ toldL (ctE a) (ct0 a n) (ct1 a n) = a) ∧ Hid (ctE c = Ec) ∧ Hid (ctE a = Ea) ∧ Hid (HidAt wr w.heap.size G n t q b Ec x0 m0 x1 m1 Ea y0 l0 y1 l1) ∧ IsI wr x0 (ct0 c n) ∧ IsI wr x1 (ct1 c n) ∧ IsI wr y0 (ct0 a n) ∧ IsI wr y1 (ct1 a n) ∧ Up w wr) (fun _ si _ => d - (intOf si).toNat)
      case atStart => exact ⟨1, 0, x, M, g0, c0, g1, c1, h0, k0, h1, k1, Ex, _, rfl, by omega, by omega, rfl, rfl, HZ0.out, HX.out, HMc.out, HEx.out, rfl, HA0, ix0, ix1, jx0, jx1, hux⟩
      case round =>
        clear HA0 hux jx0 jx1 ix0 ix1
        obtain ⟨i, j, c, a, x0, m0, x1, m1, y0, l0, y1, l1, Ec, Ea, HI, hi1, hid, rfl, rfl, HLS, Hc, Ha, HEc, HEa, HA, ix0, ix1, iy0, iy1, hu⟩ := hrel
        have hp0 := HA.out.p0
        have hp1 := HA.out.p1
        have hp2 := HA.out.p2
        have hp3 := HA.out.p3
        have hc0 := HA.out.c0
        have hc1 := HA.out.c1
        have hc2 := HA.out.c2
        have hs0 := HA.out.s0
        have hs1 := HA.out.s1
        have hs2 := HA.out.s2
        have hk0 := HA.out.r0
        have hk1 := HA.out.r1
        have hk2 := HA.out.r2
        by_cases hlt : i < d
        · have HTc : Hid _ := fun W => HT.out c W x0 m0 x1 m1 Hc.out
          rw [HEc.out] at HTc
          have hStep := HStep.out c a j HLS.out Hc.out Ha.out.1
          have hij : i = j + 1 := HI.out
          rw [← hij] at hStep
          have HIJ : Hid _ := hij
          have HSt : Hid _ := hStep
          clear hij hStep
          go_wp2_with fail
          refine Calls.mono (HTc.out _ ix0 ix1 (HR2.out.up hu)) ?_
          rintro r w3 ⟨ho3, hu3⟩
          have HA3 : Hid _ := HA.out.up hu3
          have hu03 := hu.trans hu3
          clear hp0 hp1 hp2 hp3 hc0 hc1 hc2 hs0 hs1 hs2 hk0 hk1 hk2
          have hc0 := HA3.out.c0
          have hc1 := HA3.out.c1
          have hc2 := HA3.out.c2
          have hzc0 := HA3.out.zc 0
          have hzc1 := HA3.out.zc 1
          have hzc2 := HA3.out.zc 2
          have hfar := HA3.out.far
          rcases ho3 with ⟨ht0, htc, htt, z0, v0, z1, v1, rfl, iz0, iz1⟩ | ⟨ht0, rfl⟩
          · have HS2 : Hid _ := HSt.out.2 ht0 htc
            have Htc : Hid _ := htc
            generalize (turnL n t q b L c k).1 = T at HS2 Htc iz0 iz1 ⊢
            clear ht0 htc htt HSt
            generalize hEt : ctE T = Et
            have HEt : Hid _ := hEt
            clear hEt
            obtain ⟨W4, hW4⟩ : ∃ W4, W4 = ((w3.setCell ⟨w.heap.size + 1, 0, none⟩ (.int .i64 (Et : Int))).setCell ⟨w.heap.size + 1, 1, none⟩ (.slice (some ⟨z0, 0, none⟩) n v0)).setCell ⟨w.heap.size + 1, 2, none⟩ (.slice (some ⟨z1, 0, none⟩) n v1) := ⟨_, rfl⟩
            have HA4 : Hid (HidAt W4 w.heap.size G n t q b Et z0 v0 z1 v1 Ea y0 l0 y1 l1) := by rw [hW4]; exact HA3.out.setC Et z0 v0 z1 v1
            have hu4 : Up w W4 := by rw [hW4]; exact Up.set3 hu03 (by omega) _ _ _
            have kz0 : IsI W4 z0 (ct0 T n) := by rw [hW4]; exact iz0.set3 (iz0.ne (by rw [(HLn.out T).1]; omega) hc1) _ _ _
            have kz1 : IsI W4 z1 (ct1 T n) := by rw [hW4]; exact iz1.set3 (iz1.ne (by rw [(HLn.out T).2]; omega) hc1) _ _ _
            have iy03 := iy0.up hu3
            have iy13 := iy1.up hu3
            have ky0 : IsI W4 y0 (ct0 a n) := by rw [hW4]; exact iy03.set3 (iy03.ne (by rw [(HLn.out a).1]; omega) hc1) _ _ _
            have ky1 : IsI W4 y1 (ct1 a n) := by rw [hW4]; exact iy13.set3 (iy13.ne (by rw [(HLn.out a).2]; omega) hc1) _ _ _
            have HAa : Hid _ := fun W gv cv => HA0'.out a T i W y0 l0 y1 l1 z0 v0 z1 v1 gv cv Ha.out.1 Htc.out
            rw [HEt.out, HEa.out] at HAa
            have HDi : Hid _ := fun W => HD.out i W (by omega)
            have hz0 := HA4.out.zs
            generalize apR n t q a T (textsL 2 (diaI n l i)) = AP at HS2 HAa
            have hP : AP.2 = 0 ∨ AP.2 ≠ 0 := Classical.em _
            rcases hP with hap | hap
            · have HAb : Hid (∀ W (gv cv : Nat), IsI W gv (diaI n l i) → IsI W y0 (ct0 a n) → IsI W y1 (ct1 a n) → IsI W z0 (ct0 T n) → IsI W z1 (ct1 T n) → Calls Tryz.prog 137 #[.agg #[.int .i64 n, .int .i64 t, .int .i64 q, .int .i64 b], .agg #[.int .i64 (Ea : Int), .slice (some ⟨y0, 0, none⟩) n l0, .slice (some ⟨y1, 0, none⟩) n l1], .agg #[.int .i64 (Et : Int), .slice (some ⟨z0, 0, none⟩) n v0, .slice (some ⟨z1, 0, none⟩) n v1], .slice (some ⟨gv, 0, none⟩) n cv] W fun r w' => ∃ (e0 f0 e1 f1 : Nat), r = .returned (.tuple #[.agg #[.int .i64 (ctE AP.1 : Nat), .slice (some ⟨e0, 0, none⟩) n f0, .slice (some ⟨e1, 0, none⟩) n f1], .bool true]) ∧ Hid (ctB AP.1 n t q = true ∧ toldL (ctE AP.1) (ct0 AP.1 n) (ct1 AP.1 n) = AP.1) ∧ IsI w' e0 (ct0 AP.1 n) ∧ IsI w' e1 (ct1 AP.1 n) ∧ Up W w') := fun W gv cv h1 h2 h3 h4 h5 => by
                refine Calls.mono (HAa.out W gv cv h1 h2 h3 h4 h5) ?_
                rintro r w' ⟨ho, hu⟩
                obtain ⟨a1, a2, e0, f0, e1, f1, rfl, j0, j1⟩ := ho.yes hap
                exact ⟨e0, f0, e1, f1, rfl, ⟨a1, a2⟩, j0, j1, hu⟩
              have HS3 : Hid (LS i = (T, AP.1, 0)) := show LS i = (T, AP.1, 0) from Prod.ext HS2.out.1 (Prod.ext (HS2.out.2.2 hap) (HS2.out.2.1.trans hap))
              generalize AP.1 = A1 at HAb HS3
              generalize hEs : ctE A1 = Es at HAb
              have HEs : Hid _ := hEs
              clear hap HS2 HAa hEs
              go_wp2_with fail
              rw [← hW4]
              clear hW4 hc0 hc1 hc2 hzc0 hzc1 hzc2
              have hp0 := HA4.out.p0
              have hp1 := HA4.out.p1
              have hp2 := HA4.out.p2
              have hp3 := HA4.out.p3
              have hc0 := HA4.out.c0
              have hc1 := HA4.out.c1
              have hc2 := HA4.out.c2
              have hs0 := HA4.out.s0
              have hs1 := HA4.out.s1
              have hs2 := HA4.out.s2
              refine wp_region_noPanic ?_
              refine wp_region_held_drew (S := (fun w' => w'.cell? ⟨w.heap.size, 0, none⟩ = some (.int .i64 (n : Int)) ∧ w'.cell? ⟨w.heap.size, 1, none⟩ = some (.int .i64 (t : Int)) ∧ w'.cell? ⟨w.heap.size, 2, none⟩ = some (.int .i64 q) ∧ w'.cell? ⟨w.heap.size, 3, none⟩ = some (.int .i64 b) ∧ w'.cell? ⟨w.heap.size + 1, 0, none⟩ = some (.int .i64 (Et : Int)) ∧ w'.cell? ⟨w.heap.size + 1, 1, none⟩ = some (.slice (some ⟨z0, 0, none⟩) n v0) ∧ w'.cell? ⟨w.heap.size + 1, 2, none⟩ = some (.slice (some ⟨z1, 0, none⟩) n v1))) (by kernel_rfl) ?_ (fun hHeld => ?_)
              · exact ⟨hp0, hp1, hp2, hp3, hc0, hc1, hc2⟩
              refine wpAnyH_take (i := 0) (oi := { dst := some 41, op := Op.load 28 (Operand.tmp 4), type := 28, pos := "layers.go:100", after := #[], guard := none }) (v := ?_) rfl (by kernel_rfl) (by kernel_rfl) (by kernel_rfl) (fun _ _ _ h => h) (Or.inl ⟨by rfl, ?_⟩) (by assumption) ?_
              rotate_left
              · (intro w hSw; (try dsimp only at hSw); go_simp; try with_reducible rfl)
              try simp only [Act.put, List.setIfInBounds_toArray, List.set_cons_zero, List.set_cons_succ]
              refine wpAnyH_take (i := 2) (oi := { dst := some 43, op := Op.load 84 (Operand.tmp 6), type := 84, pos := "layers.go:100", after := #[], guard := none }) (v := ?_) rfl (by kernel_rfl) (by kernel_rfl) (by kernel_rfl) (fun _ _ _ h => h) (Or.inl ⟨by rfl, ?_⟩) (by assumption) ?_
              rotate_left
              · (intro w hSw; (try dsimp only at hSw); go_simp; try with_reducible rfl)
              try simp only [Act.put, List.setIfInBounds_toArray, List.set_cons_zero, List.set_cons_succ]
              refine wpAnyH_take (i := 3) (oi := { dst := some 44, op := Op.move (Operand.tmp 1), type := 78, pos := "layers.go:100", after := #[], guard := none }) (v := ?_) rfl (by kernel_rfl) (by kernel_rfl) (by kernel_rfl) (fun _ _ _ h => h) (Or.inl ⟨by rfl, ?_⟩) (by assumption) ?_
              rotate_left
              · (intro w hSw; (try dsimp only at hSw); go_simp; try with_reducible rfl)
              try simp only [Act.put, List.setIfInBounds_toArray, List.set_cons_zero, List.set_cons_succ]
              refine wpAnyH_take (i := 4) (oi := { dst := some 45, op := Op.move (Operand.tmp 12), type := 3, pos := "layers.go:100", after := #[], guard := none }) (v := ?_) rfl (by kernel_rfl) (by kernel_rfl) (by kernel_rfl) (fun _ _ _ h => h) (Or.inl ⟨by rfl, ?_⟩) (by assumption) ?_
              rotate_left
              · (intro w hSw; (try dsimp only at hSw); go_simp; try with_reducible rfl)
              try simp only [Act.put, List.setIfInBounds_toArray, List.set_cons_zero, List.set_cons_succ]
              refine wpAnyH_ready (rs := [1, 5]) (by kernel_rfl) (by simp) ?_
              refine AllReadyH.cons (o := { dst := some 42, op := Op.load 84 (Operand.tmp 10), type := 84, pos := "layers.go:100", after := #[], guard := none }) rfl (fun K hK => ?_) ?_
              · go_simp
                refine hK.out _ _ ?_ (fun hHeld2 => ?_)
                · exact hHeld
                clear hHeld
                have hHeld := hHeld2
                clear hHeld2
                clear hK K
                try simp only [Act.put, List.setIfInBounds_toArray, List.set_cons_zero, List.set_cons_succ]
                refine wpAnyH_ready (rs := [5]) (by kernel_rfl) (by simp) ?_
                refine AllReadyH.cons (o := { dst := some 46, op := Op.call { callee := Callee.value (Operand.func 135), args := #[Operand.tmp 44, Operand.tmp 45], argTypes := #[78, 3] }, type := 54, pos := "layers.go:100", after := #[{ on := 3, ground := Ground.data }, { on := 4, ground := Ground.data }], guard := none }) rfl (fun K hK => ?_) ?_
                rotate_left
                · exact AllReadyH.nil
                go_simp
                refine Calls.mono (HDi.out _ (HRR.out.up (Up.drew hu4))) ?_
                rintro r w5 ⟨gv, cv, rfl, iv, hu5⟩
                have hq0 : w5.cell? ⟨G, 0, none⟩ = some (.int .i64 (Ea : Int)) := keepC hu5 hs0
                have hq1 : w5.cell? ⟨G, 1, none⟩ = some (.slice (some ⟨y0, 0, none⟩) n l0) := keepC hu5 hs1
                have hq2 : w5.cell? ⟨G, 2, none⟩ = some (.slice (some ⟨y1, 0, none⟩) n l1) := keepC hu5 hs2
                have hu45 : Up W4 w5 := Up.trans (Up.drew (Up.refl _)) hu5
                go_wp2_with fail
                refine hK.out _ _ ?_ (fun hHeld2 => ?_)
                · exact keepC7 hu5 hHeld
                clear hHeld
                have hHeld := hHeld2
                clear hHeld2
                clear hK K
                try simp only [Act.put, List.setIfInBounds_toArray, List.set_cons_zero, List.set_cons_succ]
                refine wpAnyH_ready (rs := [6]) (by kernel_rfl) (by simp) ?_
                refine AllReadyH.cons (o := { dst := some 47, op := Op.call { callee := Callee.value (Operand.func 137), args := #[Operand.tmp 41, Operand.tmp 42, Operand.tmp 43, Operand.tmp 46], argTypes := #[28, 84, 84, 54] }, type := 92, pos := "layers.go:100", after := #[{ on := 0, ground := Ground.data }, { on := 1, ground := Ground.data }, { on := 2, ground := Ground.data }, { on := 5, ground := Ground.data }, { on := 5, ground := Ground.chain }], guard := none }) rfl (fun K hK => ?_) ?_
                rotate_left
                · exact AllReadyH.nil
                go_simp
                refine Calls.mono (HAb.out _ gv cv iv (ky0.up hu45) (ky1.up hu45) (kz0.up hu45) (kz1.up hu45)) ?_
                rintro r w6 ⟨e0, f0, e1, f1, rfl, HSc, is0, is1, hu6⟩
                have hr0 : w6.cell? ⟨G, 0, none⟩ = some (.int .i64 (Ea : Int)) := keepC hu6 hq0
                have hr1 : w6.cell? ⟨G, 1, none⟩ = some (.slice (some ⟨y0, 0, none⟩) n l0) := keepC hu6 hq1
                have hr2 : w6.cell? ⟨G, 2, none⟩ = some (.slice (some ⟨y1, 0, none⟩) n l1) := keepC hu6 hq2
                have hu46 : Up W4 w6 := hu45.trans hu6
                have hzG : ∀ o, w6.frozen? ⟨G, o, none⟩ = false := fun o => frozen_up hu46 hs0 (hz0 o)
                go_wp2_with fail
                refine hK.out _ _ ?_ (fun hHeld2 => ?_)
                · exact keepC7 hu6 hHeld
                clear hHeld
                have hHeld := hHeld2
                clear hHeld2
                clear hK K
                try simp only [Act.put, List.setIfInBounds_toArray, List.set_cons_zero, List.set_cons_succ]
                refine wpAnyH_take (i := 7) (oi := { dst := some 40, op := Op.move (Operand.tmp 47), type := 92, pos := "layers.go:100", after := #[{ on := 6, ground := Ground.data }], guard := none }) (v := ?_) rfl (by kernel_rfl) (by kernel_rfl) (by kernel_rfl) (fun _ _ _ h => h) (Or.inl ⟨by rfl, ?_⟩) (by assumption) ?_
                rotate_left
                · (intro w hSw; (try dsimp only at hSw); go_simp; try with_reducible rfl)
                try simp only [Act.put, List.setIfInBounds_toArray, List.set_cons_zero, List.set_cons_succ]
                refine wpAnyH_take (i := 8) (oi := { dst := some 48, op := Op.extract (Operand.tmp 40) 0, type := 84, pos := "layers.go:100", after := #[{ on := 7, ground := Ground.data }], guard := none }) (v := ?_) rfl (by kernel_rfl) (by kernel_rfl) (by kernel_rfl) (fun _ _ _ h => h) (Or.inl ⟨by rfl, ?_⟩) (by assumption) ?_
                rotate_left
                · (intro w hSw; (try dsimp only at hSw); go_simp; try with_reducible rfl)
                try simp only [Act.put, List.setIfInBounds_toArray, List.set_cons_zero, List.set_cons_succ]
                refine wpAnyH_take (i := 9) (oi := { dst := some 49, op := Op.extract (Operand.tmp 40) 1, type := 4, pos := "layers.go:100", after := #[{ on := 7, ground := Ground.data }, { on := 10, ground := Ground.gcOnly Departure.lateStores }], guard := none }) (v := ?_) rfl (by kernel_rfl) (by kernel_rfl) (by kernel_rfl) (fun _ _ _ h => h) (Or.inl ⟨by rfl, ?_⟩) (by assumption) ?_
                rotate_left
                · (intro w hSw; (try dsimp only at hSw); go_simp; try with_reducible rfl)
                try simp only [Act.put, List.setIfInBounds_toArray, List.set_cons_zero, List.set_cons_succ]
                refine wpAnyH_ready (rs := [10]) (by kernel_rfl) (by simp) ?_
                refine AllReadyH.cons (o := { dst := none, op := Op.store 84 (Operand.tmp 10) (Operand.tmp 48), type := 0, pos := "layers.go:100", after := #[{ on := 8, ground := Ground.data }, { on := 6, ground := Ground.chain }, { on := 0, ground := Ground.phase }, { on := 1, ground := Ground.phase }, { on := 2, ground := Ground.phase }, { on := 3, ground := Ground.phase }, { on := 4, ground := Ground.phase }, { on := 5, ground := Ground.phase }, { on := 6, ground := Ground.phase }, { on := 7, ground := Ground.phase }, { on := 8, ground := Ground.phase }, { on := 9, ground := Ground.textOnly Departure.lateStores }], guard := none }) rfl (fun K hK => ?_) ?_
                rotate_left
                · exact AllReadyH.nil
                go_simp
                refine hK.out _ _ ?_ (fun hHeld2 => ?_)
                · exact keepSet7 (by omega) (by omega) hHeld
                clear hHeld
                have hHeld := hHeld2
                clear hHeld2
                clear hK K
                try simp only [Act.put, List.setIfInBounds_toArray, List.set_cons_zero, List.set_cons_succ]
                refine wpAnyH_take (i := 11) (oi := { dst := some 11, op := Op.assign (Operand.tmp 49), type := 4, pos := "layers.go:100", after := #[{ on := 9, ground := Ground.data }, { on := 10, ground := Ground.chain }, { on := 0, ground := Ground.phase }, { on := 1, ground := Ground.phase }, { on := 2, ground := Ground.phase }, { on := 3, ground := Ground.phase }, { on := 4, ground := Ground.phase }, { on := 5, ground := Ground.phase }, { on := 6, ground := Ground.phase }, { on := 7, ground := Ground.phase }, { on := 8, ground := Ground.phase }, { on := 9, ground := Ground.phase }, { on := 10, ground := Ground.phase }], guard := none }) (v := ?_) rfl (by kernel_rfl) (by kernel_rfl) (by kernel_rfl) (fun _ _ _ h => h) (Or.inl ⟨by rfl, ?_⟩) (by assumption) ?_
                rotate_left
                · (intro w hSw; (try dsimp only at hSw); go_simp; try with_reducible rfl)
                try simp only [Act.put, List.setIfInBounds_toArray, List.set_cons_zero, List.set_cons_succ]
                refine wpAnyH_done (by kernel_rfl) ?_ _
                refine NoPanic.normal ?_
                obtain ⟨W7, hW7⟩ : ∃ W7, W7 = ((w6.setCell ⟨G, 0, none⟩ (.int .i64 (Es : Int))).setCell ⟨G, 1, none⟩ (.slice (some ⟨e0, 0, none⟩) n f0)).setCell ⟨G, 2, none⟩ (.slice (some ⟨e1, 0, none⟩) n f1) := ⟨_, rfl⟩
                have HA7 : Hid (HidAt W7 w.heap.size G n t q b Et z0 v0 z1 v1 Es e0 f0 e1 f1) := by rw [hW7]; exact (HA4.out.up hu46).setS Es e0 f0 e1 f1
                have hu7 : Up w W7 := by rw [hW7]; exact Up.set3 (hu4.trans hu46) (by omega) _ _ _
                have tz0 := kz0.up hu46
                have tz1 := kz1.up hu46
                have sz0 : IsI W7 z0 (ct0 T n) := by rw [hW7]; exact tz0.set3 (tz0.ne (by rw [(HLn.out T).1]; omega) hr1) _ _ _
                have sz1 : IsI W7 z1 (ct1 T n) := by rw [hW7]; exact tz1.set3 (tz1.ne (by rw [(HLn.out T).2]; omega) hr1) _ _ _
                have se0 : IsI W7 e0 (ct0 A1 n) := by rw [hW7]; exact is0.set3 (is0.ne (by rw [(HLn.out A1).1]; omega) hr1) _ _ _
                have se1 : IsI W7 e1 (ct1 A1 n) := by rw [hW7]; exact is1.set3 (is1.ne (by rw [(HLn.out A1).2]; omega) hr1) _ _ _
                try rw [← hW7]
                clear hW7
                go_wp2_with fail
                go_roundw
                case rel => exact ⟨i + 1, i, T, A1, z0, v0, z1, v1, e0, f0, e1, f1, Et, Es, rfl, by omega, by omega, rfl, by go_num, HS3.out, Htc.out, (by have h := HSc.out; rw [← HEs.out] at h; exact h), HEt.out, HEs.out, HA7.out, sz0, sz1, se0, se1, hu7⟩
                case measure => simp [intOf]; omega
                
              refine AllReadyH.cons (o := { dst := some 46, op := Op.call { callee := Callee.value (Operand.func 135), args := #[Operand.tmp 44, Operand.tmp 45], argTypes := #[78, 3] }, type := 54, pos := "layers.go:100", after := #[{ on := 3, ground := Ground.data }, { on := 4, ground := Ground.data }], guard := none }) rfl (fun K hK => ?_) ?_
              · go_simp
                refine Calls.mono (HDi.out _ (HRR.out.up (Up.drew hu4))) ?_
                rintro r w5 ⟨gv, cv, rfl, iv, hu5⟩
                have hq0 : w5.cell? ⟨G, 0, none⟩ = some (.int .i64 (Ea : Int)) := keepC hu5 hs0
                have hq1 : w5.cell? ⟨G, 1, none⟩ = some (.slice (some ⟨y0, 0, none⟩) n l0) := keepC hu5 hs1
                have hq2 : w5.cell? ⟨G, 2, none⟩ = some (.slice (some ⟨y1, 0, none⟩) n l1) := keepC hu5 hs2
                have hu45 : Up W4 w5 := Up.trans (Up.drew (Up.refl _)) hu5
                go_wp2_with fail
                refine hK.out _ _ ?_ (fun hHeld2 => ?_)
                · exact keepC7 hu5 hHeld
                clear hHeld
                have hHeld := hHeld2
                clear hHeld2
                clear hK K
                try simp only [Act.put, List.setIfInBounds_toArray, List.set_cons_zero, List.set_cons_succ]
                refine wpAnyH_ready (rs := [1]) (by kernel_rfl) (by simp) ?_
                refine AllReadyH.cons (o := { dst := some 42, op := Op.load 84 (Operand.tmp 10), type := 84, pos := "layers.go:100", after := #[], guard := none }) rfl (fun K hK => ?_) ?_
                rotate_left
                · exact AllReadyH.nil
                go_simp
                refine hK.out _ _ ?_ (fun hHeld2 => ?_)
                · exact hHeld
                clear hHeld
                have hHeld := hHeld2
                clear hHeld2
                clear hK K
                try simp only [Act.put, List.setIfInBounds_toArray, List.set_cons_zero, List.set_cons_succ]
                refine wpAnyH_ready (rs := [6]) (by kernel_rfl) (by simp) ?_
                refine AllReadyH.cons (o := { dst := some 47, op := Op.call { callee := Callee.value (Operand.func 137), args := #[Operand.tmp 41, Operand.tmp 42, Operand.tmp 43, Operand.tmp 46], argTypes := #[28, 84, 84, 54] }, type := 92, pos := "layers.go:100", after := #[{ on := 0, ground := Ground.data }, { on := 1, ground := Ground.data }, { on := 2, ground := Ground.data }, { on := 5, ground := Ground.data }, { on := 5, ground := Ground.chain }], guard := none }) rfl (fun K hK => ?_) ?_
                rotate_left
                · exact AllReadyH.nil
                go_simp
                refine Calls.mono (HAb.out _ gv cv iv (ky0.up hu45) (ky1.up hu45) (kz0.up hu45) (kz1.up hu45)) ?_
                rintro r w6 ⟨e0, f0, e1, f1, rfl, HSc, is0, is1, hu6⟩
                have hr0 : w6.cell? ⟨G, 0, none⟩ = some (.int .i64 (Ea : Int)) := keepC hu6 hq0
                have hr1 : w6.cell? ⟨G, 1, none⟩ = some (.slice (some ⟨y0, 0, none⟩) n l0) := keepC hu6 hq1
                have hr2 : w6.cell? ⟨G, 2, none⟩ = some (.slice (some ⟨y1, 0, none⟩) n l1) := keepC hu6 hq2
                have hu46 : Up W4 w6 := hu45.trans hu6
                have hzG : ∀ o, w6.frozen? ⟨G, o, none⟩ = false := fun o => frozen_up hu46 hs0 (hz0 o)
                go_wp2_with fail
                refine hK.out _ _ ?_ (fun hHeld2 => ?_)
                · exact keepC7 hu6 hHeld
                clear hHeld
                have hHeld := hHeld2
                clear hHeld2
                clear hK K
                try simp only [Act.put, List.setIfInBounds_toArray, List.set_cons_zero, List.set_cons_succ]
                refine wpAnyH_take (i := 7) (oi := { dst := some 40, op := Op.move (Operand.tmp 47), type := 92, pos := "layers.go:100", after := #[{ on := 6, ground := Ground.data }], guard := none }) (v := ?_) rfl (by kernel_rfl) (by kernel_rfl) (by kernel_rfl) (fun _ _ _ h => h) (Or.inl ⟨by rfl, ?_⟩) (by assumption) ?_
                rotate_left
                · (intro w hSw; (try dsimp only at hSw); go_simp; try with_reducible rfl)
                try simp only [Act.put, List.setIfInBounds_toArray, List.set_cons_zero, List.set_cons_succ]
                refine wpAnyH_take (i := 8) (oi := { dst := some 48, op := Op.extract (Operand.tmp 40) 0, type := 84, pos := "layers.go:100", after := #[{ on := 7, ground := Ground.data }], guard := none }) (v := ?_) rfl (by kernel_rfl) (by kernel_rfl) (by kernel_rfl) (fun _ _ _ h => h) (Or.inl ⟨by rfl, ?_⟩) (by assumption) ?_
                rotate_left
                · (intro w hSw; (try dsimp only at hSw); go_simp; try with_reducible rfl)
                try simp only [Act.put, List.setIfInBounds_toArray, List.set_cons_zero, List.set_cons_succ]
                refine wpAnyH_take (i := 9) (oi := { dst := some 49, op := Op.extract (Operand.tmp 40) 1, type := 4, pos := "layers.go:100", after := #[{ on := 7, ground := Ground.data }, { on := 10, ground := Ground.gcOnly Departure.lateStores }], guard := none }) (v := ?_) rfl (by kernel_rfl) (by kernel_rfl) (by kernel_rfl) (fun _ _ _ h => h) (Or.inl ⟨by rfl, ?_⟩) (by assumption) ?_
                rotate_left
                · (intro w hSw; (try dsimp only at hSw); go_simp; try with_reducible rfl)
                try simp only [Act.put, List.setIfInBounds_toArray, List.set_cons_zero, List.set_cons_succ]
                refine wpAnyH_ready (rs := [10]) (by kernel_rfl) (by simp) ?_
                refine AllReadyH.cons (o := { dst := none, op := Op.store 84 (Operand.tmp 10) (Operand.tmp 48), type := 0, pos := "layers.go:100", after := #[{ on := 8, ground := Ground.data }, { on := 6, ground := Ground.chain }, { on := 0, ground := Ground.phase }, { on := 1, ground := Ground.phase }, { on := 2, ground := Ground.phase }, { on := 3, ground := Ground.phase }, { on := 4, ground := Ground.phase }, { on := 5, ground := Ground.phase }, { on := 6, ground := Ground.phase }, { on := 7, ground := Ground.phase }, { on := 8, ground := Ground.phase }, { on := 9, ground := Ground.textOnly Departure.lateStores }], guard := none }) rfl (fun K hK => ?_) ?_
                rotate_left
                · exact AllReadyH.nil
                go_simp
                refine hK.out _ _ ?_ (fun hHeld2 => ?_)
                · exact keepSet7 (by omega) (by omega) hHeld
                clear hHeld
                have hHeld := hHeld2
                clear hHeld2
                clear hK K
                try simp only [Act.put, List.setIfInBounds_toArray, List.set_cons_zero, List.set_cons_succ]
                refine wpAnyH_take (i := 11) (oi := { dst := some 11, op := Op.assign (Operand.tmp 49), type := 4, pos := "layers.go:100", after := #[{ on := 9, ground := Ground.data }, { on := 10, ground := Ground.chain }, { on := 0, ground := Ground.phase }, { on := 1, ground := Ground.phase }, { on := 2, ground := Ground.phase }, { on := 3, ground := Ground.phase }, { on := 4, ground := Ground.phase }, { on := 5, ground := Ground.phase }, { on := 6, ground := Ground.phase }, { on := 7, ground := Ground.phase }, { on := 8, ground := Ground.phase }, { on := 9, ground := Ground.phase }, { on := 10, ground := Ground.phase }], guard := none }) (v := ?_) rfl (by kernel_rfl) (by kernel_rfl) (by kernel_rfl) (fun _ _ _ h => h) (Or.inl ⟨by rfl, ?_⟩) (by assumption) ?_
                rotate_left
                · (intro w hSw; (try dsimp only at hSw); go_simp; try with_reducible rfl)
                try simp only [Act.put, List.setIfInBounds_toArray, List.set_cons_zero, List.set_cons_succ]
                refine wpAnyH_done (by kernel_rfl) ?_ _
                refine NoPanic.normal ?_
                obtain ⟨W7, hW7⟩ : ∃ W7, W7 = ((w6.setCell ⟨G, 0, none⟩ (.int .i64 (Es : Int))).setCell ⟨G, 1, none⟩ (.slice (some ⟨e0, 0, none⟩) n f0)).setCell ⟨G, 2, none⟩ (.slice (some ⟨e1, 0, none⟩) n f1) := ⟨_, rfl⟩
                have HA7 : Hid (HidAt W7 w.heap.size G n t q b Et z0 v0 z1 v1 Es e0 f0 e1 f1) := by rw [hW7]; exact (HA4.out.up hu46).setS Es e0 f0 e1 f1
                have hu7 : Up w W7 := by rw [hW7]; exact Up.set3 (hu4.trans hu46) (by omega) _ _ _
                have tz0 := kz0.up hu46
                have tz1 := kz1.up hu46
                have sz0 : IsI W7 z0 (ct0 T n) := by rw [hW7]; exact tz0.set3 (tz0.ne (by rw [(HLn.out T).1]; omega) hr1) _ _ _
                have sz1 : IsI W7 z1 (ct1 T n) := by rw [hW7]; exact tz1.set3 (tz1.ne (by rw [(HLn.out T).2]; omega) hr1) _ _ _
                have se0 : IsI W7 e0 (ct0 A1 n) := by rw [hW7]; exact is0.set3 (is0.ne (by rw [(HLn.out A1).1]; omega) hr1) _ _ _
                have se1 : IsI W7 e1 (ct1 A1 n) := by rw [hW7]; exact is1.set3 (is1.ne (by rw [(HLn.out A1).2]; omega) hr1) _ _ _
                try rw [← hW7]
                clear hW7
                go_wp2_with fail
                go_roundw
                case rel => exact ⟨i + 1, i, T, A1, z0, v0, z1, v1, e0, f0, e1, f1, Et, Es, rfl, by omega, by omega, rfl, by go_num, HS3.out, Htc.out, (by have h := HSc.out; rw [← HEs.out] at h; exact h), HEt.out, HEs.out, HA7.out, sz0, sz1, se0, se1, hu7⟩
                case measure => simp [intOf]; omega
                
              exact AllReadyH.nil
            · have HAb : Hid (∀ W (gv cv : Nat), IsI W gv (diaI n l i) → IsI W y0 (ct0 a n) → IsI W y1 (ct1 a n) → IsI W z0 (ct0 T n) → IsI W z1 (ct1 T n) → Calls Tryz.prog 137 #[.agg #[.int .i64 n, .int .i64 t, .int .i64 q, .int .i64 b], .agg #[.int .i64 (Ea : Int), .slice (some ⟨y0, 0, none⟩) n l0, .slice (some ⟨y1, 0, none⟩) n l1], .agg #[.int .i64 (Et : Int), .slice (some ⟨z0, 0, none⟩) n v0, .slice (some ⟨z1, 0, none⟩) n v1], .slice (some ⟨gv, 0, none⟩) n cv] W fun r w' => r = .returned (.tuple #[.agg #[.int .i64 0, .slice none 0 0, .slice none 0 0], .bool false]) ∧ Hid (AP.2 = 4) ∧ Up W w') := fun W gv cv h1 h2 h3 h4 h5 => by
                refine Calls.mono (HAa.out W gv cv h1 h2 h3 h4 h5) ?_
                rintro r w' ⟨ho, hu⟩
                refine ⟨ho.not hap, ?_, hu⟩
                rcases ho with ⟨h, _⟩ | ⟨h, _⟩
                · exact absurd h hap
                · exact h
              clear hap HAa
              go_wp2_with fail
              rw [← hW4]
              clear hW4 hc0 hc1 hc2 hzc0 hzc1 hzc2
              have hp0 := HA4.out.p0
              have hp1 := HA4.out.p1
              have hp2 := HA4.out.p2
              have hp3 := HA4.out.p3
              have hc0 := HA4.out.c0
              have hc1 := HA4.out.c1
              have hc2 := HA4.out.c2
              have hs0 := HA4.out.s0
              have hs1 := HA4.out.s1
              have hs2 := HA4.out.s2
              refine wp_region_noPanic ?_
              refine wp_region_held_drew (S := (fun w' => w'.cell? ⟨w.heap.size, 0, none⟩ = some (.int .i64 (n : Int)) ∧ w'.cell? ⟨w.heap.size, 1, none⟩ = some (.int .i64 (t : Int)) ∧ w'.cell? ⟨w.heap.size, 2, none⟩ = some (.int .i64 q) ∧ w'.cell? ⟨w.heap.size, 3, none⟩ = some (.int .i64 b) ∧ w'.cell? ⟨w.heap.size + 1, 0, none⟩ = some (.int .i64 (Et : Int)) ∧ w'.cell? ⟨w.heap.size + 1, 1, none⟩ = some (.slice (some ⟨z0, 0, none⟩) n v0) ∧ w'.cell? ⟨w.heap.size + 1, 2, none⟩ = some (.slice (some ⟨z1, 0, none⟩) n v1))) (by kernel_rfl) ?_ (fun hHeld => ?_)
              · exact ⟨hp0, hp1, hp2, hp3, hc0, hc1, hc2⟩
              refine wpAnyH_take (i := 0) (oi := { dst := some 41, op := Op.load 28 (Operand.tmp 4), type := 28, pos := "layers.go:100", after := #[], guard := none }) (v := ?_) rfl (by kernel_rfl) (by kernel_rfl) (by kernel_rfl) (fun _ _ _ h => h) (Or.inl ⟨by rfl, ?_⟩) (by assumption) ?_
              rotate_left
              · (intro w hSw; (try dsimp only at hSw); go_simp; try with_reducible rfl)
              try simp only [Act.put, List.setIfInBounds_toArray, List.set_cons_zero, List.set_cons_succ]
              refine wpAnyH_take (i := 2) (oi := { dst := some 43, op := Op.load 84 (Operand.tmp 6), type := 84, pos := "layers.go:100", after := #[], guard := none }) (v := ?_) rfl (by kernel_rfl) (by kernel_rfl) (by kernel_rfl) (fun _ _ _ h => h) (Or.inl ⟨by rfl, ?_⟩) (by assumption) ?_
              rotate_left
              · (intro w hSw; (try dsimp only at hSw); go_simp; try with_reducible rfl)
              try simp only [Act.put, List.setIfInBounds_toArray, List.set_cons_zero, List.set_cons_succ]
              refine wpAnyH_take (i := 3) (oi := { dst := some 44, op := Op.move (Operand.tmp 1), type := 78, pos := "layers.go:100", after := #[], guard := none }) (v := ?_) rfl (by kernel_rfl) (by kernel_rfl) (by kernel_rfl) (fun _ _ _ h => h) (Or.inl ⟨by rfl, ?_⟩) (by assumption) ?_
              rotate_left
              · (intro w hSw; (try dsimp only at hSw); go_simp; try with_reducible rfl)
              try simp only [Act.put, List.setIfInBounds_toArray, List.set_cons_zero, List.set_cons_succ]
              refine wpAnyH_take (i := 4) (oi := { dst := some 45, op := Op.move (Operand.tmp 12), type := 3, pos := "layers.go:100", after := #[], guard := none }) (v := ?_) rfl (by kernel_rfl) (by kernel_rfl) (by kernel_rfl) (fun _ _ _ h => h) (Or.inl ⟨by rfl, ?_⟩) (by assumption) ?_
              rotate_left
              · (intro w hSw; (try dsimp only at hSw); go_simp; try with_reducible rfl)
              try simp only [Act.put, List.setIfInBounds_toArray, List.set_cons_zero, List.set_cons_succ]
              refine wpAnyH_ready (rs := [1, 5]) (by kernel_rfl) (by simp) ?_
              refine AllReadyH.cons (o := { dst := some 42, op := Op.load 84 (Operand.tmp 10), type := 84, pos := "layers.go:100", after := #[], guard := none }) rfl (fun K hK => ?_) ?_
              · go_simp
                refine hK.out _ _ ?_ (fun hHeld2 => ?_)
                · exact hHeld
                clear hHeld
                have hHeld := hHeld2
                clear hHeld2
                clear hK K
                try simp only [Act.put, List.setIfInBounds_toArray, List.set_cons_zero, List.set_cons_succ]
                refine wpAnyH_ready (rs := [5]) (by kernel_rfl) (by simp) ?_
                refine AllReadyH.cons (o := { dst := some 46, op := Op.call { callee := Callee.value (Operand.func 135), args := #[Operand.tmp 44, Operand.tmp 45], argTypes := #[78, 3] }, type := 54, pos := "layers.go:100", after := #[{ on := 3, ground := Ground.data }, { on := 4, ground := Ground.data }], guard := none }) rfl (fun K hK => ?_) ?_
                rotate_left
                · exact AllReadyH.nil
                go_simp
                refine Calls.mono (HDi.out _ (HRR.out.up (Up.drew hu4))) ?_
                rintro r w5 ⟨gv, cv, rfl, iv, hu5⟩
                have hq0 : w5.cell? ⟨G, 0, none⟩ = some (.int .i64 (Ea : Int)) := keepC hu5 hs0
                have hq1 : w5.cell? ⟨G, 1, none⟩ = some (.slice (some ⟨y0, 0, none⟩) n l0) := keepC hu5 hs1
                have hq2 : w5.cell? ⟨G, 2, none⟩ = some (.slice (some ⟨y1, 0, none⟩) n l1) := keepC hu5 hs2
                have hu45 : Up W4 w5 := Up.trans (Up.drew (Up.refl _)) hu5
                go_wp2_with fail
                refine hK.out _ _ ?_ (fun hHeld2 => ?_)
                · exact keepC7 hu5 hHeld
                clear hHeld
                have hHeld := hHeld2
                clear hHeld2
                clear hK K
                try simp only [Act.put, List.setIfInBounds_toArray, List.set_cons_zero, List.set_cons_succ]
                refine wpAnyH_ready (rs := [6]) (by kernel_rfl) (by simp) ?_
                refine AllReadyH.cons (o := { dst := some 47, op := Op.call { callee := Callee.value (Operand.func 137), args := #[Operand.tmp 41, Operand.tmp 42, Operand.tmp 43, Operand.tmp 46], argTypes := #[28, 84, 84, 54] }, type := 92, pos := "layers.go:100", after := #[{ on := 0, ground := Ground.data }, { on := 1, ground := Ground.data }, { on := 2, ground := Ground.data }, { on := 5, ground := Ground.data }, { on := 5, ground := Ground.chain }], guard := none }) rfl (fun K hK => ?_) ?_
                rotate_left
                · exact AllReadyH.nil
                go_simp
                refine Calls.mono (HAb.out _ gv cv iv (ky0.up hu45) (ky1.up hu45) (kz0.up hu45) (kz1.up hu45)) ?_
                rintro r w6 ⟨rfl, H4, hu6⟩
                have hr0 : w6.cell? ⟨G, 0, none⟩ = some (.int .i64 (Ea : Int)) := keepC hu6 hq0
                have hr1 : w6.cell? ⟨G, 1, none⟩ = some (.slice (some ⟨y0, 0, none⟩) n l0) := keepC hu6 hq1
                have hr2 : w6.cell? ⟨G, 2, none⟩ = some (.slice (some ⟨y1, 0, none⟩) n l1) := keepC hu6 hq2
                have hu46 : Up W4 w6 := hu45.trans hu6
                have hzG : ∀ o, w6.frozen? ⟨G, o, none⟩ = false := fun o => frozen_up hu46 hs0 (hz0 o)
                go_wp2_with fail
                refine hK.out _ _ ?_ (fun hHeld2 => ?_)
                · exact keepC7 hu6 hHeld
                clear hHeld
                have hHeld := hHeld2
                clear hHeld2
                clear hK K
                try simp only [Act.put, List.setIfInBounds_toArray, List.set_cons_zero, List.set_cons_succ]
                refine wpAnyH_take (i := 7) (oi := { dst := some 40, op := Op.move (Operand.tmp 47), type := 92, pos := "layers.go:100", after := #[{ on := 6, ground := Ground.data }], guard := none }) (v := ?_) rfl (by kernel_rfl) (by kernel_rfl) (by kernel_rfl) (fun _ _ _ h => h) (Or.inl ⟨by rfl, ?_⟩) (by assumption) ?_
                rotate_left
                · (intro w hSw; (try dsimp only at hSw); go_simp; try with_reducible rfl)
                try simp only [Act.put, List.setIfInBounds_toArray, List.set_cons_zero, List.set_cons_succ]
                refine wpAnyH_take (i := 8) (oi := { dst := some 48, op := Op.extract (Operand.tmp 40) 0, type := 84, pos := "layers.go:100", after := #[{ on := 7, ground := Ground.data }], guard := none }) (v := ?_) rfl (by kernel_rfl) (by kernel_rfl) (by kernel_rfl) (fun _ _ _ h => h) (Or.inl ⟨by rfl, ?_⟩) (by assumption) ?_
                rotate_left
                · (intro w hSw; (try dsimp only at hSw); go_simp; try with_reducible rfl)
                try simp only [Act.put, List.setIfInBounds_toArray, List.set_cons_zero, List.set_cons_succ]
                refine wpAnyH_take (i := 9) (oi := { dst := some 49, op := Op.extract (Operand.tmp 40) 1, type := 4, pos := "layers.go:100", after := #[{ on := 7, ground := Ground.data }, { on := 10, ground := Ground.gcOnly Departure.lateStores }], guard := none }) (v := ?_) rfl (by kernel_rfl) (by kernel_rfl) (by kernel_rfl) (fun _ _ _ h => h) (Or.inl ⟨by rfl, ?_⟩) (by assumption) ?_
                rotate_left
                · (intro w hSw; (try dsimp only at hSw); go_simp; try with_reducible rfl)
                try simp only [Act.put, List.setIfInBounds_toArray, List.set_cons_zero, List.set_cons_succ]
                refine wpAnyH_ready (rs := [10]) (by kernel_rfl) (by simp) ?_
                refine AllReadyH.cons (o := { dst := none, op := Op.store 84 (Operand.tmp 10) (Operand.tmp 48), type := 0, pos := "layers.go:100", after := #[{ on := 8, ground := Ground.data }, { on := 6, ground := Ground.chain }, { on := 0, ground := Ground.phase }, { on := 1, ground := Ground.phase }, { on := 2, ground := Ground.phase }, { on := 3, ground := Ground.phase }, { on := 4, ground := Ground.phase }, { on := 5, ground := Ground.phase }, { on := 6, ground := Ground.phase }, { on := 7, ground := Ground.phase }, { on := 8, ground := Ground.phase }, { on := 9, ground := Ground.textOnly Departure.lateStores }], guard := none }) rfl (fun K hK => ?_) ?_
                rotate_left
                · exact AllReadyH.nil
                go_simp
                refine hK.out _ _ ?_ (fun hHeld2 => ?_)
                · exact keepSet7 (by omega) (by omega) hHeld
                clear hHeld
                have hHeld := hHeld2
                clear hHeld2
                clear hK K
                try simp only [Act.put, List.setIfInBounds_toArray, List.set_cons_zero, List.set_cons_succ]
                refine wpAnyH_take (i := 11) (oi := { dst := some 11, op := Op.assign (Operand.tmp 49), type := 4, pos := "layers.go:100", after := #[{ on := 9, ground := Ground.data }, { on := 10, ground := Ground.chain }, { on := 0, ground := Ground.phase }, { on := 1, ground := Ground.phase }, { on := 2, ground := Ground.phase }, { on := 3, ground := Ground.phase }, { on := 4, ground := Ground.phase }, { on := 5, ground := Ground.phase }, { on := 6, ground := Ground.phase }, { on := 7, ground := Ground.phase }, { on := 8, ground := Ground.phase }, { on := 9, ground := Ground.phase }, { on := 10, ground := Ground.phase }], guard := none }) (v := ?_) rfl (by kernel_rfl) (by kernel_rfl) (by kernel_rfl) (fun _ _ _ h => h) (Or.inl ⟨by rfl, ?_⟩) (by assumption) ?_
                rotate_left
                · (intro w hSw; (try dsimp only at hSw); go_simp; try with_reducible rfl)
                try simp only [Act.put, List.setIfInBounds_toArray, List.set_cons_zero, List.set_cons_succ]
                refine wpAnyH_done (by kernel_rfl) ?_ _
                refine NoPanic.normal ?_
                obtain ⟨W7, hW7⟩ : ∃ W7, W7 = ((w6.setCell ⟨G, 0, none⟩ (.int .i64 0)).setCell ⟨G, 1, none⟩ (.slice none 0 0)).setCell ⟨G, 2, none⟩ (.slice none 0 0) := ⟨_, rfl⟩
                have hk0 : W7.cell? ⟨w.heap.size + 2, 0, none⟩ = some (.int .i64 0) := by rw [hW7]; exact (far3 (by omega)).trans (keepC hu46 HA4.out.r0)
                have hk1 : W7.cell? ⟨w.heap.size + 2, 1, none⟩ = some (.slice none 0 0) := by rw [hW7]; exact (far3 (by omega)).trans (keepC hu46 HA4.out.r1)
                have hk2 : W7.cell? ⟨w.heap.size + 2, 2, none⟩ = some (.slice none 0 0) := by rw [hW7]; exact (far3 (by omega)).trans (keepC hu46 HA4.out.r2)
                have hzr : ∀ o, W7.frozen? ⟨w.heap.size + 2, o, none⟩ = false := fun o => by rw [hW7]; simpa using frozen_up hu46 HA4.out.r0 (HA4.out.zr o)
                have hu7 : Up w W7 := by rw [hW7]; exact Up.set3 (hu4.trans hu46) (by omega) _ _ _
                try rw [← hW7]
                clear hW7
                go_wp2_with fail
                refine bodyPost_ret (v := .tuple #[.agg #[.int .i64 0, .slice none 0 0, .slice none 0 0], .bool false]) (by simp [results, Tryz.results91, go_sem, hk0, hk1, hk2]) rfl ⟨?_, ?_⟩
                · refine Or.inr ⟨?_, rfl⟩
                  rw [HStuck.out i (by omega) (by rw [HS2.out.2.1, H4.out]; decide), HS2.out.2.1]
                  exact H4.out
                · exact Up.set3 hu7 (by omega) _ _ _
              refine AllReadyH.cons (o := { dst := some 46, op := Op.call { callee := Callee.value (Operand.func 135), args := #[Operand.tmp 44, Operand.tmp 45], argTypes := #[78, 3] }, type := 54, pos := "layers.go:100", after := #[{ on := 3, ground := Ground.data }, { on := 4, ground := Ground.data }], guard := none }) rfl (fun K hK => ?_) ?_
              · go_simp
                refine Calls.mono (HDi.out _ (HRR.out.up (Up.drew hu4))) ?_
                rintro r w5 ⟨gv, cv, rfl, iv, hu5⟩
                have hq0 : w5.cell? ⟨G, 0, none⟩ = some (.int .i64 (Ea : Int)) := keepC hu5 hs0
                have hq1 : w5.cell? ⟨G, 1, none⟩ = some (.slice (some ⟨y0, 0, none⟩) n l0) := keepC hu5 hs1
                have hq2 : w5.cell? ⟨G, 2, none⟩ = some (.slice (some ⟨y1, 0, none⟩) n l1) := keepC hu5 hs2
                have hu45 : Up W4 w5 := Up.trans (Up.drew (Up.refl _)) hu5
                go_wp2_with fail
                refine hK.out _ _ ?_ (fun hHeld2 => ?_)
                · exact keepC7 hu5 hHeld
                clear hHeld
                have hHeld := hHeld2
                clear hHeld2
                clear hK K
                try simp only [Act.put, List.setIfInBounds_toArray, List.set_cons_zero, List.set_cons_succ]
                refine wpAnyH_ready (rs := [1]) (by kernel_rfl) (by simp) ?_
                refine AllReadyH.cons (o := { dst := some 42, op := Op.load 84 (Operand.tmp 10), type := 84, pos := "layers.go:100", after := #[], guard := none }) rfl (fun K hK => ?_) ?_
                rotate_left
                · exact AllReadyH.nil
                go_simp
                refine hK.out _ _ ?_ (fun hHeld2 => ?_)
                · exact hHeld
                clear hHeld
                have hHeld := hHeld2
                clear hHeld2
                clear hK K
                try simp only [Act.put, List.setIfInBounds_toArray, List.set_cons_zero, List.set_cons_succ]
                refine wpAnyH_ready (rs := [6]) (by kernel_rfl) (by simp) ?_
                refine AllReadyH.cons (o := { dst := some 47, op := Op.call { callee := Callee.value (Operand.func 137), args := #[Operand.tmp 41, Operand.tmp 42, Operand.tmp 43, Operand.tmp 46], argTypes := #[28, 84, 84, 54] }, type := 92, pos := "layers.go:100", after := #[{ on := 0, ground := Ground.data }, { on := 1, ground := Ground.data }, { on := 2, ground := Ground.data }, { on := 5, ground := Ground.data }, { on := 5, ground := Ground.chain }], guard := none }) rfl (fun K hK => ?_) ?_
                rotate_left
                · exact AllReadyH.nil
                go_simp
                refine Calls.mono (HAb.out _ gv cv iv (ky0.up hu45) (ky1.up hu45) (kz0.up hu45) (kz1.up hu45)) ?_
                rintro r w6 ⟨rfl, H4, hu6⟩
                have hr0 : w6.cell? ⟨G, 0, none⟩ = some (.int .i64 (Ea : Int)) := keepC hu6 hq0
                have hr1 : w6.cell? ⟨G, 1, none⟩ = some (.slice (some ⟨y0, 0, none⟩) n l0) := keepC hu6 hq1
                have hr2 : w6.cell? ⟨G, 2, none⟩ = some (.slice (some ⟨y1, 0, none⟩) n l1) := keepC hu6 hq2
                have hu46 : Up W4 w6 := hu45.trans hu6
                have hzG : ∀ o, w6.frozen? ⟨G, o, none⟩ = false := fun o => frozen_up hu46 hs0 (hz0 o)
                go_wp2_with fail
                refine hK.out _ _ ?_ (fun hHeld2 => ?_)
                · exact keepC7 hu6 hHeld
                clear hHeld
                have hHeld := hHeld2
                clear hHeld2
                clear hK K
                try simp only [Act.put, List.setIfInBounds_toArray, List.set_cons_zero, List.set_cons_succ]
                refine wpAnyH_take (i := 7) (oi := { dst := some 40, op := Op.move (Operand.tmp 47), type := 92, pos := "layers.go:100", after := #[{ on := 6, ground := Ground.data }], guard := none }) (v := ?_) rfl (by kernel_rfl) (by kernel_rfl) (by kernel_rfl) (fun _ _ _ h => h) (Or.inl ⟨by rfl, ?_⟩) (by assumption) ?_
                rotate_left
                · (intro w hSw; (try dsimp only at hSw); go_simp; try with_reducible rfl)
                try simp only [Act.put, List.setIfInBounds_toArray, List.set_cons_zero, List.set_cons_succ]
                refine wpAnyH_take (i := 8) (oi := { dst := some 48, op := Op.extract (Operand.tmp 40) 0, type := 84, pos := "layers.go:100", after := #[{ on := 7, ground := Ground.data }], guard := none }) (v := ?_) rfl (by kernel_rfl) (by kernel_rfl) (by kernel_rfl) (fun _ _ _ h => h) (Or.inl ⟨by rfl, ?_⟩) (by assumption) ?_
                rotate_left
                · (intro w hSw; (try dsimp only at hSw); go_simp; try with_reducible rfl)
                try simp only [Act.put, List.setIfInBounds_toArray, List.set_cons_zero, List.set_cons_succ]
                refine wpAnyH_take (i := 9) (oi := { dst := some 49, op := Op.extract (Operand.tmp 40) 1, type := 4, pos := "layers.go:100", after := #[{ on := 7, ground := Ground.data }, { on := 10, ground := Ground.gcOnly Departure.lateStores }], guard := none }) (v := ?_) rfl (by kernel_rfl) (by kernel_rfl) (by kernel_rfl) (fun _ _ _ h => h) (Or.inl ⟨by rfl, ?_⟩) (by assumption) ?_
                rotate_left
                · (intro w hSw; (try dsimp only at hSw); go_simp; try with_reducible rfl)
                try simp only [Act.put, List.setIfInBounds_toArray, List.set_cons_zero, List.set_cons_succ]
                refine wpAnyH_ready (rs := [10]) (by kernel_rfl) (by simp) ?_
                refine AllReadyH.cons (o := { dst := none, op := Op.store 84 (Operand.tmp 10) (Operand.tmp 48), type := 0, pos := "layers.go:100", after := #[{ on := 8, ground := Ground.data }, { on := 6, ground := Ground.chain }, { on := 0, ground := Ground.phase }, { on := 1, ground := Ground.phase }, { on := 2, ground := Ground.phase }, { on := 3, ground := Ground.phase }, { on := 4, ground := Ground.phase }, { on := 5, ground := Ground.phase }, { on := 6, ground := Ground.phase }, { on := 7, ground := Ground.phase }, { on := 8, ground := Ground.phase }, { on := 9, ground := Ground.textOnly Departure.lateStores }], guard := none }) rfl (fun K hK => ?_) ?_
                rotate_left
                · exact AllReadyH.nil
                go_simp
                refine hK.out _ _ ?_ (fun hHeld2 => ?_)
                · exact keepSet7 (by omega) (by omega) hHeld
                clear hHeld
                have hHeld := hHeld2
                clear hHeld2
                clear hK K
                try simp only [Act.put, List.setIfInBounds_toArray, List.set_cons_zero, List.set_cons_succ]
                refine wpAnyH_take (i := 11) (oi := { dst := some 11, op := Op.assign (Operand.tmp 49), type := 4, pos := "layers.go:100", after := #[{ on := 9, ground := Ground.data }, { on := 10, ground := Ground.chain }, { on := 0, ground := Ground.phase }, { on := 1, ground := Ground.phase }, { on := 2, ground := Ground.phase }, { on := 3, ground := Ground.phase }, { on := 4, ground := Ground.phase }, { on := 5, ground := Ground.phase }, { on := 6, ground := Ground.phase }, { on := 7, ground := Ground.phase }, { on := 8, ground := Ground.phase }, { on := 9, ground := Ground.phase }, { on := 10, ground := Ground.phase }], guard := none }) (v := ?_) rfl (by kernel_rfl) (by kernel_rfl) (by kernel_rfl) (fun _ _ _ h => h) (Or.inl ⟨by rfl, ?_⟩) (by assumption) ?_
                rotate_left
                · (intro w hSw; (try dsimp only at hSw); go_simp; try with_reducible rfl)
                try simp only [Act.put, List.setIfInBounds_toArray, List.set_cons_zero, List.set_cons_succ]
                refine wpAnyH_done (by kernel_rfl) ?_ _
                refine NoPanic.normal ?_
                obtain ⟨W7, hW7⟩ : ∃ W7, W7 = ((w6.setCell ⟨G, 0, none⟩ (.int .i64 0)).setCell ⟨G, 1, none⟩ (.slice none 0 0)).setCell ⟨G, 2, none⟩ (.slice none 0 0) := ⟨_, rfl⟩
                have hk0 : W7.cell? ⟨w.heap.size + 2, 0, none⟩ = some (.int .i64 0) := by rw [hW7]; exact (far3 (by omega)).trans (keepC hu46 HA4.out.r0)
                have hk1 : W7.cell? ⟨w.heap.size + 2, 1, none⟩ = some (.slice none 0 0) := by rw [hW7]; exact (far3 (by omega)).trans (keepC hu46 HA4.out.r1)
                have hk2 : W7.cell? ⟨w.heap.size + 2, 2, none⟩ = some (.slice none 0 0) := by rw [hW7]; exact (far3 (by omega)).trans (keepC hu46 HA4.out.r2)
                have hzr : ∀ o, W7.frozen? ⟨w.heap.size + 2, o, none⟩ = false := fun o => by rw [hW7]; simpa using frozen_up hu46 HA4.out.r0 (HA4.out.zr o)
                have hu7 : Up w W7 := by rw [hW7]; exact Up.set3 (hu4.trans hu46) (by omega) _ _ _
                try rw [← hW7]
                clear hW7
                go_wp2_with fail
                refine bodyPost_ret (v := .tuple #[.agg #[.int .i64 0, .slice none 0 0, .slice none 0 0], .bool false]) (by simp [results, Tryz.results91, go_sem, hk0, hk1, hk2]) rfl ⟨?_, ?_⟩
                · refine Or.inr ⟨?_, rfl⟩
                  rw [HStuck.out i (by omega) (by rw [HS2.out.2.1, H4.out]; decide), HS2.out.2.1]
                  exact H4.out
                · exact Up.set3 hu7 (by omega) _ _ _
              exact AllReadyH.nil
          · have HS2 : Hid ((LS i).2.2 = 4) := (HSt.out.1 (by rw [ht0]; decide)).trans ht0
            clear HSt ht0
            obtain ⟨W4, hW4⟩ : ∃ W4, W4 = ((w3.setCell ⟨w.heap.size + 1, 0, none⟩ (.int .i64 0)).setCell ⟨w.heap.size + 1, 1, none⟩ (.slice none 0 0)).setCell ⟨w.heap.size + 1, 2, none⟩ (.slice none 0 0) := ⟨_, rfl⟩
            have hk0 : W4.cell? ⟨w.heap.size + 2, 0, none⟩ = some (.int .i64 0) := by rw [hW4]; exact (far3 (by omega)).trans HA3.out.r0
            have hk1 : W4.cell? ⟨w.heap.size + 2, 1, none⟩ = some (.slice none 0 0) := by rw [hW4]; exact (far3 (by omega)).trans HA3.out.r1
            have hk2 : W4.cell? ⟨w.heap.size + 2, 2, none⟩ = some (.slice none 0 0) := by rw [hW4]; exact (far3 (by omega)).trans HA3.out.r2
            have hzr : ∀ o, W4.frozen? ⟨w.heap.size + 2, o, none⟩ = false := fun o => by rw [hW4]; simpa using HA3.out.zr o
            have hu4 : Up w W4 := by rw [hW4]; exact Up.set3 hu03 (by omega) _ _ _
            have hkk0 := HA3.out.r0
            have hkk1 := HA3.out.r1
            have hkk2 := HA3.out.r2
            have hzz0 := HA3.out.zr 0
            have hzz1 := HA3.out.zr 1
            have hzz2 := HA3.out.zr 2
            go_wp2_with fail
            try rw [← hW4]
            refine bodyPost_ret (v := .tuple #[.agg #[.int .i64 0, .slice none 0 0, .slice none 0 0], .bool false]) (by simp [results, Tryz.results91, go_sem, hk0, hk1, hk2]) rfl ⟨?_, ?_⟩
            · refine Or.inr ⟨?_, rfl⟩
              rw [HStuck.out i (by omega) (by rw [HS2.out]; decide)]
              exact HS2.out
            · first | exact Up.set3 hu4 (by omega) _ _ _ | exact Up.set3 (Up.set3 hu03 (by omega) _ _ _) (by omega) _ _ _
        · have hji : j = n / 2 - 1 := by rw [HEnd.out]; have := HI.out; omega
          have hz0 := HA.out.zr 0
          have hz1 := HA.out.zr 1
          have hz2 := HA.out.zr 2
          have n0 := iy0.ne (by rw [(HLn.out a).1]; omega) hk1
          have n1 := iy1.ne (by rw [(HLn.out a).2]; omega) hk1
          go_wp2_with fail
          refine bodyPost_ret (v := .tuple #[.agg #[.int .i64 (Ea : Int), .slice (some ⟨y0, 0, none⟩) n l0, .slice (some ⟨y1, 0, none⟩) n l1], .bool true]) (by simp [results, Tryz.results91, go_sem, hk0, hk1, hk2]) rfl ⟨?_, ?_⟩
          · rw [← hji, HLS.out]
            refine Or.inl ⟨rfl, Ha.out.1, Ha.out.2, y0, l0, y1, l1, ?_, iy0.set3 n0 _ _ _, iy1.set3 n1 _ _ _⟩
            show _ = Ending.returned (.tuple #[.agg #[.int .i64 ((ctE a : Nat) : Int), .slice (some ⟨y0, 0, none⟩) n l0, .slice (some ⟨y1, 0, none⟩) n l1], .bool true])
            rw [HEa.out]
          · exact Up.set3 hu (by omega) _ _ _
  · have HM0 : Hid (∀ W (gv cv : Nat), IsI W gv (diaI n l 0) → IsI W g0 (ct0 x n) → IsI W g1 (ct1 x n) → Calls Tryz.prog 134 #[.agg #[.int .i64 n, .int .i64 t, .int .i64 q, .int .i64 b], .agg #[.int .i64 (ctE x : Nat), .slice (some ⟨g0, 0, none⟩) n c0, .slice (some ⟨g1, 0, none⟩) n c1], .slice (some ⟨gv, 0, none⟩) n cv] W fun r w' => r = .returned (.tuple #[.agg #[.int .i64 0, .slice none 0 0, .slice none 0 0], .bool false]) ∧ Hid ((LS 0).2.2 = 4) ∧ Up W w') := fun W gv cv h1 h2 h3 => by
      refine (HM.out x 0 W g0 c0 g1 c1 gv cv HX.out h1 h2 h3).mono ?_
      rintro r w' ⟨ho, hu⟩
      refine ⟨ho.not hm, ?_, hu⟩
      show (LS 0).2.2 = 4
      rw [HZero.out]
      rcases ho with ⟨h, _⟩ | ⟨h, _⟩
      · exact absurd h hm
      · exact h
    clear hm
    have HD0 : Hid (∀ W, RowsAt W H d d gs caps (matR n l) → Calls Tryz.prog 135 #[.slice (some ⟨H, 0, none⟩) d cap, .int .i64 0] W fun e w' => ∃ g c, e = .returned (.slice (some ⟨g, 0, none⟩) n c) ∧ IsI w' g (diaI n l 0) ∧ Up W w') := fun W h => HD.out 0 W (by omega) h
    have HW0 : Hid (HidW W w.heap.size n t q b (ctE x) g0 c0 g1 c1) := ⟨hS0, hS1, hS2, hS3, hX0, hX1, hX2, HK0.out, HK1.out, HK2.out, HZc.out, HZr.out, HsW.out⟩
    go_enter Tryz.func91, Tryz.ntmps91
    go_wp2_with fail
    rw [← hW]
    clear hW
    generalize hEx : ctE x = Ex at HM0 hX0 HW0
    have HEx : Hid _ := hEx
    clear hEx
    go_region_held3 (fun w' => w'.cell? ⟨w.heap.size, 0, none⟩ = some (.int .i64 (n : Int)) ∧ w'.cell? ⟨w.heap.size, 1, none⟩ = some (.int .i64 (t : Int)) ∧ w'.cell? ⟨w.heap.size, 2, none⟩ = some (.int .i64 q) ∧ w'.cell? ⟨w.heap.size, 3, none⟩ = some (.int .i64 b) ∧ w'.cell? ⟨w.heap.size + 1, 0, none⟩ = some (.int .i64 (Ex : Int)) ∧ w'.cell? ⟨w.heap.size + 1, 1, none⟩ = some (.slice (some ⟨g0, 0, none⟩) n c0) ∧ w'.cell? ⟨w.heap.size + 1, 2, none⟩ = some (.slice (some ⟨g1, 0, none⟩) n c1))
      (first | go_keep | exact keepC7 hu2 (by assumption) | exact keepC7 hu1 (by assumption) | exact keepC7 (Up.alloc (Up.refl _) _) (by assumption) | exact keepA7 (by have := HsW.out; omega) (by assumption) | exact keepSet7 (by have := HsW.out; omega) (by have := HsW.out; omega) (by assumption))
      ((first | (go_at_call 135; refine Calls.mono (HD0.out _ (by first | exact HRR.out.up (Up.drew huW) | exact HRR.out.up (Up.alloc (Up.drew huW) _) | exact HRR.out.up (Up.drew (Up.alloc huW _)))) ?_; rintro r w1 ⟨gv, cv, rfl, iv, hu1⟩; have huW1 : Up W w1 := (by first | exact Up.trans (Up.drew (Up.refl W)) hu1 | exact Up.trans (Up.alloc (Up.drew (Up.refl W)) _) hu1 | exact Up.trans (Up.drew (Up.alloc (Up.refl W) _)) hu1); have huw1 : Up w w1 := (by first | exact Up.trans (Up.drew huW) hu1 | exact Up.trans (Up.alloc (Up.drew huW) _) hu1 | exact Up.trans (Up.drew (Up.alloc huW _)) hu1); have hsz1 : W.heap.size ≤ w1.heap.size := (by have := hu1.size; first | omega | (simp at this; omega)); first | (have hg1 : Up (World.alloc _ _) w1 := hu1; have hn0 : w1.cell? ⟨W.heap.size, 0, none⟩ = some (.int .i64 0) := keepC hu1 (by simp); have hn1 : w1.cell? ⟨W.heap.size, 1, none⟩ = some (.slice none 0 0) := keepC hu1 (by simp); have hn2 : w1.cell? ⟨W.heap.size, 2, none⟩ = some (.slice none 0 0) := keepC hu1 (by simp); have hm0 : ∀ o, w1.frozen? ⟨W.heap.size, o, none⟩ = false := fun o => ((bcell hu1).2 _ _ (by simp)).trans (by simp)) | (have hg1 : Up (World.drew (World.alloc _ _)) w1 := hu1; have hn0 : w1.cell? ⟨W.heap.size, 0, none⟩ = some (.int .i64 0) := keepC hu1 (by simp); have hn1 : w1.cell? ⟨W.heap.size, 1, none⟩ = some (.slice none 0 0) := keepC hu1 (by simp); have hn2 : w1.cell? ⟨W.heap.size, 2, none⟩ = some (.slice none 0 0) := keepC hu1 (by simp); have hm0 : ∀ o, w1.frozen? ⟨W.heap.size, o, none⟩ = false := fun o => ((bcell hu1).2 _ _ (by simp)).trans (by simp)) | skip) | (go_at_call 134; refine Calls.mono (HM0.out _ gv cv (by first | exact iv | exact iv.up (Up.alloc (Up.refl _) _)) (by first | exact i0.up huw1 | exact i0.up (Up.alloc huw1 _)) (by first | exact i1.up huw1 | exact i1.up (Up.alloc huw1 _))) ?_; rintro r w2 ⟨rfl, H4, hu2⟩; have huW2 : Up W w2 := (by first | exact huW1.trans hu2 | exact Up.trans (Up.alloc huW1 _) hu2); have hsz2 : W.heap.size ≤ w2.heap.size := (by have := hu2.size; first | omega | (simp at this; omega)); first | (have hg2 : Up (World.alloc _ _) w2 := hu2; have hn0' : w2.cell? ⟨w1.heap.size, 0, none⟩ = some (.int .i64 0) := keepC hu2 (by simp); have hn1' : w2.cell? ⟨w1.heap.size, 1, none⟩ = some (.slice none 0 0) := keepC hu2 (by simp); have hn2' : w2.cell? ⟨w1.heap.size, 2, none⟩ = some (.slice none 0 0) := keepC hu2 (by simp); have hm0' : ∀ o, w2.frozen? ⟨w1.heap.size, o, none⟩ = false := fun o => ((bcell hu2).2 _ _ (by simp)).trans (by simp)) | (have hn0' : w2.cell? ⟨W.heap.size, 0, none⟩ = some (.int .i64 0) := keepC hu2 hn0; have hn1' : w2.cell? ⟨W.heap.size, 1, none⟩ = some (.slice none 0 0) := keepC hu2 hn1; have hn2' : w2.cell? ⟨W.heap.size, 2, none⟩ = some (.slice none 0 0) := keepC hu2 hn2; have hm0' : ∀ o, w2.frozen? ⟨W.heap.size, o, none⟩ = false := fun o => frozen_up hu2 hn0 (hm0 o)) | skip)))
    all_goals
      rename_i hHeld
      clear hHeld
      have hws := HsW.out
      first
        | (obtain ⟨Wx, hWx⟩ : ∃ Wx, Wx = w2.alloc (.cells #[.int .i64 0, .slice none 0 0, .slice none 0 0] 84) := ⟨_, rfl⟩
           rw [← hWx]
           have hux : Up w Wx := by rw [hWx]; exact Up.alloc (huW.trans huW2) _
           have hk0 : Wx.cell? ⟨w.heap.size + 2, 0, none⟩ = some (.int .i64 0) := by rw [hWx]; exact keepC (Up.alloc huW2 _) HK0.out
           have hk1 : Wx.cell? ⟨w.heap.size + 2, 1, none⟩ = some (.slice none 0 0) := by rw [hWx]; exact keepC (Up.alloc huW2 _) HK1.out
           have hk2 : Wx.cell? ⟨w.heap.size + 2, 2, none⟩ = some (.slice none 0 0) := by rw [hWx]; exact keepC (Up.alloc huW2 _) HK2.out
           have hzr : ∀ o, Wx.frozen? ⟨w.heap.size + 2, o, none⟩ = false := fun o => by rw [hWx]; exact frozen_up (Up.alloc huW2 _) HK0.out (HZr.out o)
           clear hWx)
        | (obtain ⟨Wx, hWx⟩ : ∃ Wx, Wx = ((w2.setCell ⟨w1.heap.size, 0, none⟩ (.int .i64 0)).setCell ⟨w1.heap.size, 1, none⟩ (.slice none 0 0)).setCell ⟨w1.heap.size, 2, none⟩ (.slice none 0 0) := ⟨_, rfl⟩
           rw [← hWx]
           have hux : Up w Wx := by rw [hWx]; exact Up.set3 (huW.trans huW2) (Nat.le_trans huW.size hsz1) _ _ _
           have hk0 : Wx.cell? ⟨w.heap.size + 2, 0, none⟩ = some (.int .i64 0) := by rw [hWx]; exact (far3 (by omega)).trans (keepC huW2 HK0.out)
           have hk1 : Wx.cell? ⟨w.heap.size + 2, 1, none⟩ = some (.slice none 0 0) := by rw [hWx]; exact (far3 (by omega)).trans (keepC huW2 HK1.out)
           have hk2 : Wx.cell? ⟨w.heap.size + 2, 2, none⟩ = some (.slice none 0 0) := by rw [hWx]; exact (far3 (by omega)).trans (keepC huW2 HK2.out)
           have hzr : ∀ o, Wx.frozen? ⟨w.heap.size + 2, o, none⟩ = false := fun o => by rw [hWx]; simpa using frozen_up huW2 HK0.out (HZr.out o)
           clear hWx)
        | (obtain ⟨Wx, hWx⟩ : ∃ Wx, Wx = ((w2.setCell ⟨W.heap.size, 0, none⟩ (.int .i64 0)).setCell ⟨W.heap.size, 1, none⟩ (.slice none 0 0)).setCell ⟨W.heap.size, 2, none⟩ (.slice none 0 0) := ⟨_, rfl⟩
           rw [← hWx]
           have hux : Up w Wx := by rw [hWx]; exact Up.set3 (huW.trans huW2) huW.size _ _ _
           have hk0 : Wx.cell? ⟨w.heap.size + 2, 0, none⟩ = some (.int .i64 0) := by rw [hWx]; exact (far3 (by omega)).trans (keepC huW2 HK0.out)
           have hk1 : Wx.cell? ⟨w.heap.size + 2, 1, none⟩ = some (.slice none 0 0) := by rw [hWx]; exact (far3 (by omega)).trans (keepC huW2 HK1.out)
           have hk2 : Wx.cell? ⟨w.heap.size + 2, 2, none⟩ = some (.slice none 0 0) := by rw [hWx]; exact (far3 (by omega)).trans (keepC huW2 HK2.out)
           have hzr : ∀ o, Wx.frozen? ⟨w.heap.size + 2, o, none⟩ = false := fun o => by rw [hWx]; simpa using frozen_up huW2 HK0.out (HZr.out o)
           clear hWx)
      clear iv hu1 huw1 huW1 huW2 hu2 hsz1 hsz2 hws
      try clear hn0' hn1' hn2' hm0'
      try clear hn0 hn1 hn2 hm0
      try clear hg1
      try clear hg2
      go_wp2_with fail
      refine bodyPost_ret (v := .tuple #[.agg #[.int .i64 0, .slice none 0 0, .slice none 0 0], .bool false]) (by simp [results, Tryz.results91, go_sem, hk0, hk1, hk2]) rfl ⟨?_, ?_⟩
      · refine Or.inr ⟨?_, rfl⟩
        rw [HStuck.out 0 (by omega) (by rw [H4.out]; decide)]
        exact H4.out
      · exact Up.set3 hux (by omega) _ _ _

end Go.Proofs.YtcjhgbljhpflfabGreat
