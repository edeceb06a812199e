/-
  The points as lists; a slice appended to a slice; the reference's root.
  Walks: the reference's points.
  Walks: the reference's slots of a polynomial.
-/
import Derived.Test.YtjiekfplgmfgiabGreatWalksW
import Derived.Test.YtjiekfplgmfgiabGreatMathG
namespace Go.Proofs.YtjiekfplgmfgiabGreat
open Go.RowKit
set_option linter.unusedVariables false

/-- the first k points -/
def ptL (n t k : Nat) : List Int := (List.range k).map (pI n t)

theorem ptL_length (n t k : Nat) : (ptL n t k).length = k := by simp [ptL]

theorem ptL_succ (n t k : Nat) : ptL n t (k + 1) = ptL n t k ++ [pI n t k] := by simp [ptL, List.range_succ]

theorem ptL_getD (n t k i : Nat) (h : i < k) : (ptL n t k).getD i 0 = pI n t i := getD_range h

/-- z cubed k times -/
def cubeI (n t k : Nat) : Int := (cubeN t (rootN n t) k : Int)

theorem cubeI_pI (n t k : Nat) (h : k < n / 2) : cubeI n t k = pI n t k := by
  unfold cubeI pI ptN
  rw [if_pos (blt_iff.2 h)]

theorem cubeI_succ (n t k : Nat) : cubeI n t k ^ 3 % (t : Int) = cubeI n t (k + 1) := by
  unfold cubeI
  rw [← cast_pow_mod]
  rfl

theorem cubeI_bounds {n t : Nat} (g : NT n t) (k : Nat) : 0 ≤ cubeI n t k ∧ cubeI n t k < t := by
  have ht := g.t3
  cases k with
  | zero => exact ⟨Int.natCast_nonneg _, (root_facts g).2.1⟩
  | succ k => rw [← cubeI_succ]; exact ⟨Int.emod_nonneg _ (by omega), Int.emod_lt_of_pos _ (by omega)⟩

theorem NT.half {n t : Nat} (g : NT n t) : n / 2 + n / 2 = n ∧ 2 ≤ n / 2 ∧ n / 2 ≤ 8 := by
  rcases g.hn with rfl | rfl | rfl <;> decide

theorem root_NT (n t : Nat) (q b : Int) (w : World) (g : NT n t) :
    Calls Tryz.prog 95 #[.agg #[.int .i64 n, .int .i64 t, .int .i64 q, .int .i64 b]] w fun e w' => e = .returned (.int .i64 (rootN n t)) ∧ Up w w' := by
  have ht := g.t3
  have ht2 := g.ht
  obtain ⟨hd1, hd2, hd3⟩ := g.half
  obtain ⟨r1, r2, r3, r4⟩ := root_facts g
  exact root_calls (n : Int) (t : Int) q b (rootN n t : Int) w (by omega) (by omega) (by omega) (by omega) r1 r2 (by rw [Int.toNat_natCast]; exact r3) (by rw [Int.toNat_natCast]; exact r4)

/-- out = append(out, src...), out the call's own -/
theorem append_ints {ops : Array Oper} {rest : List Oper} {o : Oper} {a : Act} {Q : Exit → Act → World → Prop} (w : World) (hgd : o.guard = none) (s x : Operand)
    (ho : o.op = .call { callee := .builtin .append, args := #[s, x], argTypes := #[39, 39] })
    (base : Nat) (v : Value) (xs : List Int) (hs : a.eval s = v) (hown : OwnI w base v xs) (g cap : Nat) (ys : List Int) (hy : IsI w g ys) (hx : a.eval x = .slice (some ⟨g, 0, none⟩) ys.length cap)
    (hlen : xs.length + ys.length ≤ 1099511627776) (hbase : base ≤ w.heap.size)
    (h : ∀ v' w', OwnI w' base v' (xs ++ ys) → w.grownBy w' v.ownBlock → Below base w w' → wpList Tryz.prog ops Q rest (a.put o.dst v') w') :
    wpList Tryz.prog ops Q (o :: rest) a w := by
  obtain ⟨i0, hi, hz0, hz1, hz2⟩ := info_parts info_int
  refine wpList_append_own_at _ hgd s x 39 ho base 3 i0 (.int .i64 0) 1 8 Tryz.underlying39 hi hz0 hz1 hz2 rfl (by decide) v xs.length (xs.map (Value.int .i64)) hs hown
    ⟨g, 0, none⟩ ys.length cap (ys.map (Value.int .i64)) hx (by simp) ?_ ?_ ?_ ?_ hbase ?_
  · intro j u hj
    have hj2 : j < ys.length := by
      rcases Nat.lt_or_ge j ys.length with h | h
      · exact h
      · rw [List.getElem?_eq_none (by simpa using h)] at hj; exact absurd hj (by simp)
    have e : (⟨g, 0, none⟩ : Addr).add j = ⟨g, j, none⟩ := by simp [Addr.add]; omega
    rw [e, hy.2 j hj2]
    rw [List.getElem?_map, List.getElem?_eq_getElem hj2] at hj
    rw [List.getD_eq_getElem?_getD, List.getElem?_eq_getElem hj2]
    exact hj
  · intro u hu
    obtain ⟨y, _, rfl⟩ := List.mem_map.1 hu
    rfl
  · unfold maxLen; omega
  · omega
  · intro v' w' h1 h2 h3 h4
    refine h v' w' ?_ h2 ?_
    · show World.ownsRow _ _ _ _ _ _ _
      rw [List.length_append, List.map_append]
      exact h1
    · exact (Below.refl _ _).grown h2 hbase (fun k hk => (World.ownsRow.lt hown k hk).1)

end Go.Proofs.YtjiekfplgmfgiabGreat

namespace Go.Proofs.YtjiekfplgmfgiabGreat
open Go.RowKit
set_option linter.unusedVariables false

/-- the first k points of row 1 -/
def dnL (n t k : Nat) : List Int := (List.range k).map fun j => pI n t (n / 2 + j)

theorem dnL_length (n t k : Nat) : (dnL n t k).length = k := by simp [dnL]

theorem dnL_succ (n t k : Nat) : dnL n t (k + 1) = dnL n t k ++ [pI n t (n / 2 + k)] := by simp [dnL, List.range_succ]

theorem ptL_dnL (n t k : Nat) : ptL n t (n / 2) ++ dnL n t k = ptL n t (n / 2 + k) := by
  induction k with
  | zero => simp [dnL]
  | succ k ih => rw [dnL_succ, ← List.append_assoc, ih, ← Nat.add_assoc, ptL_succ]

theorem OwnI.kept {w w' : World} {base : Nat} {v : Value} {xs : List Int} {row : Option Nat} (h : OwnI w base v xs) (hg : w.grownBy w' row) (hne : v.ownBlock = none ∨ v.ownBlock ≠ row) : OwnI w' base v xs := World.ownsRow.kept h hg hne

/-- no block is both's -/
def Apart (v u : Value) : Prop := v.ownBlock = none ∨ u.ownBlock = none ∨ v.ownBlock ≠ u.ownBlock

theorem Apart.symm {v u : Value} (h : Apart v u) : Apart u v := by
  rcases h with h | h | h
  · exact Or.inr (Or.inl h)
  · exact Or.inl h
  · exact Or.inr (Or.inr fun e => h e.symm)

theorem Apart.keeps {v u : Value} (h : Apart v u) : v.ownBlock = none ∨ v.ownBlock ≠ u.ownBlock := by
  rcases h with h | h | h
  · exact Or.inl h
  · by_cases e : v.ownBlock = none
    · exact Or.inl e
    · exact Or.inr fun c => e (c.trans h)
  · exact Or.inr h

theorem Apart.grown {w : World} {base : Nat} {v u v' : Value} {xs : List Int} (h : Apart v u) (hu : OwnI w base u xs) (hv : v'.ownBlock = v.ownBlock ∨ ∃ g, v'.ownBlock = some g ∧ w.heap.size ≤ g) : Apart v' u := by
  rcases hv with e | ⟨g, e, hg⟩
  · unfold Apart; rw [e]; exact h
  · cases hub : u.ownBlock with
    | none => exact Or.inr (Or.inl hub)
    | some k =>
      refine Or.inr (Or.inr fun c => ?_)
      rw [e, hub] at c
      have := (hu.lt k hub).2
      injection c with c
      omega

theorem expN_le (n k : Nat) (hn : 0 < n) : expN n k ≤ 2 * n := by
  cases k with
  | zero => simp [expN]; omega
  | succ k => exact Nat.le_of_lt (Nat.mod_lt _ (by omega))

set_option maxHeartbeats 1000000 in
theorem Points_calls (n t : Nat) (q b : Int) (w : World) (g : NT n t) :
    Calls Tryz.prog 81 #[.agg #[.int .i64 n, .int .i64 t, .int .i64 q, .int .i64 b]] w fun e w' => ∃ v, e = .returned v ∧ OwnI w' w.heap.size v (ptL n t n) ∧ Up w w' := by
  have ht := g.t3
  have ht2 := g.ht
  obtain ⟨hd1, hd2, hd3⟩ := g.half
  obtain ⟨r1, r2, _, _⟩ := root_facts g
  have G : Hid (NT n t) := g
  have HD : Hid _ := hd1
  clear g hd1
  go_enter Tryz.func81, Tryz.ntmps81
  go_wp2_with fail
  refine (root_NT n t q b _ G.out).mono ?_
  rintro e w1 ⟨rfl, hu0⟩
  go_wp2_with fail
  have hsz0 : w.heap.size + 1 ≤ w1.heap.size := by have := hu0.size; simpa using this
  go_loopw [4, 5, 6, 7] (fun up dn e j wr => ∃ k : Nat, k ≤ n / 2 ∧ j = .int .i64 (k : Int) ∧ e = .int .i64 (expN n k : Int) ∧ OwnI wr w1.heap.size up (ptL n t k) ∧ OwnI wr w1.heap.size dn (dnL n t k) ∧ Apart up dn ∧ Up w1 wr) (fun _ _ _ j _ => n / 2 - (intOf j).toNat)
  case atStart => exact ⟨0, Nat.zero_le _, rfl, rfl, World.ownsRow_nil _ _ _ _, World.ownsRow_nil _ _ _ _, Or.inl rfl, Up.refl _⟩
  case round =>
    obtain ⟨k, hk, rfl, rfl, hup, hdn, hap, hu3⟩ := hrel
    obtain ⟨hc, hf⟩ := bcell (hu0.trans hu3)
    by_cases hlt : k < n / 2
    · have he := expN_le n k (by omega)
      have HE : Hid _ := pI_exp G.out k hlt
      have hb := pI_bounds G.out k (by omega)
      have hy := pI_bounds G.out (n / 2 + k) (by have := HD.out; omega)
      have HI := inv_fact G.out (pI n t k) hb.1 hb.2
      rw [← pI_inv G.out k hlt] at HI
      have HI : Hid _ := HI
      go_wp2_with fail
      refine (raised_calls _ _ _ _ (by omega) (by omega) (by omega) (by omega) (by omega) (by omega)).mono ?_
      rintro e w' ⟨rfl, rfl⟩
      rw [Int.toNat_natCast, ← HE.out]
      have HX : Hid (ptL n t (k + 1) = ptL n t k ++ [pI n t k]) := ptL_succ n t k
      have HY : Hid (dnL n t (k + 1) = dnL n t k ++ [pI n t (n / 2 + k)]) := dnL_succ n t k
      generalize pI n t k = x at hb HI HX HE
      generalize pI n t (n / 2 + k) = y at hy HI HY
      have hb1 := hb.1
      have hb2 := hb.2
      have hy1 := hy.1
      have hy2 := hy.2
      clear hb hy
      go_wp2_with fail
      go_loop [9] (fun z => ∃ i : Int, 1 ≤ i ∧ i ≤ y ∧ z = .int .i64 i) (fun z => (y - intOf z).toNat)
      case atStart => exact ⟨1, by omega, hy1, rfl⟩
      case round =>
        obtain ⟨i, hi1, hi2, rfl⟩ := hrel
        have h3 : 0 ≤ x * i := Int.mul_nonneg (by omega) (by omega)
        have h4 : x * i ≤ 1021 * 1021 := Int.mul_le_mul (by omega) (by omega) (by omega) (by omega)
        by_cases hi : i = y
        · subst hi
          have h5 : (x * i % (t : Int) != 1) = false := by rw [HI.out]; rfl
          go_wp2_with (at_builtin; refine append_int _ _ rfl (.tmp 39) (.tmp 41) rfl _ _ _ rfl hup rfl (by rw [ptL_length]; omega) hu3.size ?_)
          intro up1 w4 hup1 hg4 hb4 hob4
          have hdn1 := hdn.kept hg4 hap.symm.keeps
          have hap1 : Apart up1 u5 := hap.grown hdn hob4
          have hu4 : Up w1 w4 := Below.trans hu3 hb4
          clear hup hdn hap hg4 hb4 hob4 hc hf
          go_wp2_with (at_builtin; refine append_int _ _ rfl (.tmp 43) (.tmp 45) rfl _ _ _ rfl hdn1 rfl (by rw [dnL_length]; omega) hu4.size ?_)
          intro dn1 w5 hdn2 hg5 hb5 hob5
          have hup2 := hup1.kept hg5 hap1.keeps
          have hap2 : Apart up1 dn1 := (hap1.symm.grown hup1 hob5).symm
          have hu5 : Up w1 w5 := Below.trans hu4 hb5
          clear hup1 hdn1 hap1 hg5 hb5 hob5 hu4 hu3
          obtain ⟨hc, hf⟩ := bcell (hu0.trans hu5)
          go_wp2_with fail
          go_roundw
          case rel => exact ⟨k + 1, by omega, by go_num, by simp only [expN]; go_num, by rw [HX.out]; exact hup2, by rw [HY.out]; exact hdn2, hap2, hu5⟩
          case measure => simp [intOf]; omega
        · have h5 : (x * i % (t : Int) != 1) = true := by
            rw [bne_iff_ne]
            intro c
            exact hi (inv_unique (by omega) (by omega) (by omega) (by omega) c HI.out)
          go_wp2_with fail
          go_round
          case rel => exact ⟨i + 1, by omega, by omega, rfl⟩
          case measure => simp [intOf]; omega
    · obtain rfl : k = n / 2 := by omega
      obtain ⟨gd, cap, rfl, hgd, his⟩ := hdn.is (by intro c; have := congrArg List.length c; rw [dnL_length] at this; simp at this; omega)
      go_wp2_with (at_builtin; refine append_ints _ rfl _ _ rfl _ _ _ rfl hup gd cap _ his rfl (by rw [ptL_length, dnL_length]; omega) hu3.size ?_)
      intro v4 w4 hown4 hg4 hb4
      rw [ptL_dnL, HD.out] at hown4
      clear hup hdn hap hg4 hc hf his
      go_wp2_with fail
      go_ret
      exact ⟨_, rfl, hown4.base (by omega), (((Up.refl _).alloc _).trans hu0).trans (Below.trans hu3 hb4)⟩

end Go.Proofs.YtjiekfplgmfgiabGreat

namespace Go.Proofs.YtjiekfplgmfgiabGreat
open Go.RowKit
set_option linter.unusedVariables false

theorem sumI_nonneg {f : Nat → Int} {n : Nat} {B : Int} (h : ∀ i, i < n → 0 ≤ f i ∧ f i ≤ B) : 0 ≤ sumI f n ∧ sumI f n ≤ n * B := by
  induction n with
  | zero => simp [sumI]
  | succ n ih =>
    have h1 := ih (fun i hi => h i (by omega))
    have h2 := h n (by omega)
    simp only [sumI]
    rw [Int.natCast_succ, Int.add_mul]
    omega

end Go.Proofs.YtjiekfplgmfgiabGreat
