/-
  The points as lists; a slice appended to a slice; the reference's root.
-/
import Derived.Test.YtfpmonifpddbdaaWalksW
import Derived.Test.YtfpmonifpddbdaaMathH
namespace Go.Proofs.Ytfpmonifpddbdaa
open Go.RowKit
set_option linter.unusedVariables false

/-- the first k points -/
def ptL (n t k : Nat) : List Int := (List.range k).map (pI n t)

theorem ptL_length (n t k : Nat) : (ptL n t k).length = k := by simp [ptL]

theorem ptL_succ (n t k : Nat) : ptL n t (k + 1) = ptL n t k ++ [pI n t k] := by simp [ptL, List.range_succ]

theorem ptL_getD (n t k i : Nat) (h : i < k) : (ptL n t k).getD i 0 = pI n t i := getD_range h

/-- z cubed k times -/
def cubeI (n t k : Nat) : Int := (cubeN t (rootN n t) k : Int)

theorem cubeI_pI (n t k : Nat) (h : k < n / 2) : cubeI n t k = pI n t k := by
  unfold cubeI pI ptN
  rw [if_pos (blt_iff.2 h)]

theorem cubeI_succ (n t k : Nat) : cubeI n t k ^ 3 % (t : Int) = cubeI n t (k + 1) := by
  unfold cubeI
  rw [← cast_pow_mod]
  rfl

theorem cubeI_bounds {n t : Nat} (g : NT n t) (k : Nat) : 0 ≤ cubeI n t k ∧ cubeI n t k < t := by
  have ht := g.t3
  cases k with
  | zero => exact ⟨Int.natCast_nonneg _, (root_facts g).2.1⟩
  | succ k => rw [← cubeI_succ]; exact ⟨Int.emod_nonneg _ (by omega), Int.emod_lt_of_pos _ (by omega)⟩

theorem NT.half {n t : Nat} (g : NT n t) : n / 2 + n / 2 = n ∧ 2 ≤ n / 2 ∧ n / 2 ≤ 8 := by
  rcases g.hn with rfl | rfl | rfl <;> decide

theorem root_NT (n t : Nat) (q b : Int) (w : World) (g : NT n t) :
    Calls Try.prog 117 #[.agg #[.int .i64 n, .int .i64 t, .int .i64 q, .int .i64 b]] w fun e w' => e = .returned (.int .i64 (rootN n t)) ∧ Up w w' := by
  have ht := g.t3
  have ht2 := g.ht
  obtain ⟨hd1, hd2, hd3⟩ := g.half
  obtain ⟨r1, r2, r3, r4⟩ := root_facts g
  exact root_calls (n : Int) (t : Int) q b (rootN n t : Int) w (by omega) (by omega) (by omega) (by omega) r1 r2 (by rw [Int.toNat_natCast]; exact r3) (by rw [Int.toNat_natCast]; exact r4)

/-- out = append(out, src...), out the call's own -/
theorem append_ints {ops : Array Oper} {rest : List Oper} {o : Oper} {a : Act} {Q : Exit → Act → World → Prop} (w : World) (hgd : o.guard = none) (s x : Operand)
    (ho : o.op = .call { callee := .builtin .append, args := #[s, x], argTypes := #[51, 51] })
    (base : Nat) (v : Value) (xs : List Int) (hs : a.eval s = v) (hown : OwnI w base v xs) (g cap : Nat) (ys : List Int) (hy : IsI w g ys) (hx : a.eval x = .slice (some ⟨g, 0, none⟩) ys.length cap)
    (hlen : xs.length + ys.length ≤ 1099511627776) (hbase : base ≤ w.heap.size)
    (h : ∀ v' w', OwnI w' base v' (xs ++ ys) → w.grownBy w' v.ownBlock → Below base w w' → wpList Try.prog ops Q rest (a.put o.dst v') w') :
    wpList Try.prog ops Q (o :: rest) a w := by
  obtain ⟨i0, hi, hz0, hz1, hz2⟩ := info_parts info_int
  refine wpList_append_own_at _ hgd s x 51 ho base 3 i0 (.int .i64 0) 1 8 Try.underlying51 hi hz0 hz1 hz2 rfl (by decide) v xs.length (xs.map (Value.int .i64)) hs hown
    ⟨g, 0, none⟩ ys.length cap (ys.map (Value.int .i64)) hx (by simp) ?_ ?_ ?_ ?_ hbase ?_
  · intro j u hj
    have hj2 : j < ys.length := by
      rcases Nat.lt_or_ge j ys.length with h | h
      · exact h
      · rw [List.getElem?_eq_none (by simpa using h)] at hj; exact absurd hj (by simp)
    have e : (⟨g, 0, none⟩ : Addr).add j = ⟨g, j, none⟩ := by simp [Addr.add]; omega
    rw [e, hy.2 j hj2]
    rw [List.getElem?_map, List.getElem?_eq_getElem hj2] at hj
    rw [List.getD_eq_getElem?_getD, List.getElem?_eq_getElem hj2]
    exact hj
  · intro u hu
    obtain ⟨y, _, rfl⟩ := List.mem_map.1 hu
    rfl
  · unfold maxLen; omega
  · omega
  · intro v' w' h1 h2 h3 h4
    refine h v' w' ?_ h2 ?_
    · show World.ownsRow _ _ _ _ _ _ _
      rw [List.length_append, List.map_append]
      exact h1
    · exact (Below.refl _ _).grown h2 hbase (fun k hk => (World.ownsRow.lt hown k hk).1)

end Go.Proofs.Ytfpmonifpddbdaa
