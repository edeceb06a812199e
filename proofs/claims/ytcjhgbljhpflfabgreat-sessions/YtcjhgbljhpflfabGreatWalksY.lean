/-
  The points as lists; a slice appended to a slice; the reference's root.
  Walks: the reference's points.
  Walks: the reference's slots of a polynomial.
  A matrix in memory: rows of numbers, each in a block of its own, and their headers in one block; the reference's solve.
  Rows in memory, one after the other.
  Walks: the reference's Poly.
  Walks: Decode and Encode of the reference.
-/
import Derived.Test.YtcjhgbljhpflfabGreatWalksR
import Derived.Test.YtcjhgbljhpflfabGreatMathE
import Derived.StillTailTactics
import Derived.Deep.RegionHeld3
namespace Go.Proofs.YtcjhgbljhpflfabGreat
open Go.RowKit
set_option linter.unusedVariables false

/-- the first k points -/
def ptL (n t k : Nat) : List Int := (List.range k).map (pI n t)

theorem ptL_length (n t k : Nat) : (ptL n t k).length = k := by simp [ptL]

theorem ptL_succ (n t k : Nat) : ptL n t (k + 1) = ptL n t k ++ [pI n t k] := by simp [ptL, List.range_succ]

theorem ptL_getD (n t k i : Nat) (h : i < k) : (ptL n t k).getD i 0 = pI n t i := getD_range h

/-- z cubed k times -/
def cubeI (n t k : Nat) : Int := (cubeN t (rootN n t) k : Int)

theorem cubeI_pI (n t k : Nat) (h : k < n / 2) : cubeI n t k = pI n t k := by
  unfold cubeI pI ptN
  rw [if_pos (blt_iff.2 h)]

theorem cubeI_succ (n t k : Nat) : cubeI n t k ^ 3 % (t : Int) = cubeI n t (k + 1) := by
  unfold cubeI
  rw [← cast_pow_mod]
  rfl

theorem cubeI_bounds {n t : Nat} (g : NT n t) (k : Nat) : 0 ≤ cubeI n t k ∧ cubeI n t k < t := by
  have ht := g.t3
  cases k with
  | zero => exact ⟨Int.natCast_nonneg _, (root_facts g).2.1⟩
  | succ k => rw [← cubeI_succ]; exact ⟨Int.emod_nonneg _ (by omega), Int.emod_lt_of_pos _ (by omega)⟩

theorem NT.half {n t : Nat} (g : NT n t) : n / 2 + n / 2 = n ∧ 2 ≤ n / 2 ∧ n / 2 ≤ 8 := by
  rcases g.hn with rfl | rfl | rfl <;> decide

theorem root_NT (n t : Nat) (q b : Int) (w : World) (g : NT n t) :
    Calls Tryz.prog 163 #[.agg #[.int .i64 n, .int .i64 t, .int .i64 q, .int .i64 b]] w fun e w' => e = .returned (.int .i64 (rootN n t)) ∧ Up w w' := by
  have ht := g.t3
  have ht2 := g.ht
  obtain ⟨hd1, hd2, hd3⟩ := g.half
  obtain ⟨r1, r2, r3, r4⟩ := root_facts g
  exact root_calls (n : Int) (t : Int) q b (rootN n t : Int) w (by omega) (by omega) (by omega) (by omega) r1 r2 (by rw [Int.toNat_natCast]; exact r3) (by rw [Int.toNat_natCast]; exact r4)

/-- out = append(out, src...), out the call's own -/
theorem append_ints {ops : Array Oper} {rest : List Oper} {o : Oper} {a : Act} {Q : Exit → Act → World → Prop} (w : World) (hgd : o.guard = none) (s x : Operand)
    (ho : o.op = .call { callee := .builtin .append, args := #[s, x], argTypes := #[54, 54] })
    (base : Nat) (v : Value) (xs : List Int) (hs : a.eval s = v) (hown : OwnI w base v xs) (g cap : Nat) (ys : List Int) (hy : IsI w g ys) (hx : a.eval x = .slice (some ⟨g, 0, none⟩) ys.length cap)
    (hlen : xs.length + ys.length ≤ 1099511627776) (hbase : base ≤ w.heap.size)
    (h : ∀ v' w', OwnI w' base v' (xs ++ ys) → w.grownBy w' v.ownBlock → Below base w w' → wpList Tryz.prog ops Q rest (a.put o.dst v') w') :
    wpList Tryz.prog ops Q (o :: rest) a w := by
  obtain ⟨i0, hi, hz0, hz1, hz2⟩ := info_parts info_int
  refine wpList_append_own_at _ hgd s x 54 ho base 3 i0 (.int .i64 0) 1 8 Tryz.underlying54 hi hz0 hz1 hz2 rfl (by decide) v xs.length (xs.map (Value.int .i64)) hs hown
    ⟨g, 0, none⟩ ys.length cap (ys.map (Value.int .i64)) hx (by simp) ?_ ?_ ?_ ?_ hbase ?_
  · intro j u hj
    have hj2 : j < ys.length := by
      rcases Nat.lt_or_ge j ys.length with h | h
      · exact h
      · rw [List.getElem?_eq_none (by simpa using h)] at hj; exact absurd hj (by simp)
    have e : (⟨g, 0, none⟩ : Addr).add j = ⟨g, j, none⟩ := by simp [Addr.add]; omega
    rw [e, hy.2 j hj2]
    rw [List.getElem?_map, List.getElem?_eq_getElem hj2] at hj
    rw [List.getD_eq_getElem?_getD, List.getElem?_eq_getElem hj2]
    exact hj
  · intro u hu
    obtain ⟨y, _, rfl⟩ := List.mem_map.1 hu
    rfl
  · unfold maxLen; omega
  · omega
  · intro v' w' h1 h2 h3 h4
    refine h v' w' ?_ h2 ?_
    · show World.ownsRow _ _ _ _ _ _ _
      rw [List.length_append, List.map_append]
      exact h1
    · exact (Below.refl _ _).grown h2 hbase (fun k hk => (World.ownsRow.lt hown k hk).1)

end Go.Proofs.YtcjhgbljhpflfabGreat

namespace Go.Proofs.YtcjhgbljhpflfabGreat
open Go.RowKit
set_option linter.unusedVariables false

/-- the first k points of row 1 -/
def dnL (n t k : Nat) : List Int := (List.range k).map fun j => pI n t (n / 2 + j)

theorem dnL_length (n t k : Nat) : (dnL n t k).length = k := by simp [dnL]

theorem dnL_succ (n t k : Nat) : dnL n t (k + 1) = dnL n t k ++ [pI n t (n / 2 + k)] := by simp [dnL, List.range_succ]

theorem ptL_dnL (n t k : Nat) : ptL n t (n / 2) ++ dnL n t k = ptL n t (n / 2 + k) := by
  induction k with
  | zero => simp [dnL]
  | succ k ih => rw [dnL_succ, ← List.append_assoc, ih, ← Nat.add_assoc, ptL_succ]

theorem OwnI.kept {w w' : World} {base : Nat} {v : Value} {xs : List Int} {row : Option Nat} (h : OwnI w base v xs) (hg : w.grownBy w' row) (hne : v.ownBlock = none ∨ v.ownBlock ≠ row) : OwnI w' base v xs := World.ownsRow.kept h hg hne

/-- no block is both's -/
def Apart (v u : Value) : Prop := v.ownBlock = none ∨ u.ownBlock = none ∨ v.ownBlock ≠ u.ownBlock

theorem Apart.symm {v u : Value} (h : Apart v u) : Apart u v := by
  rcases h with h | h | h
  · exact Or.inr (Or.inl h)
  · exact Or.inl h
  · exact Or.inr (Or.inr fun e => h e.symm)

theorem Apart.keeps {v u : Value} (h : Apart v u) : v.ownBlock = none ∨ v.ownBlock ≠ u.ownBlock := by
  rcases h with h | h | h
  · exact Or.inl h
  · by_cases e : v.ownBlock = none
    · exact Or.inl e
    · exact Or.inr fun c => e (c.trans h)
  · exact Or.inr h

theorem Apart.grown {w : World} {base : Nat} {v u v' : Value} {xs : List Int} (h : Apart v u) (hu : OwnI w base u xs) (hv : v'.ownBlock = v.ownBlock ∨ ∃ g, v'.ownBlock = some g ∧ w.heap.size ≤ g) : Apart v' u := by
  rcases hv with e | ⟨g, e, hg⟩
  · unfold Apart; rw [e]; exact h
  · cases hub : u.ownBlock with
    | none => exact Or.inr (Or.inl hub)
    | some k =>
      refine Or.inr (Or.inr fun c => ?_)
      rw [e, hub] at c
      have := (hu.lt k hub).2
      injection c with c
      omega

theorem expN_le (n k : Nat) (hn : 0 < n) : expN n k ≤ 2 * n := by
  cases k with
  | zero => simp [expN]; omega
  | succ k => exact Nat.le_of_lt (Nat.mod_lt _ (by omega))

set_option maxHeartbeats 1000000 in
theorem Points_calls (n t : Nat) (q b : Int) (w : World) (g : NT n t) :
    Calls Tryz.prog 139 #[.agg #[.int .i64 n, .int .i64 t, .int .i64 q, .int .i64 b]] w fun e w' => ∃ v, e = .returned v ∧ OwnI w' w.heap.size v (ptL n t n) ∧ Up w w' := by
  have ht := g.t3
  have ht2 := g.ht
  obtain ⟨hd1, hd2, hd3⟩ := g.half
  obtain ⟨r1, r2, _, _⟩ := root_facts g
  have G : Hid (NT n t) := g
  have HD : Hid _ := hd1
  clear g hd1
  go_enter Tryz.func139, Tryz.ntmps139
  go_wp2_with fail
  refine (root_NT n t q b _ G.out).mono ?_
  rintro e w1 ⟨rfl, hu0⟩
  go_wp2_with fail
  have hsz0 : w.heap.size + 1 ≤ w1.heap.size := by have := hu0.size; simpa using this
  go_loopw [4, 5, 6, 7] (fun up dn e j wr => ∃ k : Nat, k ≤ n / 2 ∧ j = .int .i64 (k : Int) ∧ e = .int .i64 (expN n k : Int) ∧ OwnI wr w1.heap.size up (ptL n t k) ∧ OwnI wr w1.heap.size dn (dnL n t k) ∧ Apart up dn ∧ Up w1 wr) (fun _ _ _ j _ => n / 2 - (intOf j).toNat)
  case atStart => exact ⟨0, Nat.zero_le _, rfl, rfl, World.ownsRow_nil _ _ _ _, World.ownsRow_nil _ _ _ _, Or.inl rfl, Up.refl _⟩
  case round =>
    obtain ⟨k, hk, rfl, rfl, hup, hdn, hap, hu3⟩ := hrel
    obtain ⟨hc, hf⟩ := bcell (hu0.trans hu3)
    by_cases hlt : k < n / 2
    · have he := expN_le n k (by omega)
      have HE : Hid _ := pI_exp G.out k hlt
      have hb := pI_bounds G.out k (by omega)
      have hy := pI_bounds G.out (n / 2 + k) (by have := HD.out; omega)
      have HI := inv_fact G.out (pI n t k) hb.1 hb.2
      rw [← pI_inv G.out k hlt] at HI
      have HI : Hid _ := HI
      go_wp2_with fail
      refine (raised_calls _ _ _ _ (by omega) (by omega) (by omega) (by omega) (by omega) (by omega)).mono ?_
      rintro e w' ⟨rfl, rfl⟩
      rw [Int.toNat_natCast, ← HE.out]
      have HX : Hid (ptL n t (k + 1) = ptL n t k ++ [pI n t k]) := ptL_succ n t k
      have HY : Hid (dnL n t (k + 1) = dnL n t k ++ [pI n t (n / 2 + k)]) := dnL_succ n t k
      generalize pI n t k = x at hb HI HX HE
      generalize pI n t (n / 2 + k) = y at hy HI HY
      have hb1 := hb.1
      have hb2 := hb.2
      have hy1 := hy.1
      have hy2 := hy.2
      clear hb hy
      go_wp2_with fail
      go_loop [9] (fun z => ∃ i : Int, 1 ≤ i ∧ i ≤ y ∧ z = .int .i64 i) (fun z => (y - intOf z).toNat)
      case atStart => exact ⟨1, by omega, hy1, rfl⟩
      case round =>
        obtain ⟨i, hi1, hi2, rfl⟩ := hrel
        have h3 : 0 ≤ x * i := Int.mul_nonneg (by omega) (by omega)
        have h4 : x * i ≤ 1021 * 1021 := Int.mul_le_mul (by omega) (by omega) (by omega) (by omega)
        by_cases hi : i = y
        · subst hi
          have h5 : (x * i % (t : Int) != 1) = false := by rw [HI.out]; rfl
          go_wp2_with (at_builtin; refine append_int _ _ rfl (.tmp 39) (.tmp 41) rfl _ _ _ rfl hup rfl (by rw [ptL_length]; omega) hu3.size ?_)
          intro up1 w4 hup1 hg4 hb4 hob4
          have hdn1 := hdn.kept hg4 hap.symm.keeps
          have hap1 : Apart up1 u5 := hap.grown hdn hob4
          have hu4 : Up w1 w4 := Below.trans hu3 hb4
          clear hup hdn hap hg4 hb4 hob4 hc hf
          go_wp2_with (at_builtin; refine append_int _ _ rfl (.tmp 43) (.tmp 45) rfl _ _ _ rfl hdn1 rfl (by rw [dnL_length]; omega) hu4.size ?_)
          intro dn1 w5 hdn2 hg5 hb5 hob5
          have hup2 := hup1.kept hg5 hap1.keeps
          have hap2 : Apart up1 dn1 := (hap1.symm.grown hup1 hob5).symm
          have hu5 : Up w1 w5 := Below.trans hu4 hb5
          clear hup1 hdn1 hap1 hg5 hb5 hob5 hu4 hu3
          obtain ⟨hc, hf⟩ := bcell (hu0.trans hu5)
          go_wp2_with fail
          go_roundw
          case rel => exact ⟨k + 1, by omega, by go_num, by simp only [expN]; go_num, by rw [HX.out]; exact hup2, by rw [HY.out]; exact hdn2, hap2, hu5⟩
          case measure => simp [intOf]; omega
        · have h5 : (x * i % (t : Int) != 1) = true := by
            rw [bne_iff_ne]
            intro c
            exact hi (inv_unique (by omega) (by omega) (by omega) (by omega) c HI.out)
          go_wp2_with fail
          go_round
          case rel => exact ⟨i + 1, by omega, by omega, rfl⟩
          case measure => simp [intOf]; omega
    · obtain rfl : k = n / 2 := by omega
      obtain ⟨gd, cap, rfl, hgd, his⟩ := hdn.is (by intro c; have := congrArg List.length c; rw [dnL_length] at this; simp at this; omega)
      go_wp2_with (at_builtin; refine append_ints _ rfl _ _ rfl _ _ _ rfl hup gd cap _ his rfl (by rw [ptL_length, dnL_length]; omega) hu3.size ?_)
      intro v4 w4 hown4 hg4 hb4
      rw [ptL_dnL, HD.out] at hown4
      clear hup hdn hap hg4 hc hf his
      go_wp2_with fail
      go_ret
      exact ⟨_, rfl, hown4.base (by omega), (((Up.refl _).alloc _).trans hu0).trans (Below.trans hu3 hb4)⟩

end Go.Proofs.YtcjhgbljhpflfabGreat

namespace Go.Proofs.YtcjhgbljhpflfabGreat
open Go.RowKit
set_option linter.unusedVariables false

theorem sumI_nonneg {f : Nat → Int} {n : Nat} {B : Int} (h : ∀ i, i < n → 0 ≤ f i ∧ f i ≤ B) : 0 ≤ sumI f n ∧ sumI f n ≤ n * B := by
  induction n with
  | zero => simp [sumI]
  | succ n ih =>
    have h1 := ih (fun i hi => h i (by omega))
    have h2 := h n (by omega)
    simp only [sumI]
    rw [Int.natCast_succ, Int.add_mul]
    omega

set_option maxHeartbeats 2000000 in
theorem refSlots_calls (n t : Nat) (q b : Int) (xs : List Int) (gx cap : Nat) (w : World) (g : NT n t) (hl : xs.length = n) (hx : ∀ i, i < xs.length → 0 ≤ xs.getD i 0 ∧ xs.getD i 0 < 65536) (hi : IsI w gx xs) :
    Calls Tryz.prog 166 #[.agg #[.int .i64 n, .int .i64 t, .int .i64 q, .int .i64 b], .slice (some ⟨gx, 0, none⟩) n cap] w fun e w' => ∃ v, e = .returned v ∧ OwnI w' w.heap.size v (decI n t xs) ∧ Up w w' := by
  have ht := g.t3
  have ht2 := g.ht
  obtain ⟨hd1, hd2, hd3⟩ := g.half
  have G : Hid (NT n t) := g
  have HX : Hid _ := hx
  have HL : Hid _ := hl
  clear g hx hl
  go_enter Tryz.func166, Tryz.ntmps166
  go_wp2_with fail
  refine (Points_calls n t q b _ G.out).mono ?_
  rintro e w1 ⟨v, rfl, hown, hu⟩
  obtain ⟨gr, cap2, rfl, hgr, his⟩ := hown.is (by intro c; have := congrArg List.length c; rw [ptL_length] at this; simp at this; omega)
  rw [ptL_length] at *
  have hsz : w.heap.size + 1 ≤ w1.heap.size := by have := hu.size; simpa using this
  clear hown
  go_wp2_with fail
  go_loopw [6, 7] (fun v j wr => ∃ k : Nat, k ≤ n ∧ j = .int .i64 (k : Int) ∧ OwnI wr w1.heap.size v ((List.range k).map (valI n t xs)) ∧ Up w1 wr) (fun _ j _ => n - (intOf j).toNat)
  case atStart => exact ⟨0, Nat.zero_le _, rfl, World.ownsRow_nil _ _ _ _, Up.refl _⟩
  case round =>
    obtain ⟨k, hk, rfl, hown3, hu3⟩ := hrel
    obtain ⟨hc, hf⟩ := bcell (hu.trans hu3)
    by_cases hlt : k < n
    · have hb := pI_bounds G.out k (by omega)
      have HV : Hid (valI n t xs k = sumI (fun i => xs.getD i 0 * (pI n t k ^ i % (t : Int))) n % (t : Int)) := by
        show _ = _
        unfold valI
        exact (sumI_mod _ fun i _ => by rw [mul_mod_right])
      have HR : Hid ((List.range (k + 1)).map (valI n t xs) = (List.range k).map (valI n t xs) ++ [valI n t xs k]) := by
        show _ = _
        rw [List.range_succ, List.map_append, List.map_singleton]
      have HP : Hid (∀ W, Up w1 W → W.cell? ⟨gr, k, none⟩ = some (.int .i64 (pI n t k))) := fun W hW => by
        rw [(his.up hW).2 k (by rw [ptL_length]; omega), ptL_getD _ _ _ _ hlt]
      generalize pI n t k = x at hb HV HP
      have hb1 := hb.1
      have hb2 := hb.2
      have HSb : Hid (∀ m, m ≤ n → 0 ≤ sumI (fun i => xs.getD i 0 * (x ^ i % (t : Int))) m ∧ sumI (fun i => xs.getD i 0 * (x ^ i % (t : Int))) m ≤ m * (65536 * 1021)) := fun m hm => by
        refine sumI_nonneg fun i hi' => ?_
        have h1 := HX.out i (by rw [HL.out]; omega)
        have h2 := Int.emod_nonneg (x ^ i) (b := (t : Int)) (by omega)
        have h3 := Int.emod_lt_of_pos (x ^ i) (b := (t : Int)) (by omega)
        exact ⟨Int.mul_nonneg h1.1 h2, Int.mul_le_mul (by omega) (by omega) h2 (by omega)⟩
      clear hb
      go_wp2_with fail
      go_loopw [8, 9] (fun s j wx => ∃ m : Nat, m ≤ n ∧ j = .int .i64 (m : Int) ∧ s = .int .i64 (sumI (fun i => xs.getD i 0 * (x ^ i % (t : Int))) m) ∧ Up wr wx) (fun _ j _ => n - (intOf j).toNat)
      case atStart => exact ⟨0, Nat.zero_le _, rfl, rfl, Up.refl _⟩
      case round =>
        obtain ⟨m, hm, rfl, rfl, hux⟩ := hrel
        clear hc hf
        obtain ⟨hc, hf⟩ := bcell ((hu.trans hu3).trans hux)
        have hsb := HSb.out m hm
        by_cases hmn : m < n
        · have hcx := ((((hi.up ((Up.refl _).alloc _)).up hu).up hu3).up hux).2 m (by rw [HL.out]; omega)
          have hcp := HP.out _ (hu3.trans hux)
          have hcb := HX.out m (by rw [HL.out]; omega)
          have HS1 : Hid (sumI (fun i => xs.getD i 0 * (x ^ i % (t : Int))) (m + 1) = sumI (fun i => xs.getD i 0 * (x ^ i % (t : Int))) m + xs.getD m 0 * (x ^ m % (t : Int))) := rfl
          generalize xs.getD m 0 = c at hcx hcb HS1
          generalize sumI (fun i => xs.getD i 0 * (x ^ i % (t : Int))) m = S at hsb HS1
          have h2 := Int.emod_nonneg (x ^ m) (b := (t : Int)) (by omega)
          have h3 := Int.emod_lt_of_pos (x ^ m) (b := (t : Int)) (by omega)
          have hcb1 := hcb.1
          have hcb2 := hcb.2
          have h5 : 0 ≤ c * (x ^ m % (t : Int)) := Int.mul_nonneg hcb1 h2
          have h6 : c * (x ^ m % (t : Int)) ≤ 65536 * 1021 := Int.mul_le_mul (by omega) (by omega) h2 (by omega)
          have hsb1 := hsb.1
          have hsb2 : S ≤ 16 * (65536 * 1021) := by have := hsb.2; omega
          have e1 : IntKind.i64.wrap (c * (x ^ m % (t : Int))) = c * (x ^ m % (t : Int)) := IntWalk.i64_in _ (by omega)
          have e2 : IntKind.i64.wrap (S + c * (x ^ m % (t : Int))) = S + c * (x ^ m % (t : Int)) := IntWalk.i64_in _ (by omega)
          have e3 : ((m : Int)).toNat = m := Int.toNat_natCast m
          clear hcb hsb
          go_wp2_with fail
          go_quiet ((go_at_call 107; exact Calls.quiet_of_same (raised_calls _ _ _ _ (by omega) (by omega) (by omega) (by omega) (by omega) (by omega))))
          go_wp2_with fail
          go_roundw
          case rel => exact ⟨m + 1, by omega, by go_num, by rw [HS1.out], Up.drewN hux⟩
          case measure => simp [intOf]; omega
        · obtain rfl : m = n := by omega
          have hvb := valI_bounds G.out xs k
          have h1 := hsb.1
          have h2 : sumI (fun i => xs.getD i 0 * (x ^ i % (t : Int))) m ≤ 16 * (65536 * 1021) := by have := hsb.2; omega
          generalize sumI (fun i => xs.getD i 0 * (x ^ i % (t : Int))) m = S at hsb HV h1 h2
          clear hsb
          go_wp2_with (at_builtin; refine append_int _ _ rfl _ _ rfl _ _ _ rfl (hown3.up hux) rfl (by simp; omega) (hu3.trans hux).size ?_)
          intro v4 w4 hown4 hg4 hb4 _
          clear hown3 hg4
          go_wp2_with fail
          go_roundw
          case rel => exact ⟨k + 1, by omega, by go_num, by rw [HR.out, HV.out]; exact hown4, Below.trans (hu3.trans hux) hb4⟩
          case measure => simp [intOf]; omega
    · obtain rfl : k = n := by omega
      go_wp2_with fail
      go_ret
      exact ⟨_, rfl, hown3.base (by omega), (((Up.refl _).alloc _).trans hu).trans hu3⟩

end Go.Proofs.YtcjhgbljhpflfabGreat

namespace Go.Proofs.YtcjhgbljhpflfabGreat
open Go.RowKit
set_option linter.unusedVariables false

structure MatAt (w : World) (B H n m : Nat) (gs caps : Nat → Nat) (A : Nat → Nat → Int) : Prop where
  hH : B ≤ H ∧ H < w.heap.size
  hg : ∀ j, j < n → B ≤ gs j ∧ gs j < w.heap.size ∧ gs j ≠ H
  inj : ∀ j k, j < n → k < n → gs j = gs k → j = k
  head : ∀ j, j < n → w.cell? ⟨H, j, none⟩ = some (.slice (some ⟨gs j, 0, none⟩) m (caps j))
  headf : ∀ j, j < n → w.frozen? ⟨H, j, none⟩ = false
  cell : ∀ j c, j < n → c < m → w.cell? ⟨gs j, c, none⟩ = some (.int .i64 (A j c))
  cellf : ∀ j c, j < n → c < m → w.frozen? ⟨gs j, c, none⟩ = false

theorem MatAt.congr {w : World} {B H n m : Nat} {gs caps : Nat → Nat} {A A' : Nat → Nat → Int} (h : MatAt w B H n m gs caps A) (e : ∀ j c, j < n → c < m → A j c = A' j c) : MatAt w B H n m gs caps A' :=
  ⟨h.hH, h.hg, h.inj, h.head, h.headf, fun j c hj hc => by rw [← e j c hj hc]; exact h.cell j c hj hc, h.cellf⟩

theorem MatAt.up {w w' : World} {B H n m : Nat} {gs caps : Nat → Nat} {A : Nat → Nat → Int} (h : MatAt w B H n m gs caps A) (hu : Up w w') : MatAt w' B H n m gs caps A :=
  ⟨⟨h.hH.1, Nat.lt_of_lt_of_le h.hH.2 hu.size⟩, fun j hj => ⟨(h.hg j hj).1, Nat.lt_of_lt_of_le (h.hg j hj).2.1 hu.size, (h.hg j hj).2.2⟩, h.inj,
    fun j hj => (hu.cell (p := ⟨H, j, none⟩) h.hH.2).trans (h.head j hj), fun j hj => (hu.frozen (p := ⟨H, j, none⟩) h.hH.2).trans (h.headf j hj),
    fun j c hj hc => (hu.cell (p := ⟨gs j, c, none⟩) (h.hg j hj).2.1).trans (h.cell j c hj hc), fun j c hj hc => (hu.frozen (p := ⟨gs j, c, none⟩) (h.hg j hj).2.1).trans (h.cellf j c hj hc)⟩

theorem addr_ne {b b' o o' : Nat} (h : b ≠ b' ∨ o ≠ o') : (⟨b, o, none⟩ : Addr) ≠ ⟨b', o', none⟩ := by
  intro c
  injection c with c1 c2
  rcases h with h | h
  · exact h c1
  · exact h c2

/-- a store into a row -/
theorem MatAt.set {w : World} {B H n m : Nat} {gs caps : Nat → Nat} {A : Nat → Nat → Int} (h : MatAt w B H n m gs caps A) (j c : Nat) (hj : j < n) (hc : c < m) (x : Int) :
    MatAt (w.setCell ⟨gs j, c, none⟩ (.int .i64 x)) B H n m gs caps (fun j' c' => if j' = j ∧ c' = c then x else A j' c') := by
  refine ⟨by simpa using h.hH, fun k hk => by simpa using h.hg k hk, h.inj, ?_, fun k hk => by simpa using h.headf k hk, ?_, fun k d hk hd => by simpa using h.cellf k d hk hd⟩
  · intro k hk
    rw [World.cell?_setCell_other _ _ _ _ (addr_ne (Or.inl (h.hg j hj).2.2))]
    exact h.head k hk
  · intro k d hk hd
    by_cases e : k = j ∧ d = c
    · obtain ⟨rfl, rfl⟩ := e
      rw [World.cell?_setCell_same _ _ _ (h.cell k d hk hd), if_pos ⟨rfl, rfl⟩]
    · rw [if_neg e, World.cell?_setCell_other _ _ _ _ (addr_ne ?_)]
      · exact h.cell k d hk hd
      · by_cases e1 : d = c
        · refine Or.inl fun e2 => e ⟨(h.inj j k hj hk e2).symm, e1⟩
        · exact Or.inr fun e2 => e1 e2.symm

/-- rows i and k change places -/
def sw (i k j : Nat) : Nat := if j = i then k else if j = k then i else j

theorem sw_lt {i k j n : Nat} (hi : i < n) (hk : k < n) (hj : j < n) : sw i k j < n := by
  unfold sw; split
  · exact hk
  · split
    · exact hi
    · exact hj

theorem sw_inj {i k a b : Nat} (h : sw i k a = sw i k b) : a = b := by
  unfold sw at h
  split at h <;> split at h <;> (try split at h) <;> (try split at h) <;> omega

theorem MatAt.swap {w : World} {B H n m : Nat} {gs caps : Nat → Nat} {A : Nat → Nat → Int} (h : MatAt w B H n m gs caps A) (i k : Nat) (hi : i < n) (hk : k < n) :
    MatAt ((w.setCell ⟨H, k, none⟩ (.slice (some ⟨gs i, 0, none⟩) m (caps i))).setCell ⟨H, i, none⟩ (.slice (some ⟨gs k, 0, none⟩) m (caps k))) B H n m
      (fun j => gs (sw i k j)) (fun j => caps (sw i k j)) (fun j c => A (sw i k j) c) := by
  refine ⟨by simpa using h.hH, fun j hj => by simpa using h.hg _ (sw_lt hi hk hj), fun a b ha hb e => sw_inj (h.inj _ _ (sw_lt hi hk ha) (sw_lt hi hk hb) e), ?_, fun j hj => by simpa using h.headf j hj, ?_, fun j c hj hc => by simpa using h.cellf _ c (sw_lt hi hk hj) hc⟩
  · intro j hj
    obtain ⟨v', hv'⟩ := cell?_setCell_some (p := ⟨H, k, none⟩) (x := .slice (some ⟨gs i, 0, none⟩) m (caps i)) (h.head i hi)
    by_cases e1 : j = i
    · subst e1
      rw [World.cell?_setCell_same _ _ _ hv']
      simp [sw]
    · rw [World.cell?_setCell_other _ _ _ _ (addr_ne (Or.inr fun e => e1 e.symm))]
      by_cases e2 : j = k
      · subst e2
        rw [World.cell?_setCell_same _ _ _ (h.head j hj)]
        simp [sw, e1]
      · rw [World.cell?_setCell_other _ _ _ _ (addr_ne (Or.inr fun e => e2 e.symm)), h.head j hj]
        simp [sw, e1, e2]
  · intro j c hj hc
    have hne := (h.hg _ (sw_lt hi hk hj)).2.2
    rw [World.cell?_setCell_other _ _ _ _ (addr_ne (Or.inl fun e => hne e.symm)), World.cell?_setCell_other _ _ _ _ (addr_ne (Or.inl fun e => hne e.symm))]
    exact h.cell _ c (sw_lt hi hk hj) hc

/-- row i is scaled up to place d -/
def scM (A1 : Nat → Nat → Int) (p : Nat → Int) (i d j c : Nat) : Int := if j = i ∧ c < d then p c else A1 j c

/-- row i is scaled, and taken out of the rows below k -/
def elM (A1 : Nat → Nat → Int) (p : Nat → Int) (i : Nat) (t : Int) (k j c : Nat) : Int :=
  if j = i then p c else if j < k then (A1 j c - A1 j i * p c) % t else A1 j c

/-- and out of row k up to place d -/
def elR (A1 : Nat → Nat → Int) (p : Nat → Int) (i : Nat) (t : Int) (k d j c : Nat) : Int :=
  if j = k ∧ c < d then (A1 k c - A1 k i * p c) % t else elM A1 p i t k j c

theorem scM_step (A1 : Nat → Nat → Int) (p : Nat → Int) (i d j c : Nat) : (if j = i ∧ c = d then p d else scM A1 p i d j c) = scM A1 p i (d + 1) j c := by
  unfold scM
  by_cases h1 : j = i
  · subst h1
    by_cases h2 : c = d
    · subst h2; simp
    · by_cases h3 : c < d
      · rw [if_neg (fun e => h2 e.2), if_pos ⟨rfl, h3⟩, if_pos ⟨rfl, by omega⟩]
      · rw [if_neg (fun e => h2 e.2), if_neg (fun e => h3 e.2), if_neg (fun e => h3 (by omega))]
  · rw [if_neg (fun e => h1 e.1), if_neg (fun e => h1 e.1), if_neg (fun e => h1 e.1)]

theorem scM_end (A1 : Nat → Nat → Int) (p : Nat → Int) (i m : Nat) (t : Int) (j c : Nat) (hc : c < m) : scM A1 p i m j c = elM A1 p i t 0 j c := by
  unfold scM elM
  by_cases h1 : j = i
  · rw [if_pos ⟨h1, hc⟩, if_pos h1]
  · rw [if_neg (fun e => h1 e.1), if_neg h1, if_neg (Nat.not_lt_zero j)]

theorem elR_start (A1 : Nat → Nat → Int) (p : Nat → Int) (i : Nat) (t : Int) (k j c : Nat) : elM A1 p i t k j c = elR A1 p i t k 0 j c := by
  unfold elR
  rw [if_neg (fun e => Nat.not_lt_zero c e.2)]

theorem elR_step (A1 : Nat → Nat → Int) (p : Nat → Int) (i : Nat) (t : Int) (k d j c : Nat) : (if j = k ∧ c = d then (A1 k d - A1 k i * p d) % t else elR A1 p i t k d j c) = elR A1 p i t k (d + 1) j c := by
  unfold elR
  by_cases h1 : j = k
  · subst h1
    by_cases h2 : c = d
    · subst h2; simp
    · by_cases h3 : c < d
      · rw [if_neg (fun e => h2 e.2), if_pos ⟨rfl, h3⟩, if_pos ⟨rfl, by omega⟩]
      · rw [if_neg (fun e => h2 e.2), if_neg (fun e => h3 e.2), if_neg (fun e => h3 (by omega))]
  · rw [if_neg (fun e => h1 e.1), if_neg (fun e => h1 e.1), if_neg (fun e => h1 e.1)]

theorem elR_end (A1 : Nat → Nat → Int) (p : Nat → Int) (i m : Nat) (t : Int) (k j c : Nat) (hk : k ≠ i) (hc : c < m) : elR A1 p i t k m j c = elM A1 p i t (k + 1) j c := by
  unfold elR elM
  by_cases h1 : j = k
  · subst h1
    rw [if_pos ⟨rfl, hc⟩, if_neg hk, if_pos (Nat.lt_succ_self j)]
  · rw [if_neg (fun e => h1 e.1)]
    by_cases h2 : j = i
    · rw [if_pos h2, if_pos h2]
    · rw [if_neg h2, if_neg h2]
      by_cases h3 : j < k
      · rw [if_pos h3, if_pos (by omega)]
      · rw [if_neg h3, if_neg (by omega)]

theorem elM_skip (A1 : Nat → Nat → Int) (p : Nat → Int) (i : Nat) (t : Int) (j c : Nat) : elM A1 p i t i j c = elM A1 p i t (i + 1) j c := by
  unfold elM
  by_cases h2 : j = i
  · rw [if_pos h2, if_pos h2]
  · rw [if_neg h2, if_neg h2]
    by_cases h3 : j < i
    · rw [if_pos h3, if_pos (by omega)]
    · rw [if_neg h3, if_neg (by omega)]

theorem elM_end (A : Nat → Nat → Int) (i K n : Nat) (o t : Int) (j c : Nat) (hj : j < n) : elM (fun j c => A (sw i K j) c) (fun c => A (sw i K i) c * o % t) i t n j c = stepA A i K o t j c := by
  unfold elM stepA
  dsimp only
  have e : sw i K i = K := by simp [sw]
  by_cases h1 : j = i
  · rw [if_pos h1, if_pos h1, e]
  · rw [if_neg h1, if_neg h1, if_pos hj, e]
    have e2 : sw i K j = if j = K then i else j := by simp [sw, h1]
    rw [e2]

set_option maxRecDepth 100000 in
set_option maxHeartbeats 4000000 in
theorem solve_calls (n m i K : Nat) (t o : Int) (H hcap B : Nat) (gs caps : Nat → Nat) (A : Nat → Nat → Int) (w : World) (hm : MatAt w B H n m gs caps A) (hi : i < n) (him : i < m) (hK : i ≤ K) (hK2 : K < n)
    (hpiv : 1 ≤ A K i) (hz : ∀ j, i ≤ j → j < K → A j i = 0) (hbnd : ∀ j c, j < n → c < m → 0 ≤ A j c ∧ A j c < t) (ht : 2 ≤ t) (ht2 : t ≤ 1021) (ho : 1 ≤ o) (ho2 : o < t) (hinv : A K i * o % t = 1) (hn : n ≤ 16) (hm2 : m ≤ 17) :
    Calls Tryz.prog 140 #[.slice (some ⟨H, 0, none⟩) n hcap, .int .i64 i, .int .i64 t] w fun e w' => e = .returned (.tuple #[]) ∧ ∃ gs' caps', MatAt w' B H n m gs' caps' (stepA A i K o t) ∧ Below B w w' := by
  have HZ : Hid _ := hz
  have HB : Hid _ := hbnd
  have HI : Hid _ := hinv
  have HP : Hid _ := hpiv
  clear hz hbnd hinv hpiv
  go_enter Tryz.func140, Tryz.ntmps140
  go_wp2_with fail
  go_loop [6] (fun z => ∃ k : Nat, i ≤ k ∧ k ≤ K ∧ z = .int .i64 (k : Int)) (fun z => K - (intOf z).toNat)
  case atStart => exact ⟨i, Nat.le_refl _, hK, rfl⟩
  case round =>
    obtain ⟨k, hk1, hk2, rfl⟩ := hrel
    have hh := hm.head k (by omega)
    have hc := hm.cell k i (by omega) him
    by_cases hk : k = K
    · subst hk
      have hp := HP.out
      have hne : (A k i == 0) = false := beq_eq_false_iff_ne.2 (by omega)
      have hh2 := hm.head i hi
      have hf1 := hm.headf k hK2
      have hf2 := hm.headf i hi
      obtain ⟨v', hv'⟩ := cell?_setCell_some (p := ⟨H, k, none⟩) (x := .slice (some ⟨gs i, 0, none⟩) m (caps i)) hh2
      have hm2 := hm.swap i k hi hK2
      have hc2 := hm2.cell i i hi him
      have e : sw i k i = k := by simp [sw]
      rw [e] at hc2
      have hbe : Below B w ((w.setCell ⟨H, k, none⟩ (.slice (some ⟨gs i, 0, none⟩) m (caps i))).setCell ⟨H, i, none⟩ (.slice (some ⟨gs k, 0, none⟩) m (caps k))) := ((Below.refl _ _).setCell hm.hH.1 _).setCell hm.hH.1 _
      have hb0 := HB.out k i hK2 him
      by_cases hkn : k + 1 < n
      all_goals
        go_wp2_with fail
        refine (refInverse_calls _ _ o _ hb0.1 (by omega) (by omega) ho ho2 HI.out (fun x hx1 hx2 hx3 => by have := inv_unique (by omega) (by omega) (by omega) ho2 hx3 HI.out; omega)).mono ?_
        rintro e w' ⟨rfl, rfl⟩
        have hA1b : Hid (∀ j c, j < n → c < m → 0 ≤ A (sw i k j) c ∧ A (sw i k j) c < t) := fun j c hj hc' => HB.out _ c (sw_lt hi hK2 hj) hc'
        have HG : Hid (gs (sw i k i) = gs k) := congrArg gs e
        have HE : Hid (∀ j c, j < n → elM (fun j c => A (sw i k j) c) (fun c => A (sw i k i) c * o % t) i t n j c = stepA A i k o t j c) := fun j c hj => elM_end A i k n o t j c hj
        clear hc hh hh2 hf1 hf2 hv' hc2 hne hp hb0 hm
        generalize (w.setCell ⟨H, k, none⟩ (.slice (some ⟨gs i, 0, none⟩) m (caps i))).setCell ⟨H, i, none⟩ (.slice (some ⟨gs k, 0, none⟩) m (caps k)) = W2 at hm2 hbe ⊢
        generalize hpp : (fun c => A (sw i k i) c * o % t) = p at HE
        have HPP : Hid (∀ c, p c = A (sw i k i) c * o % t) := fun c => by rw [← hpp]
        clear hpp
        generalize hA1 : (fun j c => A (sw i k j) c) = A1 at hm2 HE
        have HA1 : Hid (∀ j c, A (sw i k j) c = A1 j c) := fun j c => by rw [← hA1]
        clear hA1
        have HPA : Hid (∀ c, p c = A1 i c * o % t) := fun c => by rw [HPP.out, HA1.out]
        have HAb : Hid (∀ j c, j < n → c < m → 0 ≤ A1 j c ∧ A1 j c < t) := fun j c hj hc' => by rw [← HA1.out]; exact hA1b.out j c hj hc'
        have HPb : Hid (∀ c, 0 ≤ p c ∧ p c < t) := fun c => by rw [HPP.out]; exact ⟨Int.emod_nonneg _ (by omega), Int.emod_lt_of_pos _ (by omega)⟩
        generalize hgs1 : (fun j => gs (sw i k j)) = gs1 at hm2
        have HG1 : Hid (gs1 i = gs k) := by
          show _ = _
          rw [← hgs1]
          exact HG.out
        have hBg : B ≤ gs k := by rw [← HG1.out]; exact (hm2.hg i hi).1
        clear hgs1 hA1b HPP HA1
        generalize (fun j => caps (sw i k j)) = caps1 at hm2
        go_wp2_with fail
        go_loopw [9] (fun z wr => ∃ d : Nat, d ≤ m ∧ z = .int .i64 (d : Int) ∧ MatAt wr B H n m gs1 caps1 (scM A1 p i d) ∧ Below B w wr) (fun z _ => m - (intOf z).toNat)
        case atStart => exact ⟨0, Nat.zero_le _, rfl, hm2.congr (fun j c _ _ => by simp [scM]), hbe⟩
        case round =>
          obtain ⟨d, hd, rfl, hmr, hbr⟩ := hrel
          by_cases hdm : d < m
          · have hcd := hmr.cell i d hi hdm
            have hfd := hmr.cellf i d hi hdm
            rw [HG1.out] at hcd hfd
            have hsc : scM A1 p i d i d = A1 i d := by
              unfold scM
              rw [if_neg (fun e => Nat.lt_irrefl _ e.2)]
            rw [hsc] at hcd
            have hab := HAb.out i d hi hdm
            have hset := (hmr.set i d hi hdm (p d)).congr (fun j c _ _ => scM_step A1 p i d j c)
            rw [HG1.out, HPA.out d] at hset
            have HS : Hid _ := hset
            generalize A1 i d = a at hcd hab HS
            have ha1 := hab.1
            have ha2 := hab.2
            have h3 : 0 ≤ a * o := Int.mul_nonneg ha1 (by omega)
            have h4 : a * o ≤ 1021 * 1021 := Int.mul_le_mul (by omega) (by omega) (by omega) (by omega)
            clear hab hset hsc hmr
            go_wp2_with fail
            go_roundw
            case rel => exact ⟨d + 1, by omega, by go_num, HS.out, hbr.setCell hBg _⟩
            case measure => simp [intOf]; omega
          · obtain rfl : d = m := by omega
            replace hmr := hmr.congr (fun j c _ hc' => scM_end A1 p i d t j c hc')
            go_wp2_with fail
            go_loopw [10] (fun z wx => ∃ r : Nat, r ≤ n ∧ z = .int .i64 (r : Int) ∧ MatAt wx B H n d gs1 caps1 (elM A1 p i t r) ∧ Below B w wx) (fun z _ => n - (intOf z).toNat)
            case atStart => exact ⟨0, Nat.zero_le _, rfl, hmr, hbr⟩
            case round =>
              obtain ⟨r, hr, rfl, hmx, hbx⟩ := hrel
              clear hmr hbr hm2 hbe
              by_cases hrn : r < n
              · by_cases hri : r = i
                · subst hri
                  have hne : ((r : Int) != (r : Int)) = false := by simp
                  go_wp2_with fail
                  go_roundw
                  case rel => exact ⟨r + 1, by omega, by go_num, hmx.congr (fun j c _ _ => elM_skip A1 p r t j c), hbx⟩
                  case measure => simp [intOf]; omega
                · have hne : ((r : Int) != (i : Int)) = true := by rw [bne_iff_ne]; omega
                  have hh := hmx.head r hrn
                  have hcf := hmx.cell r i hrn him
                  have hef : elM A1 p i t r r i = A1 r i := by
                    unfold elM
                    rw [if_neg hri, if_neg (Nat.lt_irrefl r)]
                  rw [hef] at hcf
                  have hfb := HAb.out r i hrn him
                  have HSt : Hid (∀ c, c < d → elR A1 p i t r c r c = A1 r c ∧ elR A1 p i t r c i c = p c) := fun c hc' => by
                    unfold elR elM
                    refine ⟨?_, ?_⟩
                    · rw [if_neg (fun e => Nat.lt_irrefl _ e.2), if_neg hri, if_neg (Nat.lt_irrefl r)]
                    · rw [if_neg (fun e => Nat.lt_irrefl _ e.2), if_pos rfl]
                  have hBr : B ≤ gs1 r := (hmx.hg r hrn).1
                  have HStep : Hid (∀ c j c', (if j = r ∧ c' = c then (A1 r c - A1 r i * p c) % t else elR A1 p i t r c j c') = elR A1 p i t r (c + 1) j c') := fun c j c' => elR_step A1 p i t r c j c'
                  generalize A1 r i = f at hcf hfb HStep
                  have hf1 := hfb.1
                  have hf2 := hfb.2
                  clear hfb hef
                  go_wp2_with fail
                  go_loopw [12] (fun z wy => ∃ c : Nat, c ≤ d ∧ z = .int .i64 (c : Int) ∧ MatAt wy B H n d gs1 caps1 (elR A1 p i t r c) ∧ Below B w wy) (fun z _ => d - (intOf z).toNat)
                  case atStart => exact ⟨0, Nat.zero_le _, rfl, hmx.congr (fun j c _ _ => elR_start A1 p i t r j c), hbx⟩
                  case round =>
                    obtain ⟨c, hcd, rfl, hmy, hby⟩ := hrel
                    clear hmx hbx hh hcf
                    by_cases hcm : c < d
                    · have hh := hmy.head r hrn
                      have hc1 := hmy.cell r c hrn hcm
                      have hc2 := hmy.cell i c hi hcm
                      have hff := hmy.cellf r c hrn hcm
                      rw [(HSt.out c hcm).1] at hc1
                      rw [(HSt.out c hcm).2, HG1.out] at hc2
                      have hab := HAb.out r c hrn hcm
                      have hpb := HPb.out c
                      have hset := (hmy.set r c hrn hcm ((A1 r c - f * p c) % t)).congr (fun j c' _ _ => HStep.out c j c')
                      have HS : Hid _ := hset
                      clear hset hmy
                      generalize A1 r c = a at hc1 hab HS
                      generalize p c = y at hc2 hpb HS
                      have h3 : 0 ≤ f * y := Int.mul_nonneg hf1 hpb.1
                      have h4 : f * y ≤ 1021 * 1021 := Int.mul_le_mul (by omega) (by omega) hpb.1 (by omega)
                      have e1 : IntKind.i64.wrap (f * y) = f * y := IntWalk.i64_in _ (by omega)
                      have e2 : IntKind.i64.wrap (a - f * y) = a - f * y := IntWalk.i64_in _ (by omega)
                      go_wp2_with fail
                      refine wp_region_still_tail 22 (by kernel_rfl) (by kernel_rfl) ?_
                      simp only [List.take_succ_cons, List.take_zero, List.drop_succ_cons, List.drop_zero]
                      repeat still_step
                      still_call (Mod_calls _ _ _ (by omega) (by omega))
                      still_step
                      refine wpStill_nil ?_
                      change wpList _ _ _ _ _ wr.drew
                      go_wp2_with fail
                      go_roundw
                      case rel => exact ⟨c + 1, by omega, by go_num, HS.out.up (Up.drew (Up.refl _)), (hby.setCell hBr _).drew⟩
                      case measure => simp [intOf]; omega


                    · obtain rfl : c = d := by omega
                      go_wp2_with fail
                      go_roundw
                      case rel => exact ⟨r + 1, by omega, by go_num, hmy.congr (fun j c' _ hc' => elR_end A1 p i c t r j c' hri hc'), hby⟩
                      case measure => simp [intOf]; omega
              · obtain rfl : r = n := by omega
                go_wp2_with fail
                go_end0
                exact ⟨rfl, gs1, caps1, hmx.congr (fun j c hj _ => HE.out j c hj), hbx⟩
    · have hz0 := HZ.out k hk1 (by omega)
      have hne : (A k i == 0) = true := by rw [hz0]; rfl
      have HZ0 : Hid _ := hz0
      clear hz0
      go_wp2_with fail
      go_round
      case rel => exact ⟨k + 1, by omega, by omega, by go_num⟩
      case measure => simp [intOf]; omega

end Go.Proofs.YtcjhgbljhpflfabGreat

namespace Go.Proofs.YtcjhgbljhpflfabGreat
open Go.RowKit
set_option linter.unusedVariables false

theorem info_ints : (Tryz.prog.info? 54).map (fun i => (i.zero, i.size, i.bytes)) = some (some (.slice none 0 0), 1, 24) := by kernel_rfl

/-- the slice v owns the headers hs -/
abbrev OwnH (w : World) (base : Nat) (v : Value) (hs : List Value) : Prop := w.ownsRow base 54 1 v hs.length hs

theorem OwnH.up {w w' : World} {base : Nat} {v : Value} {xs : List Value} (h : OwnH w base v xs) (hu : Up w w') : OwnH w' base v xs := by
  refine ⟨h.1, ?_⟩
  rcases h.2 with h2 | ⟨g, cap, cur, h3, h4, h5, h6⟩
  · exact Or.inl h2
  · exact Or.inr ⟨g, cap, cur, h3, h4, by rw [hu.block g (Array.getElem?_eq_some_iff.1 h5).1]; exact h5, h6⟩

/-- headers and numbers lie in different blocks -/
theorem own_types {w : World} {base base' : Nat} {v u : Value} {hs : List Value} {xs : List Int} (h : OwnH w base v hs) (k : OwnI w base' u xs) : u.ownBlock = none ∨ u.ownBlock ≠ v.ownBlock := by
  rcases h.2 with ⟨rfl, _⟩ | ⟨g, cap, cur, rfl, _, h5, _⟩
  · rcases k.2 with ⟨rfl, _⟩ | ⟨g', cap', cur', rfl, _, _⟩
    · exact Or.inl rfl
    · exact Or.inr (by simp [Value.ownBlock])
  · rcases k.2 with ⟨rfl, _⟩ | ⟨g', cap', cur', rfl, _, k5, _⟩
    · exact Or.inl rfl
    · refine Or.inr fun c => ?_
      simp only [Value.ownBlock, Option.some.injEq] at c
      rw [c, h5] at k5
      injection k5 with k5
      injection k5 with _ k6
      exact absurd k6 (by decide)

/-- rows = append(rows, r) -/
theorem append_hdr {ops : Array Oper} {rest : List Oper} {o : Oper} {a : Act} {Q : Exit → Act → World → Prop} (w : World) (y : Value) (hy : y.oneCell' = true) (hgd : o.guard = none) (s x : Operand)
    (ho : o.op = .call { callee := .builtin .append, args := #[s, x], argTypes := #[78, 78] })
    (base : Nat) (v : Value) (xs : List Value) (hs : a.eval s = v) (hown : OwnH w base v xs) (hx : a.eval x = .slice (some ⟨w.heap.size, 0, none⟩) 1 1)
    (hlen : xs.length ≤ 1048576) (hbase : base ≤ w.heap.size)
    (h : ∀ v' w', OwnH w' base v' (xs ++ [y]) → w.grownBy w' v.ownBlock → Below base w w' → wpList Tryz.prog ops Q rest (a.put o.dst v') w') :
    wpList Tryz.prog ops Q (o :: rest) a (w.alloc (.cells #[y] 54)) := by
  obtain ⟨i0, hi, hz0, hz1, hz2⟩ := info_parts info_ints
  refine wpList_append_own_at _ hgd s x 78 ho base 54 i0 (.slice none 0 0) 1 24 Tryz.underlying78 hi hz0 hz1 hz2 rfl (by decide) v xs.length xs hs (World.ownsRow.alloc hown _)
    ⟨w.heap.size, 0, none⟩ 1 1 [y] hx rfl ?_ ?_ ?_ ?_ ?_ ?_
  · intro j u hj
    match j, hj with
    | 0, hj => simp at hj; subst hj; simp [Addr.add]
  · intro u hu; simp at hu; subst hu; exact hy
  · unfold maxLen; omega
  · omega
  · simp; omega
  · intro v' w' h1 h2 h3 h4
    have hg : w.grownBy w' v.ownBlock := ⟨h2.os, h2.tape, h2.output, Nat.le_trans (by simp) h2.size, fun k hk hne => (h2.block k (by simp; omega) hne).trans (heap_alloc_old w _ hk)⟩
    refine h v' w' ?_ hg ?_
    · show World.ownsRow _ _ _ _ _ _ _
      rw [List.length_append]
      exact h1
    · exact (Below.refl _ _).grown hg hbase (fun k hk => (World.ownsRow.lt hown k hk).1)

/-- an append of one number at a step of a region that draws -/
theorem step_append_int {ops : Array Oper} {o : Oper} {a : Act} {K : Act → World → Prop} {Q : Exit → Act → World → Prop} {E : Prop} (W : World) (y : Int) (g : Nat) (hgd : o.guard = none) (s x : Operand)
    (ho : o.op = .call { callee := .builtin .append, args := #[s, x], argTypes := #[54, 54] })
    (base : Nat) (v : Value) (xs : List Int) (hs : a.eval s = v) (hown : OwnI W base v xs) (hx : a.eval x = .slice (some ⟨g, 0, none⟩) 1 1) (hc : W.cell? ⟨g, 0, none⟩ = some (.int .i64 y))
    (hlen : xs.length ≤ 1099511627776) (hbase : base ≤ W.heap.size)
    (h : ∀ v' w', OwnI w' base v' (xs ++ [y]) → W.grownBy w' v.ownBlock → Below base W w' → K (a.put o.dst v') w') :
    if Region.wanted o (yielded ops a.tmps) = true then Oper.wp Tryz.prog o a W K Q else E := by
  have hw : Region.wanted o (yielded ops a.tmps) = true := by simp [Region.wanted, hgd]
  rw [if_pos hw]
  obtain ⟨i0, hi, hz0, hz1, hz2⟩ := info_parts info_int
  refine wp_append_own W s x 54 ho base 3 i0 (.int .i64 0) 1 8 Tryz.underlying54 hi hz0 hz1 hz2 rfl (by decide) v xs.length (xs.map (Value.int .i64)) hs hown
    ⟨g, 0, none⟩ 1 1 [.int .i64 y] hx rfl ?_ ?_ ?_ ?_ hbase ?_
  · intro j u hj
    match j, hj with
    | 0, hj => simp at hj; subst hj; simpa [Addr.add] using hc
  · intro u hu; simp at hu; subst hu; rfl
  · unfold maxLen; omega
  · omega
  · intro v' w' h1 h2 h3
    refine h v' w' ?_ h2 ?_
    · simpa [OwnI] using h1
    · exact (Below.refl _ _).grown h2 hbase (fun k hk => (World.ownsRow.lt hown k hk).1)

/-- the first m powers of point j -/
def powL (n t j m : Nat) : List Int := (List.range m).map fun c => pI n t j ^ c % (t : Int)

theorem powL_length (n t j m : Nat) : (powL n t j m).length = m := by simp [powL]

theorem powL_succ (n t j m : Nat) : powL n t j (m + 1) = powL n t j m ++ [pI n t j ^ m % (t : Int)] := by simp [powL, List.range_succ]

/-- row j of the equations -/
def eqL (n t : Nat) (ss : List Int) (j : Nat) : List Int := powL n t j n ++ [ss.getD j 0]

theorem eqL_length (n t : Nat) (ss : List Int) (j : Nat) : (eqL n t ss j).length = n + 1 := by simp [eqL, powL_length]

theorem eqL_getD (n t : Nat) (ss : List Int) (j c : Nat) (hc : c < n + 1) : (eqL n t ss j).getD c 0 = if c < n then pI n t j ^ c % (t : Int) else ss.getD j 0 := by
  unfold eqL
  by_cases h : c < n
  · rw [if_pos h, List.getD_eq_getElem?_getD, List.getElem?_append_left (by rw [powL_length]; exact h), ← List.getD_eq_getElem?_getD]
    unfold powL
    rw [getD_range h]
  · rw [if_neg h]
    obtain rfl : c = n := by omega
    rw [List.getD_eq_getElem?_getD, List.getElem?_append_right (by rw [powL_length]; exact Nat.le_refl _), powL_length]
    simp

/-- the headers of the first k rows -/
def hdL (m : Nat) (gs caps : Nat → Nat) (k : Nat) : List Value := (List.range k).map fun j => Value.slice (some ⟨gs j, 0, none⟩) m (caps j)

theorem hdL_length (m : Nat) (gs caps : Nat → Nat) (k : Nat) : (hdL m gs caps k).length = k := by simp [hdL]

theorem hdL_succ (m : Nat) (gs caps : Nat → Nat) (k : Nat) : hdL m gs caps (k + 1) = hdL m gs caps k ++ [Value.slice (some ⟨gs k, 0, none⟩) m (caps k)] := by simp [hdL, List.range_succ]

theorem hdL_congr {m : Nat} {gs caps gs' caps' : Nat → Nat} {k : Nat} (h : ∀ j, j < k → gs j = gs' j ∧ caps j = caps' j) : hdL m gs caps k = hdL m gs' caps' k := by
  unfold hdL
  refine List.map_congr_left fun j hj => ?_
  obtain ⟨h1, h2⟩ := h j (List.mem_range.1 hj)
  rw [h1, h2]

/-- k rows are laid -/
structure Laid (w : World) (B n t : Nat) (ss : List Int) (rows : Value) (gs caps : Nat → Nat) (k : Nat) : Prop where
  hdr : OwnH w B rows (hdL (n + 1) gs caps k)
  row : ∀ j, j < k → OwnI w B (.slice (some ⟨gs j, 0, none⟩) (n + 1) (caps j)) (eqL n t ss j)
  inj : ∀ j l, j < k → l < k → gs j = gs l → j = l

theorem Laid.up {w w' : World} {B n t : Nat} {ss : List Int} {rows : Value} {gs caps : Nat → Nat} {k : Nat} (h : Laid w B n t ss rows gs caps k) (hu : Up w w') : Laid w' B n t ss rows gs caps k :=
  ⟨h.hdr.up hu, fun j hj => (h.row j hj).up hu, h.inj⟩

theorem OwnI.block_lt {w : World} {base g n cap : Nat} {xs : List Int} (h : OwnI w base (.slice (some ⟨g, 0, none⟩) n cap) xs) : base ≤ g ∧ g < w.heap.size := h.lt g rfl

/-- all rows are laid: a matrix -/
theorem Laid.mat {w : World} {B n t : Nat} {ss : List Int} {rows : Value} {gs caps : Nat → Nat} (h : Laid w B n t ss rows gs caps n) (hn : 0 < n) :
    ∃ H hcap, rows = .slice (some ⟨H, 0, none⟩) n hcap ∧ MatAt w B H n (n + 1) gs caps (fun j c => if c < n then pI n t j ^ c % (t : Int) else ss.getD j 0) := by
  have hh := h.hdr
  rcases hh.2 with ⟨_, h0⟩ | ⟨H, hcap, cur, rfl, hB, h5, _⟩
  · rw [hdL_length] at h0; omega
  · rw [hdL_length]
    refine ⟨H, hcap, rfl, ⟨hB, (Array.getElem?_eq_some_iff.1 h5).1⟩, fun j hj => ⟨(h.row j hj).block_lt.1, (h.row j hj).block_lt.2, ?_⟩, fun j l hj hl e => h.inj j l hj hl e, ?_, fun j hj => ?_, ?_, fun j c hj hc => ?_⟩
    · intro e
      have := own_types hh (h.row j hj)
      simp [Value.ownBlock, e] at this
    · intro j hj
      rw [World.ownsRow.cellAt hh j (by rw [hdL_length]; omega)]
      simp [hdL, hj]
    · exact World.ownsRow.frozenAt hh j
    · intro j c hj hc
      have hr := h.row j hj
      have hl := eqL_length n t ss j
      have hr2 : w.ownsRow B 3 1 (.slice (some ⟨gs j, 0, none⟩) (n + 1) (caps j)) (n + 1) ((eqL n t ss j).map (Value.int .i64)) := by
        have : OwnI w B (.slice (some ⟨gs j, 0, none⟩) (n + 1) (caps j)) (eqL n t ss j) := hr
        unfold OwnI at this
        rw [hl] at this
        exact this
      rw [World.ownsRow.cellAt hr2 c (by omega), List.getElem?_map, ← eqL_getD n t ss j c hc, List.getD_eq_getElem?_getD, List.getElem?_eq_getElem (by omega)]
      rfl
    · have hr := h.row j hj
      have hl := eqL_length n t ss j
      have hr2 : w.ownsRow B 3 1 (.slice (some ⟨gs j, 0, none⟩) (n + 1) (caps j)) (n + 1) ((eqL n t ss j).map (Value.int .i64)) := by
        have : OwnI w B (.slice (some ⟨gs j, 0, none⟩) (n + 1) (caps j)) (eqL n t ss j) := hr
        unfold OwnI at this
        rw [hl] at this
        exact this
      exact World.ownsRow.frozenAt hr2 c

/-- one row more -/
theorem Laid.next {w wx w' : World} {B n t : Nat} {ss : List Int} {rows rows' : Value} {gs caps : Nat → Nat} {k g cap : Nat} (h : Laid w B n t ss rows gs caps k) (hu : Up w wx) (hB : B ≤ w.heap.size)
    (hr : OwnI wx w.heap.size (.slice (some ⟨g, 0, none⟩) (n + 1) cap) (eqL n t ss k))
    (ho : OwnH w' B rows' (hdL (n + 1) gs caps k ++ [.slice (some ⟨g, 0, none⟩) (n + 1) cap])) (hg : wx.grownBy w' rows.ownBlock) :
    Laid w' B n t ss rows' (fun j => if j = k then g else gs j) (fun j => if j = k then cap else caps j) (k + 1) := by
  have hx := h.up hu
  have hgk := hr.block_lt
  refine ⟨?_, ?_, ?_⟩
  · rw [hdL_succ, if_pos rfl, if_pos rfl, hdL_congr (gs' := gs) (caps' := caps) (fun j hj => by rw [if_neg (by omega), if_neg (by omega)]; exact ⟨rfl, rfl⟩)]
    exact ho
  · intro j hj
    by_cases e : j = k
    · subst e
      rw [if_pos rfl, if_pos rfl]
      exact (hr.kept hg (own_types hx.hdr hr)).base hB
    · rw [if_neg e, if_neg e]
      have := hx.row j (by omega)
      exact this.kept hg (own_types hx.hdr this)
  · intro j l hj hl e
    have hlt : ∀ i, i < k → gs i < w.heap.size := fun i hi => (h.row i hi).block_lt.2
    by_cases e1 : j = k
    · by_cases e2 : l = k
      · omega
      · have := hlt l (by omega)
        rw [if_pos e1, if_neg e2] at e
        omega
    · by_cases e2 : l = k
      · have := hlt j (by omega)
        rw [if_neg e1, if_pos e2] at e
        omega
      · rw [if_neg e1, if_neg e2] at e
        exact h.inj j l (by omega) (by omega) e

end Go.Proofs.YtcjhgbljhpflfabGreat

namespace Go.Proofs.YtcjhgbljhpflfabGreat
open Go.RowKit
set_option linter.unusedVariables false

theorem ne_nil_of_length {xs : List Int} {n : Nat} (h : xs.length = n) (hn : 0 < n) : xs ≠ [] := by
  intro c
  subst c
  simp at h
  omega

theorem keepS {B a k c l : Nat} {u v : Value} {W W' : World} (hb : Below B W W') (h1 : a < B) (h2 : c < B) (hS : W.cell? ⟨a, k, none⟩ = some u ∧ W.cell? ⟨c, l, none⟩ = some v) : W'.cell? ⟨a, k, none⟩ = some u ∧ W'.cell? ⟨c, l, none⟩ = some v :=
  ⟨(hb.cell (p := ⟨a, k, none⟩) h1).trans hS.1, (hb.cell (p := ⟨c, l, none⟩) h2).trans hS.2⟩

theorem keepS3 {B a k c l d m : Nat} {u v x : Value} {W W' : World} (hb : Below B W W') (h1 : a < B) (h2 : c < B) (h3 : d < B) (hS : W.cell? ⟨a, k, none⟩ = some u ∧ W.cell? ⟨c, l, none⟩ = some v ∧ W.cell? ⟨d, m, none⟩ = some x) : W'.cell? ⟨a, k, none⟩ = some u ∧ W'.cell? ⟨c, l, none⟩ = some v ∧ W'.cell? ⟨d, m, none⟩ = some x :=
  ⟨(hb.cell (p := ⟨a, k, none⟩) h1).trans hS.1, (hb.cell (p := ⟨c, l, none⟩) h2).trans hS.2.1, (hb.cell (p := ⟨d, m, none⟩) h3).trans hS.2.2⟩

set_option maxRecDepth 100000 in
set_option maxHeartbeats 4000000 in
theorem Poly_calls (n t : Nat) (q b : Int) (ss : List Int) (gx cap : Nat) (w : World) (g : NT n t) (hl : ss.length = n) (hx : ∀ i, i < n → 0 ≤ ss.getD i 0 ∧ ss.getD i 0 < (t : Int)) (hi : IsI w gx ss) :
    Calls Tryz.prog 101 #[.agg #[.int .i64 n, .int .i64 t, .int .i64 q, .int .i64 b], .slice (some ⟨gx, 0, none⟩) n cap] w fun e w' => ∃ v, e = .returned v ∧ OwnI w' w.heap.size v (encI n t ss) ∧ Up w w' := by
  have ht := g.t3
  have ht2 := g.ht
  obtain ⟨hd1, hd2, hd3⟩ := g.half
  have G : Hid (NT n t) := g
  have HX : Hid _ := hx
  have HL : Hid _ := hl
  clear g hx hl
  go_enter Tryz.func101, Tryz.ntmps101
  go_wp2_with fail
  refine (Points_calls n t q b _ G.out).mono ?_
  rintro e w1 ⟨v, rfl, hown, hu⟩
  obtain ⟨gr, cap2, rfl, hgr, his⟩ := hown.is (ne_nil_of_length (ptL_length _ _ _) (by omega))
  rw [ptL_length]
  have hsz : w.heap.size + 1 ≤ w1.heap.size := by have := hu.size; simpa using this
  clear hown
  go_wp2_with fail
  go_loopw [6, 7] (fun rows j wr => ∃ (k : Nat) (gs caps : Nat → Nat), k ≤ n ∧ j = .int .i64 (k : Int) ∧ Laid wr w1.heap.size n t ss rows gs caps k ∧ Up w1 wr) (fun _ j _ => n - (intOf j).toNat)
  case atStart => exact ⟨0, fun _ => 0, fun _ => 0, Nat.zero_le _, rfl, ⟨World.ownsRow_nil _ _ _ _, fun j hj => absurd hj (Nat.not_lt_zero _), fun j l hj => absurd hj (Nat.not_lt_zero _)⟩, Up.refl _⟩
  case round =>
    obtain ⟨k, gs, caps, hk, rfl, hlaid, hu3⟩ := hrel
    obtain ⟨hc, hf⟩ := bcell (hu.trans hu3)
    by_cases hlt : k < n
    · have HP : Hid (∀ W, Up w1 W → W.cell? ⟨gr, k, none⟩ = some (.int .i64 (pI n t k))) := fun W hW => by
        rw [(his.up hW).2 k (by rw [ptL_length]; omega), ptL_getD _ _ _ _ hlt]
      have hb := pI_bounds G.out k hlt
      have hgl : gr < wr.heap.size := Nat.lt_of_lt_of_le his.1 hu3.size
      have hbl : w.heap.size < wr.heap.size := by have := hu3.size; omega
      go_wp2_with fail
      go_loopw [8, 9] (fun r j wx => ∃ m : Nat, m ≤ n ∧ j = .int .i64 (m : Int) ∧ OwnI wx wr.heap.size r (powL n t k m) ∧ Up wr wx) (fun _ j _ => n - (intOf j).toNat)
      case atStart => exact ⟨0, Nat.zero_le _, rfl, World.ownsRow_nil _ _ _ _, Up.refl _⟩
      case round =>
        obtain ⟨m, hm, rfl, hownr, hux⟩ := hrel
        clear hc hf
        obtain ⟨hc, hf⟩ := bcell ((hu.trans hu3).trans hux)
        by_cases hmn : m < n
        · have hcp := HP.out _ (hu3.trans hux)
          have HPW : Hid (powL n t k (m + 1) = powL n t k m ++ [pI n t k ^ m % (t : Int)]) := powL_succ n t k m
          generalize pI n t k = x at hcp hb HPW
          have hb1 := hb.1
          have hb2 := hb.2
          have hct : wr.cell? ⟨w.heap.size, 1, none⟩ = some (.int .i64 (t : Int)) := by rw [hc _ _ (by simp)]; simp
          have hszr : w.heap.size < wr.heap.size := by have := (hu3.trans hux).size; omega
          clear hb
          have hcn : (wr.alloc (.cells #[.int .i64 (x ^ m % (t : Int))] 3)).drew.cell? ⟨wr.heap.size, 0, none⟩ = some (.int .i64 (x ^ m % (t : Int))) := by simp
          have hbs := Nat.le_trans hux.size (Up.drew (Up.alloc (Up.refl wr) (.cells #[.int .i64 (x ^ m % (t : Int))] 3))).size
          go_wp2_with fail
          go_region_held3 (fun w' => w'.cell? ⟨gr, k, none⟩ = some (.int .i64 x) ∧ w'.cell? ⟨w.heap.size, 1, none⟩ = some (.int .i64 (t : Int)))
            (first | go_keep | exact keepS hb4 hgl hbl (by assumption))
            ((first | (go_at_call 107; refine (raised_calls _ _ _ _ (by omega) (by omega) (by omega) (by omega) (by omega) (by omega)).mono ?_; rintro e w' ⟨rfl, rfl⟩) | (refine step_append_int (wr.alloc (.cells #[.int .i64 (x ^ m % (t : Int))] 3)).drew (x ^ m % (t : Int)) wr.heap.size rfl (.tmp 27) (.tmp 36) rfl _ u8 (powL n t k m) rfl (hownr.up (Up.drew (Up.alloc (Up.refl _) _))) rfl hcn (by rw [powL_length]; omega) hbs ?_; intro v4 w4 hown4 hg4 hb4)))
          clear hcn hbs hcp hct hc hf
          go_wp2_with fail
          go_roundw
          case rel => exact ⟨m + 1, by omega, by go_num, by rw [HPW.out]; exact hown4, Below.trans (Up.drew (Below.alloc hux hux.size _)) hb4⟩
          case measure => simp [intOf]; omega
        · obtain rfl : m = n := by omega
          have hcv := (((((hi.up ((Up.refl _).alloc _)).up hu).up hu3).up hux)).2 k (by rw [HL.out]; omega)
          have HEQ : Hid (eqL m t ss k = powL m t k m ++ [ss.getD k 0]) := rfl
          generalize ss.getD k 0 = y at hcv HEQ
          go_wp2_with (at_builtin; refine append_int _ _ rfl (.tmp 38) (.tmp 43) rfl _ _ _ rfl hownr rfl (by rw [powL_length]; omega) hux.size ?_)
          intro v4 w4 hown4 hg4 hb4 _
          rw [← HEQ.out] at hown4
          have hu4 := Below.trans hux hb4
          have hlaid4 := hlaid.up hu4
          obtain ⟨gk, capk, rfl, _, _⟩ := hown4.is (ne_nil_of_length (eqL_length _ _ _ _) (by omega))
          rw [eqL_length] at hown4 ⊢
          clear hownr hg4 hb4 hcv hc hf hux
          go_wp2_with (at_builtin; refine append_hdr _ _ rfl rfl (.tmp 45) (.tmp 47) rfl _ _ _ rfl hlaid4.hdr rfl (by rw [hdL_length]; omega) (hu3.trans hu4).size ?_)
          intro v5 w5 hown5 hg5 hb5
          have hnext := hlaid.next hu4 hu3.size hown4 hown5 hg5
          have hu5 : Up w1 w5 := Below.trans (hu3.trans hu4) hb5
          clear hlaid4 hown4 hown5 hg5 hb5 hu4
          go_wp2_with fail
          go_roundw
          case rel => exact ⟨k + 1, _, _, by omega, by go_num, hnext, hu5⟩
          case measure => simp [intOf]; omega
    · obtain rfl : k = n := by omega
      obtain ⟨H, hcap, rfl, hmat⟩ := hlaid.mat (by omega)
      have hel := Elim.start G.out ss HX.out
      generalize (fun j c => if c < k then pI k t j ^ c % (t : Int) else ss.getD j 0) = A0 at hmat hel
      clear hlaid
      go_wp2_with fail
      go_loopw [10] (fun z wx => ∃ (i : Nat) (gs caps : Nat → Nat) (A : Nat → Nat → Int), i ≤ k ∧ z = .int .i64 (i : Int) ∧ MatAt wx w1.heap.size H k (k + 1) gs caps A ∧ Elim k t (encC k t ss) i A ∧ Up w1 wx) (fun z _ => k - (intOf z).toNat)
      case atStart => exact ⟨0, gs, caps, A0, Nat.zero_le _, rfl, hmat, hel, hu3⟩
      case round =>
        obtain ⟨i, gs2, caps2, A, hik, rfl, hm2, he2, hux⟩ := hrel
        clear hc hf hmat hel
        obtain ⟨hc, hf⟩ := bcell (hu.trans hux)
        by_cases hin : i < k
        · obtain ⟨hp1, hp2, hp3, hp4⟩ := piv_facts G.out he2 hin
          have hinv := inv_fact G.out (A (pivK k t i) i) hp3 (he2.bnd _ _ hp2 (by omega)).2
          have hob1 : 0 ≤ A (pivK k t i) i ^ ((t : Int) - 2).toNat % (t : Int) := Int.emod_nonneg _ (by omega)
          have hob2 : A (pivK k t i) i ^ ((t : Int) - 2).toNat % (t : Int) < (t : Int) := Int.emod_lt_of_pos _ (by omega)
          have hne0 : A (pivK k t i) i ^ ((t : Int) - 2).toNat % (t : Int) ≠ 0 := by
            intro c
            rw [c, Int.mul_zero, Int.zero_emod] at hinv
            omega
          have hstep := he2.step G.out hin
          go_wp2_with fail
          refine (solve_calls k (k + 1) i (pivK k t i) t _ H hcap w1.heap.size gs2 caps2 A _ hm2 hin (by omega) hp1 hp2 hp3 hp4 (fun j c hj hc => he2.bnd j c hj (by omega)) (by omega) (by omega) (by omega) hob2 hinv (by omega) (by omega)).mono ?_
          rintro e w4 ⟨rfl, gs3, caps3, hm3, hb3⟩
          clear hc hf hm2 he2 hinv hob1 hob2 hne0 hp1 hp2 hp3 hp4
          go_wp2_with fail
          go_roundw
          case rel => exact ⟨i + 1, gs3, caps3, _, by omega, by go_num, hm3, hstep, Below.trans hux hb3⟩
          case measure => simp [intOf]; omega
        · obtain rfl : i = k := by omega
          have HEnd : Hid (∀ j, j < i → A j i = encC i t ss j) := fun j hj => he2.end G.out (fun l _ => encC_bounds G.out ss l) j hj
          have hsz4 : w.heap.size < wr.heap.size := by have := hux.size; omega
          have hH4 : H < wr.heap.size := hm2.hH.2
          obtain ⟨M, hM, hm2⟩ : ∃ M, i < M ∧ MatAt wr w1.heap.size H i M gs2 caps2 A := ⟨i + 1, by omega, hm2⟩
          clear he2
          go_wp2_with fail
          go_loopw [11, 12] (fun l z wx => ∃ j : Nat, j ≤ i ∧ z = .int .i64 (j : Int) ∧ OwnI wx wr.heap.size l ((List.range j).map (encC i t ss)) ∧ Up wr wx) (fun _ z _ => i - (intOf z).toNat)
          case atStart => exact ⟨0, Nat.zero_le _, rfl, World.ownsRow_nil _ _ _ _, Up.refl _⟩
          case round =>
            obtain ⟨j, hj, rfl, hownl, huy⟩ := hrel
            clear hc hf
            obtain ⟨hc, hf⟩ := bcell ((hu.trans hux).trans huy)
            by_cases hjn : j < i
            · have hm4 := hm2.up huy
              have hh := hm4.head j hjn
              have hcj := hm4.cell j i hjn (by omega)
              rw [HEnd.out j hjn] at hcj
              have HR : Hid ((List.range (j + 1)).map (encC i t ss) = (List.range j).map (encC i t ss) ++ [encC i t ss j]) := by
                show _ = _
                rw [List.range_succ, List.map_append, List.map_singleton]
              have hgj : gs2 j < wr.heap.size := (hm4.hg j hjn).2.1
              have hgj2 := (hm2.hg j hjn).2.1
              generalize encC i t ss j = x at hcj HR
              have hct : wr.cell? ⟨w.heap.size, 0, none⟩ = some (.int .i64 (i : Int)) := by rw [hc _ _ (by simp)]; simp
              have hcn : (wr.alloc (.cells #[.int .i64 x] 3)).drew.cell? ⟨wr.heap.size, 0, none⟩ = some (.int .i64 x) := by simp
              have hbs := Nat.le_trans huy.size (Up.drew (Up.alloc (Up.refl wr) (.cells #[.int .i64 x] 3))).size
              have hi0 : (0 : Int) ≤ (i : Int) := by omega
              have hi1 : (i : Int) < (M : Int) := by omega
              have hi2 : ¬ ((i : Int) < 0) := by omega
              have hj0 : (0 : Int) ≤ (j : Int) := by omega
              have hj1 : (j : Int) < (i : Int) := by omega
              clear hm4
              go_wp2_with fail
              go_region_held3 (fun w' => w'.cell? ⟨H, j, none⟩ = some (.slice (some ⟨gs2 j, 0, none⟩) M (caps2 j)) ∧ w'.cell? ⟨w.heap.size, 0, none⟩ = some (.int .i64 (i : Int)) ∧ w'.cell? ⟨gs2 j, i, none⟩ = some (.int .i64 x))
                (first | go_keep | exact keepS3 hb4 hH4 hsz4 hgj2 (by assumption))
                ((first | (refine step_append_int (wr.alloc (.cells #[.int .i64 x] 3)).drew x wr.heap.size rfl (.tmp 66) (.tmp 75) rfl _ u11 ((List.range j).map (encC i t ss)) rfl (hownl.up (Up.drew (Up.alloc (Up.refl _) _))) rfl hcn (by simp; omega) hbs ?_; intro v4 w4 hown4 hg4 hb4)))
              clear hcn hbs hct hc hf hh hcj
              go_wp2_with fail
              go_roundw
              case rel => exact ⟨j + 1, by omega, by go_num, by rw [HR.out]; exact hown4, Below.trans (Up.drew (Below.alloc huy huy.size _)) hb4⟩
              case measure => simp [intOf]; omega
            · obtain rfl : j = i := by omega
              go_wp2_with fail
              go_ret
              exact ⟨_, rfl, hownl.base (by omega), (((Up.refl _).alloc _).trans hu).trans (hux.trans huy)⟩

end Go.Proofs.YtcjhgbljhpflfabGreat

namespace Go.Proofs.YtcjhgbljhpflfabGreat
open Go.RowKit
set_option linter.unusedVariables false

theorem numsL_getD (l : List UInt8) (size n i : Nat) (h : i < n) : (numsL l size n).getD i 0 = (numL l (i * size) size : Int) := by
  induction n with
  | zero => omega
  | succ n ih =>
    simp only [numsL]
    by_cases e : i = n
    · subst e
      rw [List.getD_eq_getElem?_getD, List.getElem?_append_right (by rw [numsL_length]; exact Nat.le_refl _), numsL_length]
      simp
    · rw [List.getD_eq_getElem?_getD, List.getElem?_append_left (by rw [numsL_length]; omega), ← List.getD_eq_getElem?_getD]
      exact ih (by omega)

theorem numsL_bounds (l : List UInt8) (size n : Nat) (m : Int) (h : okL l n size m = true) (hm : m ≤ 65536) : ∀ i, i < (numsL l size n).length → 0 ≤ (numsL l size n).getD i 0 ∧ (numsL l size n).getD i 0 < 65536 := by
  intro i hi
  rw [numsL_length] at hi
  rw [numsL_getD _ _ _ _ hi]
  have := ((okL_iff _ _ _ _).1 h).2 i hi
  omega

theorem decI_bounds {n t : Nat} (g : NT n t) (xs : List Int) : ∀ i, i < (decI n t xs).length → 0 ≤ (decI n t xs).getD i 0 ∧ (decI n t xs).getD i 0 < 65536 := by
  intro i hi
  have hi : i < n := by simpa [decI] using hi
  have := valI_bounds g xs i
  have ht := g.ht
  unfold decI
  rw [getD_range hi]
  omega

theorem encI_bounds {n t : Nat} (g : NT n t) (xs : List Int) : ∀ i, i < (encI n t xs).length → 0 ≤ (encI n t xs).getD i 0 ∧ (encI n t xs).getD i 0 < 65536 := by
  intro i hi
  have hi : i < n := by simpa [encI] using hi
  have := encC_bounds g xs i
  have ht := g.ht
  unfold encI
  rw [getD_range hi]
  omega

theorem decI_length (n t : Nat) (xs : List Int) : (decI n t xs).length = n := by simp [decI]

theorem encI_length (n t : Nat) (xs : List Int) : (encI n t xs).length = n := by simp [encI]

theorem numsL_lt (l : List UInt8) (size n : Nat) (m : Int) (h : okL l n size m = true) : ∀ i, i < n → 0 ≤ (numsL l size n).getD i 0 ∧ (numsL l size n).getD i 0 < m := by
  intro i hi
  rw [numsL_getD _ _ _ _ hi]
  have := ((okL_iff _ _ _ _).1 h).2 i hi
  omega

end Go.Proofs.YtcjhgbljhpflfabGreat
