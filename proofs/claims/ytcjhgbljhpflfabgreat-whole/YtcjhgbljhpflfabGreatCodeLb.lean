/-
  Walks: the program's products of lists and of a matrix; its diagonals.
-/
import Derived.Test.YtcjhgbljhpflfabGreatCodeLa
import Derived.Test.YtcjhgbljhpflfabGreatCodeN
namespace Go.Proofs.YtcjhgbljhpflfabGreat
open Go.RowKit
set_option linter.unusedVariables false
set_option maxRecDepth 100000

/-- v = append(v, ys...), v the call's own -/
theorem append_list {ops : Array Oper} {rest : List Oper} {o : Oper} {a : Act} {Q : Exit → Act → World → Prop} (w : World) (hgd : o.guard = none) (s x : Operand)
    (ho : o.op = .call { callee := .builtin .append, args := #[s, x], argTypes := #[54, 54] })
    (base : Nat) (v : Value) (xs : List Int) (hs : a.eval s = v) (hown : OwnI w base v xs) (g cap n : Nat) (ys : List Int) (hl : ys.length = n) (hx : a.eval x = .slice (some ⟨g, 0, none⟩) n cap) (iy : IsI w g ys) (hxl : xs.length ≤ 1000) (hn : n ≤ 1000) (hbase : base ≤ w.heap.size)
    (h : ∀ v' w', OwnI w' base v' (xs ++ ys) → Below base w w' → wpList Tryz.prog ops Q rest (a.put o.dst v') w') :
    wpList Tryz.prog ops Q (o :: rest) a w := by
  obtain ⟨i0, hi, hz0, hz1, hz2⟩ := info_parts info_int
  refine wpList_append_own_at _ hgd s x 54 ho base 3 i0 (.int .i64 0) 1 8 Tryz.underlying54 hi hz0 hz1 hz2 rfl (by decide) v xs.length (xs.map (Value.int .i64)) hs hown
    ⟨g, 0, none⟩ n cap (ys.map (Value.int .i64)) hx (by simp [hl]) ?_ ?_ ?_ ?_ ?_ ?_
  · intro j u hj
    rw [List.getElem?_map] at hj
    rcases Nat.lt_or_ge j ys.length with hjl | hjl
    · rw [List.getElem?_eq_getElem hjl] at hj
      simp at hj
      subst hj
      have e := iy.2 j hjl
      rw [List.getD_eq_getElem?_getD, List.getElem?_eq_getElem hjl] at e
      rw [show (⟨g, 0, none⟩ : Addr).add j = ⟨g, j, none⟩ from by simp [Addr.add]; omega]
      simpa using e
    · rw [List.getElem?_eq_none hjl] at hj
      cases hj
  · intro u hu
    obtain ⟨z, _, rfl⟩ := List.mem_map.1 hu
    rfl
  · unfold maxLen; omega
  · omega
  · exact hbase
  · intro v' w' h1 h2 h3 h4
    refine h v' w' ?_ ((Below.refl _ _).grown h2 hbase (fun k hk => (World.ownsRow.lt hown k hk).1))
    show World.ownsRow _ _ _ _ _ _ _
    rw [List.length_append, hl]
    simpa using h1

/-- the sum of the first products -/
def scI (xs ys : List Int) (o k : Nat) : Int := sumI (fun i => xs.getD i 0 * ys.getD (o + i) 0) k

theorem scI_bounds (xs ys : List Int) (o k : Nat) (hx : ∀ i, 0 ≤ xs.getD i 0 ∧ xs.getD i 0 ≤ 65536) (hy : ∀ i, 0 ≤ ys.getD i 0 ∧ ys.getD i 0 ≤ 65536) : 0 ≤ scI xs ys o k ∧ scI xs ys o k ≤ k * 4294967296 :=
  sumI_bounds _ 4294967296 (fun i => ⟨Int.mul_nonneg (hx i).1 (hy (o + i)).1, Int.le_trans (Int.mul_le_mul (hx i).2 (hy (o + i)).2 (hy (o + i)).1 (by omega)) (by decide)⟩) k

set_option maxHeartbeats 2000000 in
theorem scalar_calls (n o : Nat) (xs ys : List Int) (ga gb ca cb : Nat) (w : World) (hn : n ≤ 16) (hla : xs.length = n) (hlb : o + n ≤ ys.length) (hx : ∀ i, 0 ≤ xs.getD i 0 ∧ xs.getD i 0 ≤ 65536) (hy : ∀ i, 0 ≤ ys.getD i 0 ∧ ys.getD i 0 ≤ 65536) (ia : IsI w ga xs) (ib : IsI w gb ys) :
    Calls Tryz.prog 162 #[.slice (some ⟨ga, 0, none⟩) n ca, .slice (some ⟨gb, o, none⟩) n cb] w fun e w' => e = .returned (.int .i64 (scI xs ys o n)) ∧ Up w w' := by
  have HX : Hid _ := hx
  have HY : Hid _ := hy
  have HLA : Hid _ := hla
  have HS : Hid (∀ k, scI xs ys o (k + 1) = scI xs ys o k + xs.getD k 0 * ys.getD (o + k) 0) := fun k => rfl
  have HSB : Hid (∀ k, 0 ≤ scI xs ys o k ∧ scI xs ys o k ≤ k * 4294967296) := fun k => scI_bounds xs ys o k HX.out HY.out
  have HS0 : Hid (scI xs ys o 0 = 0) := rfl
  generalize scI xs ys o = F at HS HSB HS0
  clear hx hy hla
  go_enter Tryz.func162, Tryz.ntmps162
  go_wp2_with fail
  go_loopw [5, 15] (fun v j wr => ∃ (k : Nat) (S : Int), k ≤ n ∧ j = .int .i64 (k : Int) ∧ v = .int .i64 S ∧ Hid (S = F k) ∧ Up w wr) (fun _ j _ => n - (intOf j).toNat)
  case atStart => exact ⟨0, 0, Nat.zero_le _, rfl, rfl, HS0.out.symm, Up.refl _⟩
  case round =>
    obtain ⟨k, S, hk, rfl, rfl, HE, hu⟩ := hrel
    by_cases hlt : k < n
    · have hca := (ia.up hu).2 k (by rw [HLA.out]; omega)
      have hcb := (ib.up hu).2 (o + k) (by omega)
      have hbx := HX.out k
      have hby := HY.out (o + k)
      have hSk := HSB.out k
      have hSk2 := HSB.out (k + 1)
      have HN : Hid _ := HS.out k
      rw [← HE.out] at hSk HN
      rw [HN.out] at hSk2
      generalize xs.getD k 0 = x at hca hbx HN hSk2
      generalize ys.getD (o + k) 0 = y at hcb hby HN hSk2
      have hxy : 0 ≤ x * y := Int.mul_nonneg hbx.1 hby.1
      have hxy2 : x * y ≤ 65536 * 65536 := Int.mul_le_mul hbx.2 hby.2 hby.1 (by omega)
      have e1 : IntKind.i64.wrap (x * y) = x * y := IntWalk.i64_in _ (by omega)
      have e2 : IntKind.i64.wrap (S + x * y) = S + x * y := IntWalk.i64_in _ (by omega)
      have hi0 : (0 : Int) ≤ (k : Int) := by omega
      have hi1 : (k : Int) < (n : Int) := by omega
      go_wp2_with fail
      go_roundw
      case rel => exact ⟨k + 1, S + x * y, by omega, by go_num, rfl, HN.out.symm, hu⟩
      case measure => simp [intOf]; omega
    · obtain rfl : k = n := by omega
      go_wp2_with fail
      go_ret
      exact ⟨ret_int HE.out, hu⟩

/-- a matrix times both rows -/
def tmC (d : Nat) (t : Int) (M : Nat → List Int) (vs : List Int) (i : Nat) : Int := scI (M (i % d)) vs (i / d * d) d % t

theorem two_rows (d r k : Nat) (hd : 0 < d) (hk : k < d) : (r * d + k) % d = k ∧ (r * d + k) / d * d = r * d := by
  constructor
  · rw [Nat.mul_comm, Nat.mul_add_mod, Nat.mod_eq_of_lt hk]
  · rw [Nat.mul_comm r d, Nat.mul_add_div hd, Nat.div_eq_of_lt hk, Nat.add_zero, Nat.mul_comm]

set_option maxHeartbeats 8000000 in
theorem times_calls (n d H cap : Nat) (gs caps : Nat → Nat) (M : Nat → List Int) (t : Int) (vs : List Int) (gv cv : Nat) (w : World) (hnd : n = 2 * d) (hd1 : 1 ≤ d) (hd8 : d ≤ 8) (ht : 1 ≤ t) (ht2 : t ≤ 1021) (hml : ∀ k, k < d → (M k).length = d) (hmb : ∀ k i, 0 ≤ (M k).getD i 0 ∧ (M k).getD i 0 ≤ 65536) (hvl : vs.length = n) (hvb : ∀ i, 0 ≤ vs.getD i 0 ∧ vs.getD i 0 ≤ 65536) (hR : RowsAt w H d d gs caps M) (iv : IsI w gv vs) (hcv : n ≤ cv) :
    Calls Tryz.prog 138 #[.slice (some ⟨H, 0, none⟩) d cap, .slice (some ⟨gv, 0, none⟩) n cv, .int .i64 t] w fun e w' => ∃ v, e = .returned v ∧ OwnI w' w.heap.size v ((List.range n).map (tmC d t M vs)) ∧ Up w w' := by
  have e1 : IntKind.i64.wrap (2 * (d : Int)) = 2 * (d : Int) := IntWalk.i64_in _ (by omega)
  have hne : ((n : Int) != 2 * (d : Int)) = false := by rw [bne_eq_false_iff_eq]; omega
  have HND : Hid _ := hnd
  have HML : Hid _ := hml
  have HMB : Hid _ := hmb
  have HVL : Hid _ := hvl
  have HVB : Hid _ := hvb
  have HRR : Hid _ := hR
  have hs0 : (0 : Int) ≤ (d : Int) := by omega
  have hs1 : (d : Int) ≤ (cv : Int) := by omega
  have hs2 : (d : Int) ≤ (n : Int) := by omega
  have hs3 : (n : Int) ≤ (cv : Int) := by omega
  have hs4 : ((n : Int) - (d : Int)).toNat = d := by omega
  have hs5 : n - d = d := by omega
  have hn16 : n ≤ 16 := by omega
  have ed1 : ¬ t = 0 := by omega
  have ed0 : (t == 0) = false := beq_eq_false_iff_ne.2 ed1
  clear hml hmb hvl hvb hR hnd
  go_enter Tryz.func138, Tryz.ntmps138
  go_wp2_with fail
  go_region_held3 (fun w' => True) (first | go_keep | trivial) (fail)
  have HF : Hid (∀ r k, r < 2 → k < d → (List.range (r * d + k + 1)).map (tmC d t M vs) = (List.range (r * d + k)).map (tmC d t M vs) ++ [scI (M k) vs (r * d) d % t]) := fun r k _ hk => by
    rw [map_range_succ]
    show _ ++ [scI (M ((r * d + k) % d)) vs ((r * d + k) / d * d) d % t] = _
    rw [(two_rows d r k (by omega) hk).1, (two_rows d r k (by omega) hk).2]
  have HSb : Hid (∀ k o, 0 ≤ scI (M k) vs o d) := fun k o => (scI_bounds (M k) vs o d (HMB.out k) HVB.out).1
  have HSc : Hid (∀ (k o ck cr : Nat) W, k < d → o + d ≤ n → IsI W (gs k) (M k) → IsI W gv vs → Calls Tryz.prog 162 #[.slice (some ⟨gs k, 0, none⟩) d ck, .slice (some ⟨gv, o, none⟩) d cr] W fun e w' => e = .returned (.int .i64 (scI (M k) vs o d)) ∧ Up W w') := fun k o ck cr W hk ho h1 h2 => scalar_calls d o (M k) vs (gs k) gv ck cr W (by omega) (HML.out k hk) (by rw [HVL.out]; exact ho) (HMB.out k) HVB.out h1 h2
  generalize hFe : tmC d t M vs = F at HF
  have HFe : Hid _ := hFe
  clear hFe
  obtain ⟨W1, hW1⟩ : ∃ W, W = (w.alloc (.cells #[.slice (some ⟨gv, 0, none⟩) d cv, .slice (some ⟨gv, d, none⟩) d (cv - d)] 54)).drew := ⟨_, rfl⟩
  have huW : Up w W1 := by rw [hW1]; exact Up.drew ((Up.refl _).alloc _)
  have HC0 : Hid (W1.cell? ⟨w.heap.size, 0, none⟩ = some (.slice (some ⟨gv, 0, none⟩) d cv)) := show W1.cell? ⟨w.heap.size, 0, none⟩ = some (.slice (some ⟨gv, 0, none⟩) d cv) from by rw [hW1]; simp
  have HC1 : Hid (W1.cell? ⟨w.heap.size, 1, none⟩ = some (.slice (some ⟨gv, d, none⟩) d (cv - d))) := show W1.cell? ⟨w.heap.size, 1, none⟩ = some (.slice (some ⟨gv, d, none⟩) d (cv - d)) from by rw [hW1]; simp
  go_wp2_with fail
  rw [← hW1]
  clear hW1
  go_loopw [8, 33] (fun v j wr => ∃ (r i : Nat), r ≤ 2 ∧ Hid (i = r * d) ∧ j = .int .i64 (r : Int) ∧ OwnI wr W1.heap.size v ((List.range i).map F) ∧ Up W1 wr) (fun _ j _ => 2 - (intOf j).toNat)
  case atStart => exact ⟨0, 0, Nat.zero_le _, (Nat.zero_mul _).symm, rfl, World.ownsRow_nil _ _ _ _, Up.refl _⟩
  case round =>
    obtain ⟨r, i, hr, HI, rfl, hown, hu⟩ := hrel
    by_cases hlt : r < 2
    · have hch : ∃ cr, wr.cell? ⟨w.heap.size, r, none⟩ = some (.slice (some ⟨gv, i, none⟩) d cr) := by
        rcases (show r = 0 ∨ r = 1 by omega) with rfl | rfl
        · have := keepC hu HC0.out
          exact ⟨cv, by rw [HI.out, Nat.zero_mul]; exact this⟩
        · have := keepC hu HC1.out
          exact ⟨cv - d, by rw [HI.out, Nat.one_mul]; exact this⟩
      obtain ⟨cr, hch⟩ := hch
      have hi2 : i + d ≤ n := by
        rw [HI.out, HND.out]
        rcases (show r = 0 ∨ r = 1 by omega) with rfl | rfl <;> omega
      have HFr : Hid (∀ k, k < d → (List.range (i + k + 1)).map F = (List.range (i + k)).map F ++ [scI (M k) vs i d % t]) := fun k hk => by
        have := HF.out r k hlt hk
        rw [← HI.out] at this
        exact this
      have hr0 : (0 : Int) ≤ (r : Int) := by omega
      have hr1 : (r : Int) < 2 := by omega
      have hrd : decide ((r : Int) < 2) = true := by simpa using hr1
      go_wp2_with fail
      try rw [hrd]
      go_loopw [8, 39] (fun v j wx => ∃ k : Nat, k ≤ d ∧ j = .int .i64 (k : Int) ∧ OwnI wx W1.heap.size v ((List.range (i + k)).map F) ∧ Up W1 wx) (fun _ j _ => d - (intOf j).toNat)
      case atStart => exact ⟨0, Nat.zero_le _, rfl, hown, hu⟩
      case round =>
        clear hown hch
        obtain ⟨k, hk, rfl, hown, hux⟩ := hrel
        by_cases hkd : k < d
        · have hx1 := huW.trans hux
          have hch := (HRR.out.up hx1).head k hkd
          have hrow := (HRR.out.up hx1).row k hkd
          have HSk : Hid _ := fun W => HSc.out k i (caps k) cr W hkd hi2
          have hs := HSb.out k i
          have HFk : Hid _ := HFr.out k hkd
          generalize scI (M k) vs i d = S at HSk hs HFk
          have em : S.tmod t = S % t := Int.tmod_eq_emod_of_nonneg hs
          generalize gs k = gk at hch hrow HSk
          generalize caps k = ck at hch HSk
          generalize M k = Mk at hrow HSk
          have hk0 : (0 : Int) ≤ (k : Int) := by omega
          have hk1 : (k : Int) < (d : Int) := by omega
          go_wp2_with fail
          refine Calls.mono (HSk.out _ hrow (iv.up hx1)) ?_
          rintro e w3 ⟨rfl, hu3⟩
          have hown3 := hown.up hu3
          have hsz3 : W1.heap.size ≤ w3.heap.size := (hux.trans hu3).size
          clear hown hch
          go_wp2_with (at_builtin; refine append_int _ _ rfl (.tmp 46) (.tmp 50) rfl _ _ _ rfl hown3 rfl (by simp; omega) hsz3 ?_)
          intro v4 w4 hown4 hg4 hb4 _
          clear hown3
          go_wp2_with fail
          go_roundw
          case rel => exact ⟨k + 1, by omega, by go_num, by rw [← Nat.add_assoc, HFk.out]; exact hown4, Below.trans (hux.trans hu3) hb4⟩
          case measure => simp [intOf]; omega
        · obtain rfl : k = d := by omega
          go_wp2_with fail
          go_roundw
          case rel => exact ⟨r + 1, i + k, by omega, by show _ = _; rw [HI.out, Nat.succ_mul], by go_num, hown, hux⟩
          case measure => simp [intOf]; omega
    · obtain rfl : r = 2 := by omega
      have ein : i = n := by rw [HI.out, HND.out]
      subst ein
      go_wp2_with fail
      go_ret
      exact ⟨_, rfl, by rw [HFe.out]; exact hown.base huW.size, huW.trans hu⟩

set_option maxHeartbeats 8000000 in
theorem diag_calls (d H cap i : Nat) (gs caps : Nat → Nat) (M : Nat → List Int) (w : World) (hd1 : 2 ≤ d) (hd8 : d ≤ 8) (hi : i ≤ 16) (hml : ∀ k, k < d → (M k).length = d) (hR : RowsAt w H d d gs caps M) :
    Calls Tryz.prog 135 #[.slice (some ⟨H, 0, none⟩) d cap, .int .i64 i] w fun e w' => ∃ g c, e = .returned (.slice (some ⟨g, 0, none⟩) (2 * d) c) ∧ IsI w' g ((List.range d).map (fun j => (M j).getD ((j + i) % d) 0) ++ (List.range d).map (fun j => (M j).getD ((j + i) % d) 0)) ∧ Up w w' := by
  have HML : Hid _ := hml
  have HRR : Hid _ := hR
  have HS : Hid (∀ k, (List.range (k + 1)).map (fun j => (M j).getD ((j + i) % d) 0) = (List.range k).map (fun j => (M j).getD ((j + i) % d) 0) ++ [(M k).getD ((k + i) % d) 0]) := fun k => map_range_succ _ _
  have HSl : Hid (∀ k, ((List.range k).map (fun j => (M j).getD ((j + i) % d) 0)).length = k) := fun k => by simp
  generalize (fun j => (M j).getD ((j + i) % d) 0) = F at HS HSl
  have ed1 : ¬ (d : Int) = 0 := by omega
  have ed2 : ¬ d = 0 := by omega
  have ed0 : ((d : Int) == 0) = false := beq_eq_false_iff_ne.2 ed1
  clear hml hR
  go_enter Tryz.func135, Tryz.ntmps135
  go_wp2_with fail
  go_loopw [5, 12] (fun v j wr => ∃ k : Nat, k ≤ d ∧ j = .int .i64 (k : Int) ∧ OwnI wr w.heap.size v ((List.range k).map F) ∧ Up w wr) (fun _ j _ => d - (intOf j).toNat)
  case atStart => exact ⟨0, Nat.zero_le _, rfl, World.ownsRow_nil _ _ _ _, Up.refl _⟩
  case round =>
    obtain ⟨k, hk, rfl, hown, hu⟩ := hrel
    by_cases hlt : k < d
    · have hm1 : (k + i) % d < d := Nat.mod_lt _ (by omega)
      have hch := (HRR.out.up hu).head k hlt
      have hcr := ((HRR.out.up hu).row k hlt).2 ((k + i) % d) (by rw [HML.out k hlt]; exact hm1)
      have e0 : IntKind.i64.wrap ((k : Int) + (i : Int)) = (k : Int) + (i : Int) := IntWalk.i64_in _ (by omega)
      have e1 : ((k : Int) + (i : Int)).tmod (d : Int) = (((k + i) % d : Nat) : Int) := by rw [Int.tmod_eq_emod_of_nonneg (by omega), Int.natCast_emod, Int.natCast_add]
      have HSk : Hid _ := HS.out k
      generalize (k + i) % d = m at e1 hm1 hcr HSk
      generalize (M k).getD m 0 = x at hcr HSk
      generalize gs k = gk at hch hcr
      generalize caps k = ck at hch
      have hk0 : (0 : Int) ≤ (k : Int) := by omega
      have hk1 : (k : Int) < (d : Int) := by omega
      have hm0 : (0 : Int) ≤ (m : Int) := by omega
      have hm2 : (m : Int) < (d : Int) := by omega
      go_wp2_with (at_builtin; refine append_int _ _ rfl (.tmp 31) (.tmp 36) rfl _ _ _ rfl hown rfl (by rw [HSl.out]; omega) hu.size ?_)
      intro v4 w4 hown4 hg4 hb4 _
      clear hown hch hcr
      go_wp2_with fail
      go_roundw
      case rel => exact ⟨k + 1, by omega, by go_num, by rw [HSk.out]; exact hown4, Below.trans hu hb4⟩
      case measure => simp [intOf]; omega
    · obtain rfl : k = d := by omega
      obtain ⟨g, c, rfl, _, ir⟩ := hown.is (ne_nil_of_length (HSl.out k) (by omega))
      rw [HSl.out]
      clear hown
      go_wp2_with (at_builtin; refine append_copy _ rfl (.tmp 39) (.tmp 40) rfl rfl g c k _ (HSl.out k) rfl ir (by omega) ?_)
      intro v5 w5 ho5 hu5
      have ir5 := ir.up hu5
      have ho5b := ho5.base (base' := w.heap.size) hu.size
      have hsz5 : w.heap.size ≤ w5.heap.size := (hu.trans hu5).size
      go_wp2_with (at_builtin; refine append_list _ rfl (.tmp 42) (.tmp 43) rfl _ _ _ rfl ho5b g c k _ (HSl.out k) rfl ir5 (by rw [HSl.out]; omega) (by omega) hsz5 ?_)
      intro v6 w6 ho6 hb6
      obtain ⟨g6, c6, rfl, _, i6⟩ := ho6.is (ne_nil_of_length (n := 2 * k) (by rw [List.length_append, HSl.out]; omega) (by omega))
      have e6 : ((List.range k).map F ++ (List.range k).map F).length = 2 * k := by rw [List.length_append, HSl.out]; omega
      rw [e6]
      go_wp2_with fail
      go_ret
      exact ⟨g6, c6, rfl, i6, Below.trans (hu.trans hu5) hb6⟩

end Go.Proofs.YtcjhgbljhpflfabGreat
