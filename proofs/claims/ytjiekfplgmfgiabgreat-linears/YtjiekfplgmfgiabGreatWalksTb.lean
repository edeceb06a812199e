/-
  Walks: the reference's Turn, where it goes through.
-/
import Derived.Test.YtjiekfplgmfgiabGreatWalksTa
import Derived.OwnWalk
namespace Go.Proofs.YtjiekfplgmfgiabGreat
open Go.RowKit
set_option linter.unusedVariables false
set_option maxRecDepth 100000

theorem OwnI.keepB {w w' : World} {base B g n c : Nat} {xs : List Int} (h : OwnI w base (.slice (some ⟨g, 0, none⟩) n c) xs) (hb : Below B w w') (hg : g < B) : OwnI w' base (.slice (some ⟨g, 0, none⟩) n c) xs := by
  refine ⟨h.1, ?_⟩
  rcases h.2 with h2 | ⟨g', cap, cur, h3, h4, h5, h6⟩
  · exact Or.inl h2
  · have e : g' = g := by injection h3 with h3; injection h3 with h3; injection h3 with h3; exact h3.symm
    exact Or.inr ⟨g', cap, cur, h3, h4, by rw [hb.block g' (by omega)]; exact h5, h6⟩

theorem IsI.keepB {w w' : World} {B g : Nat} {xs : List Int} (h : IsI w g xs) (hb : Below B w w') (hg : g < B) : IsI w' g xs :=
  ⟨Nat.lt_of_lt_of_le h.1 hb.size, fun i hi => (hb.cell (p := ⟨g, i, none⟩) hg).trans (h.2 i hi)⟩

theorem IsI.setOther {W : World} {g r : Nat} {xs : List Int} (h : IsI W g xs) (hne : g ≠ r) (o : Nat) (v : Value) : IsI (W.setCell ⟨r, o, none⟩ v) g xs := by
  refine ⟨by have := h.1; simpa using this, fun i hi => ?_⟩
  rw [World.cell?_setCell_far W ⟨r, o, none⟩ ⟨g, i, none⟩ v (fun c => hne c.symm)]
  exact h.2 i hi

theorem made_zero {w : World} {base g n : Nat} (h : w.ownsRow base 3 1 (.slice (some ⟨g, 0, none⟩) n n) n (madeCells #[Value.int .i64 0] n).toList) : OwnI w base (.slice (some ⟨g, 0, none⟩) n n) ((List.range n).map fun _ => 0) := by
  have e : ((List.range n).map fun _ => (0 : Int)).map (Value.int .i64) = (madeCells #[Value.int .i64 0] n).toList := by
    apply List.ext_getElem
    · simp [size_madeCells]
    · intro i h1 h2
      simp [madeCells, Nat.mod_one]
  unfold OwnI
  rw [e]
  simpa using h

theorem Up.madeN {w w' : World} (hg : w.grownBy w' none) : Up w w' := (Below.refl _ _).grown hg (Nat.le_refl _) (fun k hk => by cases hk)

set_option maxHeartbeats 8000000 in
theorem refTurn_ok (n t L : Nat) (q b : Int) (x y : ByteArray) (w : World) (hx : x.size ≤ maxLen) (hy : y.size ≤ maxLen) (g : NT n t) (hq : 2 ≤ q) (hq2 : q ≤ 1073741823) (hb : 1 ≤ b) (hb2 : b ≤ 8) (hL : DigOf q b L) (hg : goodB n t q b = true) (h0 : ctB x.data.toList n t q = true) (h1 : tnB y.data.toList (2 * n * L) q = true) :
    Calls Tryz.prog 26 #[.agg #[.int .i64 n, .int .i64 t, .int .i64 q, .int .i64 b], .string x, .string y] w fun e w' => e = .returned (.tuple #[.string ⟨(turnL n t q b L x.data.toList y.data.toList).1.toArray⟩, .int .i64 (turnL n t q b L x.data.toList y.data.toList).2]) ∧ Up w w' := by
  have ht := g.t3
  have ht2 := g.ht
  have HN : Hid _ := g.hn
  obtain ⟨hd1, hd2, hd3⟩ := g.half
  have hL30 := hL.le hb hq2
  have HLo : Hid _ := hL.low
  have HTop : Hid _ := hL.top
  have HTn : Hid (∀ W, Calls Tryz.prog 23 #[.agg #[.int .i64 n, .int .i64 t, .int .i64 q, .int .i64 b], .string y] W fun e w' => e = .returned (.bool true) ∧ Up W w') := fun W => by
    rw [← h1]
    exact Turner_calls n L t q b y W hy (by omega) hq hq2 hb hb2 hL
  have HPo : Hid (∀ k, k < 2 * L → ∀ W, Calls Tryz.prog 63 #[.agg #[.int .i64 n, .int .i64 t, .int .i64 q, .int .i64 b], .string y, .int .i64 (k : Int)] W fun e w' => ∃ g c, e = .returned (.slice (some ⟨g, 0, none⟩) n c) ∧ OwnI w' W.heap.size (.slice (some ⟨g, 0, none⟩) n c) (tkP y.data.toList n k) ∧ Up W w') := fun k hk W => by
    have hm : 2 * n * L ≤ 2 * 16 * 30 := Nat.mul_le_mul (Nat.mul_le_mul (Nat.le_refl _) (by omega)) hL30
    exact pairOf_calls n (2 * n * L) k t q b y W hy (by omega) (by omega) (by omega) h1 (by rw [show 2 * n * L = n * (2 * L) by rw [Nat.mul_comm 2 n, Nat.mul_assoc]]; exact Nat.mul_le_mul_left _ hk)
  have HPb : Hid (∀ k, k < 2 * L → Bnd (tkP y.data.toList n k) 1073741824) := fun k hk => by
    refine bnd_of _ n q _ (tkP_length _ _ _) (by omega) (by omega) (tkP_bounds _ n k (2 * n * L) q h1 (by rw [show 2 * n * L = n * (2 * L) by rw [Nat.mul_comm 2 n, Nat.mul_assoc]]; exact Nat.mul_le_mul_left _ hk))
  obtain ⟨hp1, hp2, hp3⟩ := pow_b b hb hb2
  have HRa : Hid (∀ W, Calls Tryz.prog 60 #[.int .i64 2, .int .i64 b, .int .i64 1048576] W fun e w' => e = .returned (.int .i64 ((2 : Int) ^ b.toNat)) ∧ w' = W) := fun W => by
    have := raised_calls 2 b 1048576 W (by omega) (by omega) (by omega) (by omega) (by omega) (by omega)
    rw [hp1] at this
    exact this
  have hE0 := ctE_lt _ _ _ _ (by omega) (by omega) h0
  have HX0 : Hid _ := ct0_bnd x.data.toList n t q h0 hq2 4294967296 (by omega)
  have HX1 : Hid _ := ct1_bnd x.data.toList n t q h0 hq2 4294967296 (by omega)
  have L0 : Hid _ := ct0_length x.data.toList n
  have L1 : Hid _ := ct1_length x.data.toList n
  have HA : Hid (turnL n t q b L x.data.toList y.data.toList = tellL t q (ctE x.data.toList + (q % (t : Int)).toNat + L * n * ((2 : Int) ^ b.toNat - 1).toNat * 2) (turn0 n q (2 ^ b.toNat) (cubI n (ct0 x.data.toList n) q) (cubI n (ct1 x.data.toList n) q) y.data.toList L) (turn1 n q (2 ^ b.toNat) (cubI n (ct1 x.data.toList n) q) y.data.toList L)) := rfl
  generalize turnL n t q b L x.data.toList y.data.toList = ans at HA
  generalize (2 : Int) ^ b.toNat = B at HRa HA hp1 hp2 hp3
  clear hp1 h1
  go_enter Tryz.func26, Tryz.ntmps26
  go_wp2_with fail
  refine (refGood_calls _ _ _ _ _).mono ?_
  rintro e w1 ⟨rfl, hu1⟩
  obtain ⟨hc, hf⟩ := bcell hu1
  go_wp2_with fail
  refine (Read_ok n t q b x _ hx (by omega) (by omega) (by omega) (by omega) (by omega) hq2 h0).mono ?_
  rintro e w2 ⟨g0, c0, g1, c1, rfl, ho0, ho1, hu2⟩
  have i0 := ho0.isI
  have i1 := ho1.isI
  clear hc hf ho0 ho1
  generalize ct0 x.data.toList n = A0 at i0 HX0 HA L0
  generalize ct1 x.data.toList n = A1 at i1 HX1 HA L1
  generalize ctE x.data.toList = E0 at hE0 HA ⊢
  obtain ⟨W2, hW2⟩ : ∃ W, W = w2.alloc (.cells #[.int .i64 E0, .slice (some ⟨g0, 0, none⟩) n c0, .slice (some ⟨g1, 0, none⟩) n c1] 59) := ⟨_, rfl⟩
  have huA : Up w2 W2 := by rw [hW2]; exact (Up.refl _).alloc _
  have KE : Hid (W2.cell? ⟨w2.heap.size, 0, none⟩ = some (.int .i64 E0)) := show _ = _ by rw [hW2]; simp
  have KC0 : Hid (W2.cell? ⟨w2.heap.size, 1, none⟩ = some (.slice (some ⟨g0, 0, none⟩) n c0)) := show _ = _ by rw [hW2]; simp
  have KC1 : Hid (W2.cell? ⟨w2.heap.size, 2, none⟩ = some (.slice (some ⟨g1, 0, none⟩) n c1)) := show _ = _ by rw [hW2]; simp
  have hu12 := (hu1.trans hu2).trans huA
  obtain ⟨hc, hf⟩ := bcell hu12
  have KP0 : Hid (W2.cell? ⟨w.heap.size, 0, none⟩ = some (.int .i64 n)) := show _ = _ by rw [hc _ _ (by simp)]; simp
  have KP1 : Hid (W2.cell? ⟨w.heap.size, 1, none⟩ = some (.int .i64 t)) := show _ = _ by rw [hc _ _ (by simp)]; simp
  have KP2 : Hid (W2.cell? ⟨w.heap.size, 2, none⟩ = some (.int .i64 q)) := show _ = _ by rw [hc _ _ (by simp)]; simp
  have KP3 : Hid (W2.cell? ⟨w.heap.size, 3, none⟩ = some (.int .i64 b)) := show _ = _ by rw [hc _ _ (by simp)]; simp
  subst hW2
  go_wp2_with fail
  refine Calls.mono (HTn.out _) ?_
  rintro e w3 ⟨rfl, hu3⟩
  clear hc hf
  have hc3 := keepU hu3 KP3.out
  go_wp2_with fail
  refine Calls.mono (HRa.out _) ?_
  rintro e w3' ⟨rfl, rfl⟩
  have hc0 := keepU hu3 KP0.out
  have hc1 := keepU hu3 KP1.out
  have hc2 := keepU hu3 KP2.out
  go_wp2_with fail
  refine (Digits_calls L _ _ _ _ _ hq hq2 hb hb2 HTop.out HLo.out).mono ?_
  rintro e w4 ⟨rfl, hu4⟩
  have hu34 := hu3.trans hu4
  clear hc0 hc1 hc2 hc3
  have hc2 := keepU hu34 KP2.out
  have hx1 := keepU hu34 KC0.out
  go_wp2_with fail
  refine (Cubed_calls n A0 g0 c0 q _ HN.out L0.out (by omega) hq2 HX0.out (i0.up (huA.trans hu34))).mono ?_
  rintro e w5 ⟨v5, rfl, ho5, hu5⟩
  obtain ⟨a0, k0, rfl, _, ia0⟩ := ho5.is (ne_nil_of_length (cubI_length _ _ _) (by omega))
  rw [cubI_length]
  have hu35 := hu34.trans hu5
  clear hc2 hx1 ho5
  have hc0 := keepU hu35 KP0.out
  obtain ⟨z0, hi0, hz0, hz1, hz2⟩ := info_parts info_int
  go_wp2_with (at_make; refine wpList_make_full _ rfl _ _ 39 rfl w5.heap.size 3 z0 (.int .i64 0) 1 Tryz.underlying39 hi0 hz0 hz1 .i64 .i64 _ _ n rfl rfl rfl rfl (by rw [hz2]; omega) (by unfold maxLen; omega) (Nat.le_refl _) ?_)
  intro wk hown6 hg6
  have ia1 := (made_zero hown6).isI
  have hu6 := Up.madeN hg6
  have hu36 := hu35.trans hu6
  clear hown6 hg6 hc0
  have hc2 := keepU hu36 KP2.out
  have hx2 := keepU hu36 KC1.out
  go_wp2_with fail
  refine (Cubed_calls n A1 g1 c1 q _ HN.out L1.out (by omega) hq2 HX1.out (i1.up (huA.trans hu36))).mono ?_
  rintro e w7 ⟨v7, rfl, ho7, hu7⟩
  obtain ⟨gr, cr, rfl, hgr, _⟩ := ho7.is (ne_nil_of_length (cubI_length _ _ _) (by omega))
  rw [cubI_length] at ho7 ⊢
  have HXb : Hid _ := cubI_bounds n A1 q (by omega)
  have HXL : Hid _ := cubI_length n A1 q
  have HCb : Hid _ := cubI_bounds n A0 q (by omega)
  have HCL : Hid _ := cubI_length n A0 q
  generalize cubI n A0 q = C0 at ia0 HA HCb HCL
  generalize cubI n A1 q = X at ho7 HA HXb HXL
  clear hc2 hx2
  have hn0 : a0 ≠ gr := by have := (ia0.up hu6).1; omega
  have hn1 : w5.heap.size ≠ gr := by have := ia1.1; omega
  have ia0' := (ia0.up hu6).up hu7
  have ia1' := ia1.up hu7
  clear ia0 ia1
  have HR0 : Hid ((List.range n).map (restC X B 0) = X) := show _ = _ by
    rw [← HXL.out]
    refine Eq.trans ?_ (show (List.range X.length).map (fun i => X.getD i 0) = X from by
      apply List.ext_getElem
      · simp
      · intro i h1 h2
        simp [List.getD_eq_getElem?_getD, List.getElem?_eq_getElem h2])
    refine List.map_congr_left fun i _ => ?_
    simp [restC]
  rw [← HR0.out] at ho7
  go_wp2_with fail
  go_loopw [14, 15, 17] (fun s0 s1 si wr => ∃ (i b0 l0 b1 l1 : Nat), i ≤ L ∧ si = .int .i64 (i : Int) ∧ s0 = .slice (some ⟨b0, 0, none⟩) n l0 ∧ s1 = .slice (some ⟨b1, 0, none⟩) n l1 ∧ IsI wr b0 (turn0 n q B C0 X y.data.toList i) ∧ b0 ≠ gr ∧ IsI wr b1 (turn1 n q B X y.data.toList i) ∧ b1 ≠ gr ∧ OwnI wr wk.heap.size (.slice (some ⟨gr, 0, none⟩) n cr) ((List.range n).map (restC X B i)) ∧ Up wk wr) (fun _ _ si _ => L - (intOf si).toNat)
  case atStart => exact ⟨0, a0, k0, w5.heap.size, n, Nat.zero_le _, rfl, rfl, rfl, ia0', hn0, ia1', hn1, ho7, hu7⟩
  case round =>
    obtain ⟨i, b0, l0, b1, l1, hi, rfl, rfl, rfl, jb0, hb0, jb1, hb1, hor, hur⟩ := hrel
    by_cases hiL : i < L
    · obtain ⟨S, hS⟩ : ∃ S, S = wr.heap.size := ⟨_, rfl⟩
      have hgr2 : gr < S := by rw [hS]; exact (hor.lt gr rfl).2
      have hlt0 : b0 < S := by rw [hS]; exact jb0.1
      have hlt1 : b1 < S := by rw [hS]; exact jb1.1
      have hSk : wk.heap.size ≤ S := by rw [hS]; exact hur.size
      have HSw : Hid (S ≤ wr.heap.size) := show _ ≤ _ by rw [hS]; exact Nat.le_refl _
      clear hS
      go_wp2_with fail
      go_loopw [18, 19] (fun sd sj wx => ∃ j : Nat, j ≤ n ∧ sj = .int .i64 (j : Int) ∧ OwnI wx S sd ((List.range j).map (digC X B i)) ∧ OwnI wx wk.heap.size (.slice (some ⟨gr, 0, none⟩) n cr) ((List.range n).map fun k => if k < j then restC X B (i + 1) k else restC X B i k) ∧ IsI wx b0 (turn0 n q B C0 X y.data.toList i) ∧ IsI wx b1 (turn1 n q B X y.data.toList i) ∧ Up wk wx ∧ S ≤ wx.heap.size) (fun _ sj _ => n - (intOf sj).toNat)
      case atStart => exact ⟨0, Nat.zero_le _, rfl, World.ownsRow_nil _ _ _ _, by simpa using hor, jb0, jb1, hur, HSw.out⟩
      case round =>
        obtain ⟨j, hj, rfl, hod, hox, jx0, jx1, hux, hsx⟩ := hrel
        have hu3x := hu36.trans hux
        have hc0 := keepU hu3x KP0.out
        by_cases hjn : j < n
        · obtain ⟨hck, hfk⟩ := hox.cellAt j hjn
          rw [if_neg (Nat.lt_irrefl j)] at hck
          have hXj := HXb.out j hjn
          have hr0 : 0 ≤ restC X B i j := Int.ediv_nonneg hXj.1 (Int.le_of_lt (Int.pow_pos (by omega)))
          have hr1 : restC X B i j ≤ 1073741823 := by
            have : restC X B i j ≤ X.getD j 0 := Int.ediv_le_self _ hXj.1
            omega
          have HRn : Hid _ := rest_next X B i j (by omega)
          have HRd : Hid ((List.range (j + 1)).map (digC X B i) = (List.range j).map (digC X B i) ++ [restC X B i j % B]) := map_range_succ _ _
          have HST : Hid _ := HRn
          generalize hrr : restC X B i j = r at hck hr0 hr1 HRn HRd
          have HRR : Hid _ := hrr
          clear hrr hXj
          have hq1 : 0 ≤ r / B := Int.ediv_nonneg hr0 (by omega)
          have hq2' : r / B ≤ r := Int.ediv_le_self _ hr0
          go_wp2_with (at_builtin; refine append_int _ _ rfl (.tmp 69) (.tmp 76) rfl _ _ _ rfl hod rfl (by simp; omega) hsx ?_)
          intro v4 w4' hod4 hg4 hb4 _
          have hox4 := hox.keepB hb4 hgr2
          have jx04 := jx0.keepB hb4 hlt0
          have jx14 := jx1.keepB hb4 hlt1
          have hux4 : Up wk w4' := Below.trans hux (hb4.mono hSk)
          have hsx4 : S ≤ w4'.heap.size := Nat.le_trans hsx hb4.size
          obtain ⟨hck4, hfk4⟩ := hox4.cellAt j hjn
          rw [if_neg (Nat.lt_irrefl j), HRR.out] at hck4
          have hst := hox4.stored j hjn (r / B)
          have HCg : Hid ((List.range n).map (fun k => if k = j then r / B else if k < j then restC X B (i + 1) k else restC X B i k) = (List.range n).map fun k => if k < j + 1 then restC X B (i + 1) k else restC X B i k) := show _ = _ by
            refine List.map_congr_left fun k _ => ?_
            by_cases e : k = j
            · subst e
              rw [if_pos rfl, if_pos (Nat.lt_succ_self k), ← HST.out, HRR.out]
            · rw [if_neg e]
              by_cases e2 : k < j
              · rw [if_pos e2, if_pos (by omega)]
              · rw [if_neg e2, if_neg (by omega)]
          rw [HCg.out] at hst
          have HSt : Hid _ := hst
          have hod5 := fun v => ownsRow_setCell_below (a := ⟨gr, j, none⟩) hod4 (by show gr < S; exact hgr2) v
          have HOd : Hid _ := hod5
          clear hst hox hox4 hod hck hfk hc0 hod5
          have hc0 := keepU (hu36.trans hux4) KP0.out
          go_wp2_with fail
          go_roundw
          case rel => exact ⟨j + 1, by omega, by go_num, by rw [HRd.out]; exact HOd.out _, HSt.out.1, jx04.setOther hb0 _ _, jx14.setOther hb1 _ _, Below.trans hux4 HSt.out.2, by simpa using hsx4⟩
          case measure => simp [intOf]; omega
        · obtain rfl : j = n := by omega
          obtain ⟨gd, cd, rfl, hgd, id⟩ := hod.is (ne_nil_of_length (digI_length j X B i) (by omega))
          have HDL : Hid _ := digI_length j X B i
          rw [show ((List.range j).map (digC X B i)).length = j from HDL.out]
          have id2 : IsI wr gd (digI j X B i) := id
          have HPo0 : Hid (∀ W, Calls Tryz.prog 63 #[.agg #[.int .i64 j, .int .i64 t, .int .i64 q, .int .i64 b], .string y, .int .i64 (2 * (i : Int))] W fun e w' => ∃ g c, e = .returned (.slice (some ⟨g, 0, none⟩) j c) ∧ OwnI w' W.heap.size (.slice (some ⟨g, 0, none⟩) j c) (tkP y.data.toList j (2 * i)) ∧ Up W w') := fun W => by
            have := HPo.out (2 * i) (by omega) W
            rw [show ((2 * i : Nat) : Int) = 2 * (i : Int) by omega] at this
            exact this
          have HPo1 : Hid (∀ W, Calls Tryz.prog 63 #[.agg #[.int .i64 j, .int .i64 t, .int .i64 q, .int .i64 b], .string y, .int .i64 (2 * (i : Int) + 1)] W fun e w' => ∃ g c, e = .returned (.slice (some ⟨g, 0, none⟩) j c) ∧ OwnI w' W.heap.size (.slice (some ⟨g, 0, none⟩) j c) (tkP y.data.toList j (2 * i + 1)) ∧ Up W w') := fun W => by
            have := HPo.out (2 * i + 1) (by omega) W
            rw [show ((2 * i + 1 : Nat) : Int) = 2 * (i : Int) + 1 by omega] at this
            exact this
          have HB0 : Hid _ := HPb.out (2 * i) (by omega)
          have HB1 : Hid _ := HPb.out (2 * i + 1) (by omega)
          have HT0L : Hid _ := turn0_length j q B C0 X y.data.toList i HCL.out
          have HT1L : Hid _ := turn1_length j q B X y.data.toList i
          have HT0B : Hid _ := bnd_of _ j q 4294967296 HT0L.out (by omega) (by omega) (turn0_bounds j q B C0 X y.data.toList i (by omega) HCb.out)
          have HT1B : Hid _ := bnd_of _ j q 4294967296 HT1L.out (by omega) (by omega) (turn1_bounds j q B X y.data.toList i (by omega))
          have HT0 : Hid (turn0 j q B C0 X y.data.toList (i + 1) = plusI j (turn0 j q B C0 X y.data.toList i) (timesI j (tkP y.data.toList j (2 * i)) (digI j X B i) q) q) := rfl
          have HT1 : Hid (turn1 j q B X y.data.toList (i + 1) = plusI j (turn1 j q B X y.data.toList i) (timesI j (tkP y.data.toList j (2 * i + 1)) (digI j X B i) q) q) := rfl
          have HP0L : Hid _ := tkP_length y.data.toList j (2 * i)
          have HP1L : Hid _ := tkP_length y.data.toList j (2 * i + 1)
          have HRx : Hid ((List.range j).map (fun k => if k < j then restC X B (i + 1) k else restC X B i k) = (List.range j).map (restC X B (i + 1))) := show _ = _ by
            refine List.map_congr_left fun k hk => ?_
            rw [if_pos (List.mem_range.1 hk)]
          rw [HRx.out] at hox
          generalize turn0 j q B C0 X y.data.toList i = T0 at jx0 HT0L HT0B HT0
          generalize turn1 j q B X y.data.toList i = T1 at jx1 HT1L HT1B HT1
          generalize tkP y.data.toList j (2 * i) = P0 at HPo0 HB0 HT0 HP0L
          generalize tkP y.data.toList j (2 * i + 1) = P1 at HPo1 HB1 HT1 HP1L
          generalize digI j X B i = D at id2 HDL HT0 HT1
          have e1 : IntKind.i64.wrap (2 * (i : Int)) = 2 * (i : Int) := IntWalk.i64_in _ (by omega)
          have e2 : IntKind.i64.wrap (2 * (i : Int) + 1) = 2 * (i : Int) + 1 := IntWalk.i64_in _ (by omega)
          have hc1 := keepU hu3x KP1.out
          have hc2 := keepU hu3x KP2.out
          have hc3 := keepU hu3x KP3.out
          clear hod id
          go_wp2_with fail
          go_region_held3 (fun w' => w'.cell? ⟨w.heap.size, 0, none⟩ = some (.int .i64 (j : Int)) ∧ w'.cell? ⟨w.heap.size, 1, none⟩ = some (.int .i64 (t : Int)) ∧ w'.cell? ⟨w.heap.size, 2, none⟩ = some (.int .i64 q) ∧ w'.cell? ⟨w.heap.size, 3, none⟩ = some (.int .i64 b))
            (first | go_keep | exact keep4 hua3 (by assumption) | exact keep4 hua2 (by assumption) | exact keep4 hua1 (by assumption))
            ((first | (go_at_call 63; refine Calls.mono (HPo0.out _) ?_; rintro e wa1 ⟨gp, cp, rfl, hop, hua1⟩) | (go_at_call 57; refine (Times_calls j P0 D gp gd cp cd q _ (by omega) HP0L.out HDL.out (by omega) hq2 HB0.out (by exact hop.isI) (by exact (id2.up (Up.drew (Up.refl _))).up hua1)).mono ?_; rintro e wa2 ⟨va2, rfl, hoa2, hua2⟩; obtain ⟨gt2, ct2, rfl, hgt2, it2⟩ := hoa2.is (ne_nil_of_length (timesI_length _ _ _ _) (by omega)); rw [timesI_length]) | (go_at_call 62; refine (Plus_calls j T0 _ b0 gt2 l0 ct2 q _ (by omega) HT0L.out (timesI_length _ _ _ _) (by omega) hq2 HT0B.out (Bnd_mod (by omega) (by omega) (fun i => ⟨_, rfl⟩)) (by exact ((jx0.up (Up.drew (Up.refl _))).up hua1).up hua2) it2).mono ?_; rintro e wa3 ⟨va3, rfl, hoa3, hua3⟩; obtain ⟨e0, f0, rfl, hge0, ie0⟩ := hoa3.is (ne_nil_of_length (plusI_length _ _ _ _) (by omega)); rw [plusI_length])))
          have hux3 : Up wr wa3 := Up.trans (Up.trans (Up.trans (Up.drew (Up.refl _)) hua1) hua2) hua3
          have hsz2 : wr.heap.size ≤ wa2.heap.size := (Up.trans (Up.trans (Up.drew (Up.refl wr)) hua1) hua2).size
          have hgrx := (hox.lt gr rfl).2
          have hne0 : e0 ≠ gr := by omega
          rw [← HT0.out] at ie0
          have hox3 := hox.up hux3
          have jx13 := jx1.up hux3
          have id3 := id2.up hux3
          have hu3y := hu3x.trans hux3
          clear hop hua1 hua2 hua3 hoa2 hoa3 it2 hc0 hc1 hc2 hc3 hox jx0 jx1 id2 e1
          have hc0 := keepU hu3y KP0.out
          have hc1 := keepU hu3y KP1.out
          have hc2 := keepU hu3y KP2.out
          have hc3 := keepU hu3y KP3.out
          have e1 : IntKind.i64.wrap (2 * (i : Int)) = 2 * (i : Int) := IntWalk.i64_in _ (by omega)
          go_wp2_with fail
          go_region_held3 (fun w' => w'.cell? ⟨w.heap.size, 0, none⟩ = some (.int .i64 (j : Int)) ∧ w'.cell? ⟨w.heap.size, 1, none⟩ = some (.int .i64 (t : Int)) ∧ w'.cell? ⟨w.heap.size, 2, none⟩ = some (.int .i64 q) ∧ w'.cell? ⟨w.heap.size, 3, none⟩ = some (.int .i64 b))
            (first | go_keep | exact keep4 hua3 (by assumption) | exact keep4 hua2 (by assumption) | exact keep4 hua1 (by assumption))
            ((first | (go_at_call 63; refine Calls.mono (HPo1.out _) ?_; rintro e wb1 ⟨gp, cp, rfl, hop, hua1⟩) | (go_at_call 57; refine (Times_calls j P1 D gp gd cp cd q _ (by omega) HP1L.out HDL.out (by omega) hq2 HB1.out (by exact hop.isI) (by exact (id3.up (Up.drew (Up.refl _))).up hua1)).mono ?_; rintro e wb2 ⟨va2, rfl, hoa2, hua2⟩; obtain ⟨gt2, ct2, rfl, hgt2, it2⟩ := hoa2.is (ne_nil_of_length (timesI_length _ _ _ _) (by omega)); rw [timesI_length]) | (go_at_call 62; refine (Plus_calls j T1 _ b1 gt2 l1 ct2 q _ (by omega) HT1L.out (timesI_length _ _ _ _) (by omega) hq2 HT1B.out (Bnd_mod (by omega) (by omega) (fun i => ⟨_, rfl⟩)) (by exact ((jx13.up (Up.drew (Up.refl _))).up hua1).up hua2) it2).mono ?_; rintro e wb3 ⟨va3, rfl, hoa3, hua3⟩; obtain ⟨e1', f1, rfl, hge1, ie1⟩ := hoa3.is (ne_nil_of_length (plusI_length _ _ _ _) (by omega)); rw [plusI_length])))
          have huy3 : Up wa3 wb3 := Up.trans (Up.trans (Up.trans (Up.drew (Up.refl _)) hua1) hua2) hua3
          have hsz3 : wa3.heap.size ≤ wb2.heap.size := (Up.trans (Up.trans (Up.drew (Up.refl wa3)) hua1) hua2).size
          have hszx := hux3.size
          have hne1 : e1' ≠ gr := by omega
          rw [← HT1.out] at ie1
          clear hop hua1 hua2 hua3 hoa2 hoa3 it2 hc0 hc1 hc2 hc3 e1 e2
          go_wp2_with fail
          go_roundw
          case rel => exact ⟨i + 1, e0, f0, e1', f1, by omega, by go_num, rfl, rfl, ie0.up huy3, hne0, ie1, hne1, hox3.up huy3, (hux.trans hux3).trans huy3⟩
          case measure => simp [intOf]; omega
    · obtain rfl : i = L := by omega
      have hu3r := hu36.trans hur
      have hc0 := keepU hu3r KP0.out
      have hc1 := keepU hu3r KP1.out
      have hc2 := keepU hu3r KP2.out
      have hcE := keepU hu3r KE.out
      have hm := mod_bounds (show (0 : Int) < (t : Int) by omega) q
      have hR : q % (t : Int) = ((q % (t : Int)).toNat : Int) := by omega
      have hRb : (q % (t : Int)).toNat ≤ 1021 := by omega
      have eR : q.tmod (t : Int) = ((q % (t : Int)).toNat : Int) := by rw [Int.tmod_eq_emod_of_nonneg (by omega)]; exact hR
      generalize (q % (t : Int)).toNat = R at eR hRb HA
      have et1 : ¬ (t : Int) = 0 := by omega
      have et2 : ¬ t = 0 := by omega
      have et0 : ((t : Int) == 0) = false := beq_eq_false_iff_ne.2 et1
      have hBm : B - 1 = ((B - 1).toNat : Int) := by omega
      have hBb : (B - 1).toNat ≤ 255 := by omega
      have e0 : IntKind.i64.wrap (B - 1) = ((B - 1).toNat : Int) := by rw [IntWalk.i64_in _ (by omega)]; exact hBm
      generalize (B - 1).toNat = Z at e0 hBb HA
      have m1 : i * n ≤ 30 * 16 := Nat.mul_le_mul hL30 (by omega)
      have m2 : i * n * Z ≤ 30 * 16 * 255 := Nat.mul_le_mul m1 hBb
      have c1' : (i : Int) * (n : Int) = ((i * n : Nat) : Int) := by rw [Int.natCast_mul]
      have c2' : ((i * n : Nat) : Int) * (Z : Int) = ((i * n * Z : Nat) : Int) := by rw [Int.natCast_mul (i * n) Z]
      have e1 : IntKind.i64.wrap ((i : Int) * (n : Int)) = ((i * n : Nat) : Int) := by rw [c1']; exact IntWalk.i64_in _ (by omega)
      have e2 : IntKind.i64.wrap (((i * n : Nat) : Int) * (Z : Int)) = ((i * n * Z : Nat) : Int) := by rw [c2']; exact IntWalk.i64_in _ (by omega)
      generalize i * n * Z = Y at e2 m2 HA
      generalize i * n = M at e1 e2
      have e3 : IntKind.i64.wrap ((Y : Int) * 2) = (Y : Int) * 2 := IntWalk.i64_in _ (by omega)
      have e4 : IntKind.i64.wrap ((E0 : Int) + (R : Int)) = (E0 : Int) + (R : Int) := IntWalk.i64_in _ (by omega)
      have e5 : IntKind.i64.wrap ((E0 : Int) + (R : Int) + (Y : Int) * 2) = ((E0 + R + Y * 2 : Nat) : Int) := by rw [IntWalk.i64_in _ (by omega)]; omega
      have hEb : E0 + R + Y * 2 ≤ 1125899906842624 := by omega
      generalize E0 + R + Y * 2 = ET at e5 hEb HA
      clear hm hR hBm c1' c2' m1
      go_wp2_with fail
      go_quiet (fail)
      have hu3q : Up (w2.alloc (.cells #[.int .i64 E0, .slice (some ⟨g0, 0, none⟩) n c0, .slice (some ⟨g1, 0, none⟩) n c1] 59)) (wr.drewN nq) := Up.drewN hu3r
      have jq0 := jb0.up (Up.drewN (n := nq) (Up.refl wr))
      have jq1 := jb1.up (Up.drewN (n := nq) (Up.refl wr))
      generalize wr.drewN nq = wq at hu3q jq0 jq1 ⊢
      clear hc0 hc1 hc2 hcE e0 e1 e2 e3 e4 e5 eR
      have hc0 := keepU hu3q KP0.out
      have hc1 := keepU hu3q KP1.out
      have hc2 := keepU hu3q KP2.out
      have hc3 := keepU hu3q KP3.out
      have HT0L : Hid _ := turn0_length n q B C0 X y.data.toList i HCL.out
      have HT1L : Hid _ := turn1_length n q B X y.data.toList i
      have HT0B : Hid _ := turn0_bounds n q B C0 X y.data.toList i (by omega) HCb.out
      have HT1B : Hid _ := turn1_bounds n q B X y.data.toList i (by omega)
      generalize turn0 n q B C0 X y.data.toList i = T0 at jq0 HT0L HT0B HA
      generalize turn1 n q B X y.data.toList i = T1 at jq1 HT1L HT1B HA
      go_wp2_with fail
      refine (Told_any n ET t q b T0 T1 b0 b1 l0 l1 _ (by omega) (by omega) (by omega) (by omega) hq2 hEb HT0L.out HT1L.out (fun i hi => by have := HT0B.out i (by rw [HT0L.out] at hi; exact hi); omega) (fun i hi => by have := HT1B.out i (by rw [HT1L.out] at hi; exact hi); omega) jq0 jq1).mono ?_
      rintro e w9 ⟨rfl, hu9⟩
      rw [← HA.out]
      go_wp2_with fail
      go_ret2
      exact ⟨rfl, (((Up.refl _).alloc _).trans (hu12.trans hu3q)).trans hu9⟩

end Go.Proofs.YtjiekfplgmfgiabGreat
