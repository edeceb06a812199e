/-
  Walks: the program's sum of products, hidden.
-/
import Derived.Test.YtcjhgbljhpflfabGreatCodeLo
import Derived.Test.YtcjhgbljhpflfabGreatCodeLb
namespace Go.Proofs.YtcjhgbljhpflfabGreat
open Go.RowKit
set_option linter.unusedVariables false
set_option maxRecDepth 100000

/-- a and x times v, hidden -/
def apR (n t : Nat) (q : Int) (a x v : List UInt8) : List UInt8 × Int := if (mulPlainL n t q x v).2 = 0 then addL n t q a (mulPlainL n t q x v).1 else ([], 4)

set_option maxHeartbeats 8000000 in
theorem layAdd_out (n t : Nat) (q b : Int) (a x : List UInt8) (vs : List Int) (g0 c0 g1 c1 g2 c2 g3 c3 gv cv : Nat) (w : World) (g : NT n t) (hq : 2 ≤ q) (hq2 : q ≤ 1073741823) (ha : ctB a n t q = true) (hx : ctB x n t q = true) (lv : vs.length = n) (hv : ∀ i, i < n → 0 ≤ vs.getD i 0 ∧ vs.getD i 0 < (t : Int)) (iv : IsI w gv vs) (i0 : IsI w g0 (ct0 a n)) (i1 : IsI w g1 (ct1 a n)) (i2 : IsI w g2 (ct0 x n)) (i3 : IsI w g3 (ct1 x n)) :
    Calls Tryz.prog 137 #[.agg #[.int .i64 n, .int .i64 t, .int .i64 q, .int .i64 b], .agg #[.int .i64 (ctE a : Nat), .slice (some ⟨g0, 0, none⟩) n c0, .slice (some ⟨g1, 0, none⟩) n c1], .agg #[.int .i64 (ctE x : Nat), .slice (some ⟨g2, 0, none⟩) n c2, .slice (some ⟨g3, 0, none⟩) n c3], .slice (some ⟨gv, 0, none⟩) n cv] w fun r w' => Out n t q (apR n t q a x (textsL 2 vs)).1 (apR n t q a x (textsL 2 vs)).2 r w' ∧ Up w w' := by
  have hd := g.half
  have HM : Hid (∀ W, IsI W gv vs → IsI W g2 (ct0 x n) → IsI W g3 (ct1 x n) → Calls Tryz.prog 134 #[.agg #[.int .i64 n, .int .i64 t, .int .i64 q, .int .i64 b], .agg #[.int .i64 (ctE x : Nat), .slice (some ⟨g2, 0, none⟩) n c2, .slice (some ⟨g3, 0, none⟩) n c3], .slice (some ⟨gv, 0, none⟩) n cv] W fun r w' => Out n t q (mulPlainL n t q x (textsL 2 vs)).1 (mulPlainL n t q x (textsL 2 vs)).2 r w' ∧ Up W w') := fun W h1 h2 h3 => mul_out n t q b x vs g2 c2 g3 c3 gv cv W g hq hq2 hx lv hv h1 h2 h3
  have HA : Hid (∀ y W (g4 c4 g5 c5 : Nat), ctB y n t q = true → IsI W g0 (ct0 a n) → IsI W g1 (ct1 a n) → IsI W g4 (ct0 y n) → IsI W g5 (ct1 y n) → Calls Tryz.prog 161 #[.agg #[.int .i64 n, .int .i64 t, .int .i64 q, .int .i64 b], .agg #[.int .i64 (ctE a : Nat), .slice (some ⟨g0, 0, none⟩) n c0, .slice (some ⟨g1, 0, none⟩) n c1], .agg #[.int .i64 (ctE y : Nat), .slice (some ⟨g4, 0, none⟩) n c4, .slice (some ⟨g5, 0, none⟩) n c5]] W fun r w' => Out n t q (addL n t q a y).1 (addL n t q a y).2 r w' ∧ Up W w') := fun y W g4 c4 g5 c5 hy h1 h2 h3 h4 => add_out n t q b a y g0 c0 g1 c1 g4 c4 g5 c5 W g hq hq2 ha hy h1 h2 h3 h4
  have HR : Hid (apR n t q a x (textsL 2 vs) = if (mulPlainL n t q x (textsL 2 vs)).2 = 0 then addL n t q a (mulPlainL n t q x (textsL 2 vs)).1 else ([], 4)) := rfl
  generalize apR n t q a x (textsL 2 vs) = ans at HR
  generalize mulPlainL n t q x (textsL 2 vs) = M at HM HR
  generalize ctE x = Ex at HM
  generalize ctE a = Ea at HA
  have hl0 := ct0_length a n
  have hl1 := ct1_length a n
  generalize ct0 a n = A0 at HA i0 hl0
  generalize ct1 a n = A1 at HA i1 hl1
  generalize ct0 x n = X0 at HM i2
  generalize ct1 x n = X1 at HM i3
  clear lv hv
  obtain ⟨W, hW⟩ : ∃ W, W = (((w.alloc (.cells #[.int .i64 n, .int .i64 t, .int .i64 q, .int .i64 b] 28)).alloc (.cells #[.int .i64 Ea, .slice (some ⟨g0, 0, none⟩) n c0, .slice (some ⟨g1, 0, none⟩) n c1] 84)).alloc (.cells #[.int .i64 Ex, .slice (some ⟨g2, 0, none⟩) n c2, .slice (some ⟨g3, 0, none⟩) n c3] 84)).alloc (.cells #[.int .i64 0, .slice none 0 0, .slice none 0 0] 84) := ⟨_, rfl⟩
  have huW : Up w W := by rw [hW]; exact ((((Up.refl _).alloc _).alloc _).alloc _).alloc _
  have hsW : W.heap.size = w.heap.size + 4 := by rw [hW]; simp
  have hS0 : W.cell? ⟨w.heap.size, 0, none⟩ = some (.int .i64 (n : Int)) := by rw [hW]; simp [go_sem]
  have hS1 : W.cell? ⟨w.heap.size, 1, none⟩ = some (.int .i64 (t : Int)) := by rw [hW]; simp [go_sem]
  have hS2 : W.cell? ⟨w.heap.size, 2, none⟩ = some (.int .i64 q) := by rw [hW]; simp [go_sem]
  have hS3 : W.cell? ⟨w.heap.size, 3, none⟩ = some (.int .i64 b) := by rw [hW]; simp [go_sem]
  have hA0 : W.cell? ⟨w.heap.size + 1, 0, none⟩ = some (.int .i64 (Ea : Int)) := by rw [hW]; simp [go_sem]
  have hA1 : W.cell? ⟨w.heap.size + 1, 1, none⟩ = some (.slice (some ⟨g0, 0, none⟩) n c0) := by rw [hW]; simp [go_sem]
  have hA2 : W.cell? ⟨w.heap.size + 1, 2, none⟩ = some (.slice (some ⟨g1, 0, none⟩) n c1) := by rw [hW]; simp [go_sem]
  have hX0 : W.cell? ⟨w.heap.size + 2, 0, none⟩ = some (.int .i64 (Ex : Int)) := by rw [hW]; simp [go_sem]
  have hX1 : W.cell? ⟨w.heap.size + 2, 1, none⟩ = some (.slice (some ⟨g2, 0, none⟩) n c2) := by rw [hW]; simp [go_sem]
  have hX2 : W.cell? ⟨w.heap.size + 2, 2, none⟩ = some (.slice (some ⟨g3, 0, none⟩) n c3) := by rw [hW]; simp [go_sem]
  have HK0 : Hid (W.cell? ⟨w.heap.size + 3, 0, none⟩ = some (.int .i64 0)) := show W.cell? ⟨w.heap.size + 3, 0, none⟩ = some (.int .i64 0) from by rw [hW]; simp [go_sem]
  have HK1 : Hid (W.cell? ⟨w.heap.size + 3, 1, none⟩ = some (.slice none 0 0)) := show W.cell? ⟨w.heap.size + 3, 1, none⟩ = some (.slice none 0 0) from by rw [hW]; simp [go_sem]
  have HK2 : Hid (W.cell? ⟨w.heap.size + 3, 2, none⟩ = some (.slice none 0 0)) := show W.cell? ⟨w.heap.size + 3, 2, none⟩ = some (.slice none 0 0) from by rw [hW]; simp [go_sem]
  have HZ : Hid (∀ o, W.frozen? ⟨w.heap.size + 3, o, none⟩ = false) := show ∀ o, W.frozen? ⟨w.heap.size + 3, o, none⟩ = false from fun o => by rw [hW]; simp [go_sem]
  have KA : Hid (W.cell? ⟨w.heap.size + 1, 0, none⟩ = some (.int .i64 (Ea : Int)) ∧ W.cell? ⟨w.heap.size + 1, 1, none⟩ = some (.slice (some ⟨g0, 0, none⟩) n c0) ∧ W.cell? ⟨w.heap.size + 1, 2, none⟩ = some (.slice (some ⟨g1, 0, none⟩) n c1)) := ⟨hA0, hA1, hA2⟩
  have KS : Hid (W.cell? ⟨w.heap.size, 0, none⟩ = some (.int .i64 (n : Int)) ∧ W.cell? ⟨w.heap.size, 1, none⟩ = some (.int .i64 (t : Int)) ∧ W.cell? ⟨w.heap.size, 2, none⟩ = some (.int .i64 q) ∧ W.cell? ⟨w.heap.size, 3, none⟩ = some (.int .i64 b)) := ⟨hS0, hS1, hS2, hS3⟩
  clear hA0 hA1 hA2
  go_enter Tryz.func137, Tryz.ntmps137
  go_wp2_with fail
  rw [← hW]
  clear hW
  refine Calls.mono (HM.out _ (iv.up huW) (i2.up huW) (i3.up huW)) ?_
  rintro r w1 ⟨ho1, hu1⟩
  clear hS0 hS1 hS2 hS3 hX0 hX1 hX2
  rcases ho1 with ⟨hm0, hmc, hmt, h0, k0, h1, k1, rfl, j0, j1⟩ | ⟨hm0, rfl⟩
  · have HAy : Hid _ := fun W' => HA.out M.1 W' h0 k0 h1 k1 hmc
    have HR2 : Hid (ans = addL n t q a M.1) := show _ = _ by rw [HR.out, if_pos hm0]
    generalize addL n t q a M.1 = Sm at HAy HR2
    have jl0 := ct0_length M.1 n
    have jl1 := ct1_length M.1 n
    generalize ctE M.1 = Em at HAy ⊢
    generalize ct0 M.1 n = M0 at HAy j0 jl0
    generalize ct1 M.1 n = M1 at HAy j1 jl1
    obtain ⟨W1, hW1⟩ : ∃ W', W' = w1.alloc (.cells #[.int .i64 Em, .slice (some ⟨h0, 0, none⟩) n k0, .slice (some ⟨h1, 0, none⟩) n k1] 84) := ⟨_, rfl⟩
    have huA : Up w1 W1 := by rw [hW1]; exact (Up.refl _).alloc _
    have hT0 : W1.cell? ⟨w1.heap.size, 0, none⟩ = some (.int .i64 (Em : Int)) := by rw [hW1]; simp
    have hT1 : W1.cell? ⟨w1.heap.size, 1, none⟩ = some (.slice (some ⟨h0, 0, none⟩) n k0) := by rw [hW1]; simp
    have hT2 : W1.cell? ⟨w1.heap.size, 2, none⟩ = some (.slice (some ⟨h1, 0, none⟩) n k1) := by rw [hW1]; simp
    have huB := hu1.trans huA
    obtain ⟨kS0, kS1, kS2, kS3⟩ := KS.out
    obtain ⟨kA0, kA1, kA2⟩ := KA.out
    have hS0 := keepC huB kS0
    have hS1 := keepC huB kS1
    have hS2 := keepC huB kS2
    have hS3 := keepC huB kS3
    have hA0 := keepC huB kA0
    have hA1 := keepC huB kA1
    have hA2 := keepC huB kA2
    clear kS0 kS1 kS2 kS3 kA0 kA1 kA2
    subst hW1
    go_wp2_with fail
    refine Calls.mono (HAy.out _ (i0.up (huW.trans huB)) (i1.up (huW.trans huB)) (j0.up huA) (j1.up huA)) ?_
    rintro r w2 ⟨ho2, hu2⟩
    have huC := huB.trans hu2
    have hk0 := keepC huC HK0.out
    have hk1 := keepC huC HK1.out
    have hk2 := keepC huC HK2.out
    have hz0 := ((bcell huC).2 _ _ (by omega)).trans (HZ.out 0)
    have hz1 := ((bcell huC).2 _ _ (by omega)).trans (HZ.out 1)
    have hz2 := ((bcell huC).2 _ _ (by omega)).trans (HZ.out 2)
    have hall : Below w.heap.size w w2 := huW.trans huC
    clear hT0 hT1 hT2 hS0 hS1 hS2 hS3 hA0 hA1 hA2
    rcases ho2 with ⟨hs0, hsc, hst, x0, y0, x1, y1, rfl, l0, l1⟩ | ⟨hs0, rfl⟩
    · have n0 := l0.ne (by rw [ct0_length]; omega) hk1
      have n1 := l1.ne (by rw [ct1_length]; omega) hk1
      go_wp2_with fail
      refine bodyPost_ret (v := .tuple #[.agg #[.int .i64 (ctE Sm.1 : Nat), .slice (some ⟨x0, 0, none⟩) n y0, .slice (some ⟨x1, 0, none⟩) n y1], .bool true]) (by simp [results, Tryz.results137, go_sem, hk0, hk1, hk2]) rfl ⟨?_, ?_⟩
      · rw [HR2.out]
        exact Or.inl ⟨hs0, hsc, hst, x0, y0, x1, y1, rfl, ((l0.set n0 _ _).set n0 _ _).set n0 _ _, ((l1.set n1 _ _).set n1 _ _).set n1 _ _⟩
      · exact ((hall.setCell (by dsimp only; omega) _).setCell (by dsimp only; omega) _).setCell (by dsimp only; omega) _
    · go_wp2_with fail
      refine bodyPost_ret (v := .tuple #[.agg #[.int .i64 0, .slice none 0 0, .slice none 0 0], .bool false]) (by simp [results, Tryz.results137, go_sem, hk0, hk1, hk2]) rfl ⟨?_, ?_⟩
      · rw [HR2.out]
        exact Or.inr ⟨hs0, rfl⟩
      · exact ((hall.setCell (by dsimp only; omega) _).setCell (by dsimp only; omega) _).setCell (by dsimp only; omega) _
  · have HR2 : Hid (ans = ([], 4)) := show _ = _ by rw [HR.out, if_neg (by rw [hm0]; decide)]
    obtain ⟨W1, hW1⟩ : ∃ W', W' = w1.alloc (.cells #[.int .i64 0, .slice none 0 0, .slice none 0 0] 84) := ⟨_, rfl⟩
    have huA : Up w1 W1 := by rw [hW1]; exact (Up.refl _).alloc _
    have huC := hu1.trans huA
    have hk0 := keepC huC HK0.out
    have hk1 := keepC huC HK1.out
    have hk2 := keepC huC HK2.out
    have hz0 := ((bcell huC).2 _ _ (by omega)).trans (HZ.out 0)
    have hz1 := ((bcell huC).2 _ _ (by omega)).trans (HZ.out 1)
    have hz2 := ((bcell huC).2 _ _ (by omega)).trans (HZ.out 2)
    have hall : Below w.heap.size w W1 := huW.trans huC
    subst hW1
    go_wp2_with fail
    refine bodyPost_ret (v := .tuple #[.agg #[.int .i64 0, .slice none 0 0, .slice none 0 0], .bool false]) (by simp [results, Tryz.results137, go_sem, hk0, hk1, hk2]) rfl ⟨?_, ?_⟩
    · rw [HR2.out]
      exact Or.inr ⟨rfl, rfl⟩
    · exact ((hall.setCell (by dsimp only; omega) _).setCell (by dsimp only; omega) _).setCell (by dsimp only; omega) _

end Go.Proofs.YtcjhgbljhpflfabGreat
