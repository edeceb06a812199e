/-
  Walks: the program's Add.
  Walks: the program's AddPlain.
-/
import Derived.Test.YtcjhgbljhpflfabGreatCodeL
import Derived.Test.YtcjhgbljhpflfabGreatWalksY
namespace Go.Proofs.YtcjhgbljhpflfabGreat
open Go.RowKit
set_option linter.unusedVariables false
set_option maxRecDepth 100000

theorem keepC6 {p0 p1 p2 p3 p4 p5 : Addr} {u0 u1 u2 u3 u4 u5 : Value} {W W' : World} (hu : Up W W') (hS : W.cell? p0 = some u0 ∧ W.cell? p1 = some u1 ∧ W.cell? p2 = some u2 ∧ W.cell? p3 = some u3 ∧ W.cell? p4 = some u4 ∧ W.cell? p5 = some u5) :
    W'.cell? p0 = some u0 ∧ W'.cell? p1 = some u1 ∧ W'.cell? p2 = some u2 ∧ W'.cell? p3 = some u3 ∧ W'.cell? p4 = some u4 ∧ W'.cell? p5 = some u5 :=
  ⟨keepC hu hS.1, keepC hu hS.2.1, keepC hu hS.2.2.1, keepC hu hS.2.2.2.1, keepC hu hS.2.2.2.2.1, keepC hu hS.2.2.2.2.2⟩

set_option maxHeartbeats 4000000 in
theorem cipherAdd_no (n t E0 E1 : Nat) (q b : Int) (g0 c0 g1 c1 g2 c2 g3 c3 : Nat) (w : World) (ht : 1 ≤ t) (ht2 : t ≤ 1021) (hq : 2 ≤ q) (hq2 : q ≤ 1073741823) (h0 : (E0 : Int) < q) (h1 : (E1 : Int) < q) (hfit : fitsB t q ((E0 + E1 + (q % (t : Int)).toNat : Nat) : Int) = false) :
    Calls Tryz.prog 161 #[.agg #[.int .i64 n, .int .i64 t, .int .i64 q, .int .i64 b], .agg #[.int .i64 E0, .slice (some ⟨g0, 0, none⟩) n c0, .slice (some ⟨g1, 0, none⟩) n c1], .agg #[.int .i64 E1, .slice (some ⟨g2, 0, none⟩) n c2, .slice (some ⟨g3, 0, none⟩) n c3]] w fun r w' => r = .returned (.tuple #[.agg #[.int .i64 0, .slice none 0 0, .slice none 0 0], .bool false]) ∧ Up w w' := by
  have hm := mod_bounds (show (0 : Int) < (t : Int) by omega) q
  have HF : Hid _ := hfit
  have HRR : Hid (∀ W, Calls Tryz.prog 133 #[.agg #[.int .i64 n, .int .i64 t, .int .i64 q, .int .i64 b]] W fun r w' => r = .returned (.int .i64 ((q % (t : Int)).toNat : Int)) ∧ Up W w') := fun W => by
    have := Rest_calls n t q b W (by omega) (by omega) (by omega) hq2
    rw [show ((q % (t : Int)).toNat : Int) = q % (t : Int) by omega]
    exact this
  have hRb : (q % (t : Int)).toNat ≤ 1021 := by omega
  generalize (q % (t : Int)).toNat = R at HF HRR hRb
  have e1 : IntKind.i64.wrap ((E0 : Int) + (E1 : Int)) = (E0 : Int) + (E1 : Int) := IntWalk.i64_in _ (by omega)
  have e2 : IntKind.i64.wrap ((E0 : Int) + (E1 : Int) + (R : Int)) = ((E0 + E1 + R : Nat) : Int) := by rw [IntWalk.i64_in _ (by omega)]; omega
  generalize E0 + E1 + R = S at e2 HF
  clear hm hfit
  obtain ⟨W, hW⟩ : ∃ W, W = (((w.alloc (.cells #[.int .i64 n, .int .i64 t, .int .i64 q, .int .i64 b] 28)).alloc (.cells #[.int .i64 E0, .slice (some ⟨g0, 0, none⟩) n c0, .slice (some ⟨g1, 0, none⟩) n c1] 84)).alloc (.cells #[.int .i64 E1, .slice (some ⟨g2, 0, none⟩) n c2, .slice (some ⟨g3, 0, none⟩) n c3] 84)).alloc (.cells #[.int .i64 0, .slice none 0 0, .slice none 0 0] 84) := ⟨_, rfl⟩
  have huW : Up w W := by rw [hW]; exact ((((Up.refl _).alloc _).alloc _).alloc _).alloc _
  have hsW : W.heap.size = w.heap.size + 4 := by rw [hW]; simp
  have hS0 : W.cell? ⟨w.heap.size, 0, none⟩ = some (.int .i64 (n : Int)) := by rw [hW]; simp [go_sem]
  have hS1 : W.cell? ⟨w.heap.size, 1, none⟩ = some (.int .i64 (t : Int)) := by rw [hW]; simp [go_sem]
  have hS2 : W.cell? ⟨w.heap.size, 2, none⟩ = some (.int .i64 q) := by rw [hW]; simp [go_sem]
  have hS3 : W.cell? ⟨w.heap.size, 3, none⟩ = some (.int .i64 b) := by rw [hW]; simp [go_sem]
  have hX0 : W.cell? ⟨w.heap.size + 1, 0, none⟩ = some (.int .i64 (E0 : Int)) := by rw [hW]; simp [go_sem]
  have hY0 : W.cell? ⟨w.heap.size + 2, 0, none⟩ = some (.int .i64 (E1 : Int)) := by rw [hW]; simp [go_sem]
  have HK0 : Hid (W.cell? ⟨w.heap.size + 3, 0, none⟩ = some (.int .i64 0)) := show W.cell? ⟨w.heap.size + 3, 0, none⟩ = some (.int .i64 0) from by rw [hW]; simp [go_sem]
  have HK1 : Hid (W.cell? ⟨w.heap.size + 3, 1, none⟩ = some (.slice none 0 0)) := show W.cell? ⟨w.heap.size + 3, 1, none⟩ = some (.slice none 0 0) from by rw [hW]; simp [go_sem]
  have HK2 : Hid (W.cell? ⟨w.heap.size + 3, 2, none⟩ = some (.slice none 0 0)) := show W.cell? ⟨w.heap.size + 3, 2, none⟩ = some (.slice none 0 0) from by rw [hW]; simp [go_sem]
  have HZ : Hid (∀ o, W.frozen? ⟨w.heap.size + 3, o, none⟩ = false) := show ∀ o, W.frozen? ⟨w.heap.size + 3, o, none⟩ = false from fun o => by rw [hW]; simp [go_sem]
  go_enter Tryz.func161, Tryz.ntmps161
  go_wp2_with fail
  rw [← hW]
  clear hW
  go_region_held3 (fun w' => w'.cell? ⟨w.heap.size, 0, none⟩ = some (.int .i64 (n : Int)) ∧ w'.cell? ⟨w.heap.size, 1, none⟩ = some (.int .i64 (t : Int)) ∧ w'.cell? ⟨w.heap.size, 2, none⟩ = some (.int .i64 q) ∧ w'.cell? ⟨w.heap.size, 3, none⟩ = some (.int .i64 b) ∧ w'.cell? ⟨w.heap.size + 1, 0, none⟩ = some (.int .i64 (E0 : Int)) ∧ w'.cell? ⟨w.heap.size + 2, 0, none⟩ = some (.int .i64 (E1 : Int)))
    (first | go_keep | exact keepC6 hu2 (by assumption))
    ((first | (go_at_call 133; refine Calls.mono (HRR.out _) ?_; rintro r w2 ⟨rfl, hu2⟩)))
  have hu02 : Up W w2 := Up.trans (Up.drew (Up.refl _)) hu2
  clear hu2 e1 e2
  have hT0 := keepC hu02 hS0
  have hT1 := keepC hu02 hS1
  have hT2 := keepC hu02 hS2
  have hT3 := keepC hu02 hS3
  clear hS0 hS1 hS2 hS3 hX0 hY0
  go_wp2_with fail
  refine (Fits_calls _ _ _ _ _ _ (by omega) (by omega) (by omega) hq2 (by omega)).mono ?_
  rintro r w3 ⟨rfl, hu3⟩
  rw [HF.out]
  have hu03 := hu02.trans hu3
  clear hT0 hT1 hT2 hT3
  have hk0 := keepC hu03 HK0.out
  have hk1 := keepC hu03 HK1.out
  have hk2 := keepC hu03 HK2.out
  have hz0 := ((bcell hu03).2 _ _ (by omega)).trans (HZ.out 0)
  have hz1 := ((bcell hu03).2 _ _ (by omega)).trans (HZ.out 1)
  have hz2 := ((bcell hu03).2 _ _ (by omega)).trans (HZ.out 2)
  go_wp2_with fail
  have hall : Below w.heap.size w w3 := huW.trans hu03
  refine bodyPost_ret (v := .tuple #[.agg #[.int .i64 0, .slice none 0 0, .slice none 0 0], .bool false]) (by simp [results, Tryz.results161, go_sem, hk0, hk1, hk2]) rfl ⟨rfl, ?_⟩
  exact ((hall.setCell (by dsimp only; omega) _).setCell (by dsimp only; omega) _).setCell (by dsimp only; omega) _

set_option maxHeartbeats 4000000 in
theorem cipherAdd_ok (n t E0 E1 : Nat) (q b : Int) (a0 a1 b0 b1 : List Int) (g0 c0 g1 c1 g2 c2 g3 c3 : Nat) (w : World) (hn : n ≤ 16) (hn1 : 1 ≤ n) (ht : 1 ≤ t) (ht2 : t ≤ 1021) (hq : 2 ≤ q) (hq2 : q ≤ 1073741823) (h0 : (E0 : Int) < q) (h1 : (E1 : Int) < q) (hfit : fitsB t q ((E0 + E1 + (q % (t : Int)).toNat : Nat) : Int) = true)
    (l0 : a0.length = n) (l1 : a1.length = n) (l2 : b0.length = n) (l3 : b1.length = n) (d0 : Bnd a0 4294967296) (d1 : Bnd a1 4294967296) (d2 : Bnd b0 4294967296) (d3 : Bnd b1 4294967296) (i0 : IsI w g0 a0) (i1 : IsI w g1 a1) (i2 : IsI w g2 b0) (i3 : IsI w g3 b1) :
    Calls Tryz.prog 161 #[.agg #[.int .i64 n, .int .i64 t, .int .i64 q, .int .i64 b], .agg #[.int .i64 E0, .slice (some ⟨g0, 0, none⟩) n c0, .slice (some ⟨g1, 0, none⟩) n c1], .agg #[.int .i64 E1, .slice (some ⟨g2, 0, none⟩) n c2, .slice (some ⟨g3, 0, none⟩) n c3]] w fun r w' => ∃ h0 k0 h1 k1, r = .returned (.tuple #[.agg #[.int .i64 ((E0 + E1 + (q % (t : Int)).toNat : Nat) : Int), .slice (some ⟨h0, 0, none⟩) n k0, .slice (some ⟨h1, 0, none⟩) n k1], .bool true]) ∧ IsI w' h0 (plusI n a0 b0 q) ∧ IsI w' h1 (plusI n a1 b1 q) ∧ Up w w' := by
  have hm := mod_bounds (show (0 : Int) < (t : Int) by omega) q
  have HF : Hid _ := hfit
  have HRR : Hid (∀ W, Calls Tryz.prog 133 #[.agg #[.int .i64 n, .int .i64 t, .int .i64 q, .int .i64 b]] W fun r w' => r = .returned (.int .i64 ((q % (t : Int)).toNat : Int)) ∧ Up W w') := fun W => by
    have := Rest_calls n t q b W (by omega) (by omega) (by omega) hq2
    rw [show ((q % (t : Int)).toNat : Int) = q % (t : Int) by omega]
    exact this
  have hRb : (q % (t : Int)).toNat ≤ 1021 := by omega
  generalize (q % (t : Int)).toNat = R at HF HRR hRb
  have e1 : IntKind.i64.wrap ((E0 : Int) + (E1 : Int)) = (E0 : Int) + (E1 : Int) := IntWalk.i64_in _ (by omega)
  have e2 : IntKind.i64.wrap ((E0 : Int) + (E1 : Int) + (R : Int)) = ((E0 + E1 + R : Nat) : Int) := by rw [IntWalk.i64_in _ (by omega)]; omega
  generalize E0 + E1 + R = S at e2 HF
  have L0 : Hid _ := l0
  have L1 : Hid _ := l1
  have L2 : Hid _ := l2
  have L3 : Hid _ := l3
  have D0 : Hid _ := d0
  have D1 : Hid _ := d1
  have D2 : Hid _ := d2
  have D3 : Hid _ := d3
  clear hm hfit l0 l1 l2 l3 d0 d1 d2 d3
  obtain ⟨W, hW⟩ : ∃ W, W = (((w.alloc (.cells #[.int .i64 n, .int .i64 t, .int .i64 q, .int .i64 b] 28)).alloc (.cells #[.int .i64 E0, .slice (some ⟨g0, 0, none⟩) n c0, .slice (some ⟨g1, 0, none⟩) n c1] 84)).alloc (.cells #[.int .i64 E1, .slice (some ⟨g2, 0, none⟩) n c2, .slice (some ⟨g3, 0, none⟩) n c3] 84)).alloc (.cells #[.int .i64 0, .slice none 0 0, .slice none 0 0] 84) := ⟨_, rfl⟩
  have huW : Up w W := by rw [hW]; exact ((((Up.refl _).alloc _).alloc _).alloc _).alloc _
  have hsW : W.heap.size = w.heap.size + 4 := by rw [hW]; simp
  have hS0 : W.cell? ⟨w.heap.size, 0, none⟩ = some (.int .i64 (n : Int)) := by rw [hW]; simp [go_sem]
  have hS1 : W.cell? ⟨w.heap.size, 1, none⟩ = some (.int .i64 (t : Int)) := by rw [hW]; simp [go_sem]
  have hS2 : W.cell? ⟨w.heap.size, 2, none⟩ = some (.int .i64 q) := by rw [hW]; simp [go_sem]
  have hS3 : W.cell? ⟨w.heap.size, 3, none⟩ = some (.int .i64 b) := by rw [hW]; simp [go_sem]
  have hX0 : W.cell? ⟨w.heap.size + 1, 0, none⟩ = some (.int .i64 (E0 : Int)) := by rw [hW]; simp [go_sem]
  have hY0 : W.cell? ⟨w.heap.size + 2, 0, none⟩ = some (.int .i64 (E1 : Int)) := by rw [hW]; simp [go_sem]
  have HX1 : Hid (W.cell? ⟨w.heap.size + 1, 1, none⟩ = some (.slice (some ⟨g0, 0, none⟩) n c0)) := show W.cell? ⟨w.heap.size + 1, 1, none⟩ = some (.slice (some ⟨g0, 0, none⟩) n c0) from by rw [hW]; simp [go_sem]
  have HX2 : Hid (W.cell? ⟨w.heap.size + 1, 2, none⟩ = some (.slice (some ⟨g1, 0, none⟩) n c1)) := show W.cell? ⟨w.heap.size + 1, 2, none⟩ = some (.slice (some ⟨g1, 0, none⟩) n c1) from by rw [hW]; simp [go_sem]
  have HY1 : Hid (W.cell? ⟨w.heap.size + 2, 1, none⟩ = some (.slice (some ⟨g2, 0, none⟩) n c2)) := show W.cell? ⟨w.heap.size + 2, 1, none⟩ = some (.slice (some ⟨g2, 0, none⟩) n c2) from by rw [hW]; simp [go_sem]
  have HY2 : Hid (W.cell? ⟨w.heap.size + 2, 2, none⟩ = some (.slice (some ⟨g3, 0, none⟩) n c3)) := show W.cell? ⟨w.heap.size + 2, 2, none⟩ = some (.slice (some ⟨g3, 0, none⟩) n c3) from by rw [hW]; simp [go_sem]
  have HK0 : Hid (W.cell? ⟨w.heap.size + 3, 0, none⟩ = some (.int .i64 0)) := show W.cell? ⟨w.heap.size + 3, 0, none⟩ = some (.int .i64 0) from by rw [hW]; simp [go_sem]
  have HK1 : Hid (W.cell? ⟨w.heap.size + 3, 1, none⟩ = some (.slice none 0 0)) := show W.cell? ⟨w.heap.size + 3, 1, none⟩ = some (.slice none 0 0) from by rw [hW]; simp [go_sem]
  have HK2 : Hid (W.cell? ⟨w.heap.size + 3, 2, none⟩ = some (.slice none 0 0)) := show W.cell? ⟨w.heap.size + 3, 2, none⟩ = some (.slice none 0 0) from by rw [hW]; simp [go_sem]
  have HZ : Hid (∀ o, W.frozen? ⟨w.heap.size + 3, o, none⟩ = false) := show ∀ o, W.frozen? ⟨w.heap.size + 3, o, none⟩ = false from fun o => by rw [hW]; simp [go_sem]
  go_enter Tryz.func161, Tryz.ntmps161
  go_wp2_with fail
  rw [← hW]
  clear hW
  go_region_held3 (fun w' => w'.cell? ⟨w.heap.size, 0, none⟩ = some (.int .i64 (n : Int)) ∧ w'.cell? ⟨w.heap.size, 1, none⟩ = some (.int .i64 (t : Int)) ∧ w'.cell? ⟨w.heap.size, 2, none⟩ = some (.int .i64 q) ∧ w'.cell? ⟨w.heap.size, 3, none⟩ = some (.int .i64 b) ∧ w'.cell? ⟨w.heap.size + 1, 0, none⟩ = some (.int .i64 (E0 : Int)) ∧ w'.cell? ⟨w.heap.size + 2, 0, none⟩ = some (.int .i64 (E1 : Int)))
    (first | go_keep | exact keepC6 hu2 (by assumption))
    ((first | (go_at_call 133; refine Calls.mono (HRR.out _) ?_; rintro r w2 ⟨rfl, hu2⟩)))
  have hu02 : Up W w2 := Up.trans (Up.drew (Up.refl _)) hu2
  clear hu2 e1 e2
  have hT0 := keepC hu02 hS0
  have hT1 := keepC hu02 hS1
  have hT2 := keepC hu02 hS2
  have hT3 := keepC hu02 hS3
  clear hX0 hY0
  go_wp2_with fail
  refine (Fits_calls _ _ _ _ _ _ (by omega) (by omega) (by omega) hq2 (by omega)).mono ?_
  rintro r w3 ⟨rfl, hu3⟩
  rw [HF.out]
  have hu03 := hu02.trans hu3
  clear hT0 hT1 hT2 hT3 hu3
  have hT2 := keepC hu03 hS2
  have hX1 := keepC hu03 HX1.out
  have hY1 := keepC hu03 HY1.out
  have j0 := i0.up (huW.trans hu03)
  have j2 := i2.up (huW.trans hu03)
  go_wp2_with fail
  refine (ringAdd_calls n a0 b0 g0 g2 c0 c2 q _ hn L0.out L2.out (by omega) hq2 D0.out D2.out j0 j2).mono ?_
  rintro r w4 ⟨v4, rfl, ho4, hu4⟩
  obtain ⟨h4, k4, rfl, _, _⟩ := ho4.is (ne_nil_of_length (plusI_length _ _ _ _) (by omega))
  rw [plusI_length] at ho4 ⊢
  have hu04 := hu03.trans hu4
  clear hT2 hX1 hY1 j0 j2
  have hT2 := keepC hu04 hS2
  have hX2 := keepC hu04 HX2.out
  have hY2 := keepC hu04 HY2.out
  have j1 := i1.up (huW.trans hu04)
  have j3 := i3.up (huW.trans hu04)
  go_wp2_with fail
  refine (ringAdd_calls n a1 b1 g1 g3 c1 c3 q _ hn L1.out L3.out (by omega) hq2 D1.out D3.out j1 j3).mono ?_
  rintro r w5 ⟨v5, rfl, ho5, hu5⟩
  obtain ⟨h5, k5, rfl, _, _⟩ := ho5.is (ne_nil_of_length (plusI_length _ _ _ _) (by omega))
  rw [plusI_length] at ho5 ⊢
  have hu05 := hu04.trans hu5
  clear hT2 hX2 hY2 j1 j3
  have hk0 := keepC hu05 HK0.out
  have hk1 := keepC hu05 HK1.out
  have hk2 := keepC hu05 HK2.out
  have hz0 := ((bcell hu05).2 _ _ (by omega)).trans (HZ.out 0)
  have hz1 := ((bcell hu05).2 _ _ (by omega)).trans (HZ.out 1)
  have hz2 := ((bcell hu05).2 _ _ (by omega)).trans (HZ.out 2)
  go_wp2_with fail
  have hall : Below w.heap.size w w5 := huW.trans hu05
  have hs3 : w.heap.size + 4 ≤ w3.heap.size := by rw [← hsW]; exact Up.le hu03
  have hs4 : w.heap.size + 4 ≤ w4.heap.size := by rw [← hsW]; exact Up.le hu04
  have hb0 := (ho4.up hu5).base (base' := w.heap.size + 4) hs3
  have hb1 := ho5.base (base' := w.heap.size + 4) hs4
  refine bodyPost_ret (v := .tuple #[.agg #[.int .i64 (S : Int), .slice (some ⟨h4, 0, none⟩) n k4, .slice (some ⟨h5, 0, none⟩) n k5], .bool true]) (by simp [results, Tryz.results161, go_sem, hk0, hk1, hk2]) rfl ⟨h4, k4, h5, k5, rfl, ?_, ?_, ?_⟩
  · exact OwnI.isI (ownsRow_setCell_below (ownsRow_setCell_below (ownsRow_setCell_below hb0 (by simp) _) (by simp) _) (by simp) _)
  · exact OwnI.isI (ownsRow_setCell_below (ownsRow_setCell_below (ownsRow_setCell_below hb1 (by simp) _) (by simp) _) (by simp) _)
  · exact ((hall.setCell (by dsimp only; omega) _).setCell (by dsimp only; omega) _).setCell (by dsimp only; omega) _

end Go.Proofs.YtcjhgbljhpflfabGreat

namespace Go.Proofs.YtcjhgbljhpflfabGreat
open Go.RowKit
set_option linter.unusedVariables false
set_option maxRecDepth 100000

/-- append([]int{}, ys...) -/
theorem append_copy {ops : Array Oper} {rest : List Oper} {o : Oper} {a : Act} {Q : Exit → Act → World → Prop} (w : World) (hgd : o.guard = none) (s x : Operand)
    (ho : o.op = .call { callee := .builtin .append, args := #[s, x], argTypes := #[54, 54] })
    (hs : a.eval s = .slice (some ⟨w.heap.size, 0, none⟩) 0 0) (g cap n : Nat) (ys : List Int) (hl : ys.length = n) (hx : a.eval x = .slice (some ⟨g, 0, none⟩) n cap) (iy : IsI w g ys) (hn : n ≤ 1000)
    (h : ∀ v' w', OwnI w' w.heap.size v' ys → Up w w' → wpList Tryz.prog ops Q rest (a.put o.dst v') w') :
    wpList Tryz.prog ops Q (o :: rest) a (w.alloc (.cells #[] 3)) := by
  obtain ⟨i0, hi, hz0, hz1, hz2⟩ := info_parts info_int
  have hown : (w.alloc (.cells #[] 3)).ownsRow w.heap.size 3 1 (.slice (some ⟨w.heap.size, 0, none⟩) 0 0) 0 [] := World.ownsRow_lit (base := w.heap.size) (e := 3) (size := 1) w #[] 0 (Nat.le_refl _) (by decide) rfl
  have iy' := iy.up ((Up.refl _).alloc (.cells #[] 3))
  refine wpList_append_own_at _ hgd s x 54 ho w.heap.size 3 i0 (.int .i64 0) 1 8 Tryz.underlying54 hi hz0 hz1 hz2 rfl (by decide) _ 0 [] hs hown
    ⟨g, 0, none⟩ n cap (ys.map (Value.int .i64)) hx (by simp [hl]) ?_ ?_ ?_ ?_ ?_ ?_
  · intro j u hj
    rw [List.getElem?_map] at hj
    rcases Nat.lt_or_ge j ys.length with hjl | hjl
    · rw [List.getElem?_eq_getElem hjl] at hj
      simp at hj
      subst hj
      have e := iy'.2 j hjl
      rw [List.getD_eq_getElem?_getD, List.getElem?_eq_getElem hjl] at e
      rw [show (⟨g, 0, none⟩ : Addr).add j = ⟨g, j, none⟩ from by simp [Addr.add]; omega]
      simpa using e
    · rw [List.getElem?_eq_none hjl] at hj
      cases hj
  · intro u hu
    obtain ⟨z, _, rfl⟩ := List.mem_map.1 hu
    rfl
  · unfold maxLen; omega
  · omega
  · simp
  · intro v' w' h1 h2 h3 h4
    have hu1 : Below w.heap.size (w.alloc (.cells #[] 3)) w' := (Below.refl _ _).grown h2 (by simp) (fun k hk => (World.ownsRow.lt hown k hk).1)
    refine h v' w' ?_ (Below.trans ((Up.refl w).alloc _) hu1)
    show World.ownsRow _ _ _ _ _ _ _
    rw [hl]
    simpa using h1

theorem keepC5 {p0 p1 p2 p3 p4 : Addr} {u0 u1 u2 u3 u4 : Value} {W W' : World} (hu : Up W W') (hS : W.cell? p0 = some u0 ∧ W.cell? p1 = some u1 ∧ W.cell? p2 = some u2 ∧ W.cell? p3 = some u3 ∧ W.cell? p4 = some u4) :
    W'.cell? p0 = some u0 ∧ W'.cell? p1 = some u1 ∧ W'.cell? p2 = some u2 ∧ W'.cell? p3 = some u3 ∧ W'.cell? p4 = some u4 :=
  ⟨keepC hu hS.1, keepC hu hS.2.1, keepC hu hS.2.2.1, keepC hu hS.2.2.2.1, keepC hu hS.2.2.2.2⟩

set_option maxHeartbeats 4000000 in
theorem cipherAddPlain_no (n t E0 : Nat) (q b : Int) (g0 c0 g1 c1 gv cv : Nat) (w : World) (ht : 1 ≤ t) (ht2 : t ≤ 1021) (hq : 2 ≤ q) (hq2 : q ≤ 1073741823) (h0 : (E0 : Int) < q) (hfit : fitsB t q ((E0 + (q % (t : Int)).toNat : Nat) : Int) = false) :
    Calls Tryz.prog 94 #[.agg #[.int .i64 n, .int .i64 t, .int .i64 q, .int .i64 b], .agg #[.int .i64 E0, .slice (some ⟨g0, 0, none⟩) n c0, .slice (some ⟨g1, 0, none⟩) n c1], .slice (some ⟨gv, 0, none⟩) n cv] w fun r w' => r = .returned (.tuple #[.agg #[.int .i64 0, .slice none 0 0, .slice none 0 0], .bool false]) ∧ Up w w' := by
  have hm := mod_bounds (show (0 : Int) < (t : Int) by omega) q
  have HF : Hid _ := hfit
  have HRR : Hid (∀ W, Calls Tryz.prog 133 #[.agg #[.int .i64 n, .int .i64 t, .int .i64 q, .int .i64 b]] W fun r w' => r = .returned (.int .i64 ((q % (t : Int)).toNat : Int)) ∧ Up W w') := fun W => by
    have := Rest_calls n t q b W (by omega) (by omega) (by omega) hq2
    rw [show ((q % (t : Int)).toNat : Int) = q % (t : Int) by omega]
    exact this
  have hRb : (q % (t : Int)).toNat ≤ 1021 := by omega
  generalize (q % (t : Int)).toNat = R at HF HRR hRb
  have e2 : IntKind.i64.wrap ((E0 : Int) + (R : Int)) = ((E0 + R : Nat) : Int) := by rw [IntWalk.i64_in _ (by omega)]; omega
  generalize E0 + R = S at e2 HF
  clear hm hfit
  obtain ⟨W, hW⟩ : ∃ W, W = ((w.alloc (.cells #[.int .i64 n, .int .i64 t, .int .i64 q, .int .i64 b] 28)).alloc (.cells #[.int .i64 E0, .slice (some ⟨g0, 0, none⟩) n c0, .slice (some ⟨g1, 0, none⟩) n c1] 84)).alloc (.cells #[.int .i64 0, .slice none 0 0, .slice none 0 0] 84) := ⟨_, rfl⟩
  have huW : Up w W := by rw [hW]; exact (((Up.refl _).alloc _).alloc _).alloc _
  have hsW : W.heap.size = w.heap.size + 3 := by rw [hW]; simp
  have hS0 : W.cell? ⟨w.heap.size, 0, none⟩ = some (.int .i64 (n : Int)) := by rw [hW]; simp [go_sem]
  have hS1 : W.cell? ⟨w.heap.size, 1, none⟩ = some (.int .i64 (t : Int)) := by rw [hW]; simp [go_sem]
  have hS2 : W.cell? ⟨w.heap.size, 2, none⟩ = some (.int .i64 q) := by rw [hW]; simp [go_sem]
  have hS3 : W.cell? ⟨w.heap.size, 3, none⟩ = some (.int .i64 b) := by rw [hW]; simp [go_sem]
  have hX0 : W.cell? ⟨w.heap.size + 1, 0, none⟩ = some (.int .i64 (E0 : Int)) := by rw [hW]; simp [go_sem]
  have HK0 : Hid (W.cell? ⟨w.heap.size + 2, 0, none⟩ = some (.int .i64 0)) := show W.cell? ⟨w.heap.size + 2, 0, none⟩ = some (.int .i64 0) from by rw [hW]; simp [go_sem]
  have HK1 : Hid (W.cell? ⟨w.heap.size + 2, 1, none⟩ = some (.slice none 0 0)) := show W.cell? ⟨w.heap.size + 2, 1, none⟩ = some (.slice none 0 0) from by rw [hW]; simp [go_sem]
  have HK2 : Hid (W.cell? ⟨w.heap.size + 2, 2, none⟩ = some (.slice none 0 0)) := show W.cell? ⟨w.heap.size + 2, 2, none⟩ = some (.slice none 0 0) from by rw [hW]; simp [go_sem]
  have HZ : Hid (∀ o, W.frozen? ⟨w.heap.size + 2, o, none⟩ = false) := show ∀ o, W.frozen? ⟨w.heap.size + 2, o, none⟩ = false from fun o => by rw [hW]; simp [go_sem]
  go_enter Tryz.func94, Tryz.ntmps94
  go_wp2_with fail
  rw [← hW]
  clear hW
  go_region_held3 (fun w' => w'.cell? ⟨w.heap.size, 0, none⟩ = some (.int .i64 (n : Int)) ∧ w'.cell? ⟨w.heap.size, 1, none⟩ = some (.int .i64 (t : Int)) ∧ w'.cell? ⟨w.heap.size, 2, none⟩ = some (.int .i64 q) ∧ w'.cell? ⟨w.heap.size, 3, none⟩ = some (.int .i64 b) ∧ w'.cell? ⟨w.heap.size + 1, 0, none⟩ = some (.int .i64 (E0 : Int)))
    (first | go_keep | exact keepC5 hu2 (by assumption))
    ((first | (go_at_call 133; refine Calls.mono (HRR.out _) ?_; rintro r w2 ⟨rfl, hu2⟩)))
  have hu02 : Up W w2 := Up.trans (Up.drew (Up.refl _)) hu2
  clear hu2 e2
  have hT0 := keepC hu02 hS0
  have hT1 := keepC hu02 hS1
  have hT2 := keepC hu02 hS2
  have hT3 := keepC hu02 hS3
  clear hS0 hS1 hS2 hS3 hX0
  go_wp2_with fail
  refine (Fits_calls _ _ _ _ _ _ (by omega) (by omega) (by omega) hq2 (by omega)).mono ?_
  rintro r w3 ⟨rfl, hu3⟩
  rw [HF.out]
  have hu03 := hu02.trans hu3
  clear hT0 hT1 hT2 hT3
  have hk0 := keepC hu03 HK0.out
  have hk1 := keepC hu03 HK1.out
  have hk2 := keepC hu03 HK2.out
  have hz0 := ((bcell hu03).2 _ _ (by omega)).trans (HZ.out 0)
  have hz1 := ((bcell hu03).2 _ _ (by omega)).trans (HZ.out 1)
  have hz2 := ((bcell hu03).2 _ _ (by omega)).trans (HZ.out 2)
  go_wp2_with fail
  have hall : Below w.heap.size w w3 := huW.trans hu03
  refine bodyPost_ret (v := .tuple #[.agg #[.int .i64 0, .slice none 0 0, .slice none 0 0], .bool false]) (by simp [results, Tryz.results94, go_sem, hk0, hk1, hk2]) rfl ⟨rfl, ?_⟩
  exact ((hall.setCell (by dsimp only; omega) _).setCell (by dsimp only; omega) _).setCell (by dsimp only; omega) _

set_option maxHeartbeats 4000000 in
theorem cipherAddPlain_ok (n t E0 : Nat) (q b : Int) (a0 a1 vs : List Int) (g0 c0 g1 c1 gv cv : Nat) (w : World) (g : NT n t) (hq : 2 ≤ q) (hq2 : q ≤ 1073741823) (h0 : (E0 : Int) < q) (hfit : fitsB t q ((E0 + (q % (t : Int)).toNat : Nat) : Int) = true)
    (l0 : a0.length = n) (l1 : a1.length = n) (lv : vs.length = n) (d0 : Bnd a0 4294967296) (hbv : ∀ i, i < vs.length → 0 ≤ vs.getD i 0 ∧ vs.getD i 0 < 65536) (i0 : IsI w g0 a0) (i1 : IsI w g1 a1) (iv : IsI w gv vs) :
    Calls Tryz.prog 94 #[.agg #[.int .i64 n, .int .i64 t, .int .i64 q, .int .i64 b], .agg #[.int .i64 E0, .slice (some ⟨g0, 0, none⟩) n c0, .slice (some ⟨g1, 0, none⟩) n c1], .slice (some ⟨gv, 0, none⟩) n cv] w fun r w' => ∃ h0 k0 h1 k1, r = .returned (.tuple #[.agg #[.int .i64 ((E0 + (q % (t : Int)).toNat : Nat) : Int), .slice (some ⟨h0, 0, none⟩) n k0, .slice (some ⟨h1, 0, none⟩) n k1], .bool true]) ∧ IsI w' h0 (plusI n a0 (liftI n t q vs) q) ∧ IsI w' h1 a1 ∧ Up w w' := by
  have ht := g.t3
  have ht2 := g.ht
  obtain ⟨hd1, hd2, hd3⟩ := g.half
  have hm := mod_bounds (show (0 : Int) < (t : Int) by omega) q
  have HF : Hid _ := hfit
  have HRR : Hid (∀ W, Calls Tryz.prog 133 #[.agg #[.int .i64 n, .int .i64 t, .int .i64 q, .int .i64 b]] W fun r w' => r = .returned (.int .i64 ((q % (t : Int)).toNat : Int)) ∧ Up W w') := fun W => by
    have := Rest_calls n t q b W (by omega) (by omega) (by omega) hq2
    rw [show ((q % (t : Int)).toNat : Int) = q % (t : Int) by omega]
    exact this
  have hRb : (q % (t : Int)).toNat ≤ 1021 := by omega
  generalize (q % (t : Int)).toNat = R at HF HRR hRb
  have e2 : IntKind.i64.wrap ((E0 : Int) + (R : Int)) = ((E0 + R : Nat) : Int) := by rw [IntWalk.i64_in _ (by omega)]; omega
  generalize E0 + R = S at e2 HF
  have L0 : Hid _ := l0
  have L1 : Hid _ := l1
  have LV : Hid _ := lv
  have D0 : Hid _ := d0
  have DV : Hid _ := hbv
  clear hm hfit l0 l1 lv d0 hbv
  obtain ⟨W, hW⟩ : ∃ W, W = ((w.alloc (.cells #[.int .i64 n, .int .i64 t, .int .i64 q, .int .i64 b] 28)).alloc (.cells #[.int .i64 E0, .slice (some ⟨g0, 0, none⟩) n c0, .slice (some ⟨g1, 0, none⟩) n c1] 84)).alloc (.cells #[.int .i64 0, .slice none 0 0, .slice none 0 0] 84) := ⟨_, rfl⟩
  have huW : Up w W := by rw [hW]; exact (((Up.refl _).alloc _).alloc _).alloc _
  have hsW : W.heap.size = w.heap.size + 3 := by rw [hW]; simp
  have hS0 : W.cell? ⟨w.heap.size, 0, none⟩ = some (.int .i64 (n : Int)) := by rw [hW]; simp [go_sem]
  have hS1 : W.cell? ⟨w.heap.size, 1, none⟩ = some (.int .i64 (t : Int)) := by rw [hW]; simp [go_sem]
  have hS2 : W.cell? ⟨w.heap.size, 2, none⟩ = some (.int .i64 q) := by rw [hW]; simp [go_sem]
  have hS3 : W.cell? ⟨w.heap.size, 3, none⟩ = some (.int .i64 b) := by rw [hW]; simp [go_sem]
  have hX0 : W.cell? ⟨w.heap.size + 1, 0, none⟩ = some (.int .i64 (E0 : Int)) := by rw [hW]; simp [go_sem]
  have HX1 : Hid (W.cell? ⟨w.heap.size + 1, 1, none⟩ = some (.slice (some ⟨g0, 0, none⟩) n c0)) := show W.cell? ⟨w.heap.size + 1, 1, none⟩ = some (.slice (some ⟨g0, 0, none⟩) n c0) from by rw [hW]; simp [go_sem]
  have HX2 : Hid (W.cell? ⟨w.heap.size + 1, 2, none⟩ = some (.slice (some ⟨g1, 0, none⟩) n c1)) := show W.cell? ⟨w.heap.size + 1, 2, none⟩ = some (.slice (some ⟨g1, 0, none⟩) n c1) from by rw [hW]; simp [go_sem]
  have HK0 : Hid (W.cell? ⟨w.heap.size + 2, 0, none⟩ = some (.int .i64 0)) := show W.cell? ⟨w.heap.size + 2, 0, none⟩ = some (.int .i64 0) from by rw [hW]; simp [go_sem]
  have HK1 : Hid (W.cell? ⟨w.heap.size + 2, 1, none⟩ = some (.slice none 0 0)) := show W.cell? ⟨w.heap.size + 2, 1, none⟩ = some (.slice none 0 0) from by rw [hW]; simp [go_sem]
  have HK2 : Hid (W.cell? ⟨w.heap.size + 2, 2, none⟩ = some (.slice none 0 0)) := show W.cell? ⟨w.heap.size + 2, 2, none⟩ = some (.slice none 0 0) from by rw [hW]; simp [go_sem]
  have HZ : Hid (∀ o, W.frozen? ⟨w.heap.size + 2, o, none⟩ = false) := show ∀ o, W.frozen? ⟨w.heap.size + 2, o, none⟩ = false from fun o => by rw [hW]; simp [go_sem]
  go_enter Tryz.func94, Tryz.ntmps94
  go_wp2_with fail
  rw [← hW]
  clear hW
  go_region_held3 (fun w' => w'.cell? ⟨w.heap.size, 0, none⟩ = some (.int .i64 (n : Int)) ∧ w'.cell? ⟨w.heap.size, 1, none⟩ = some (.int .i64 (t : Int)) ∧ w'.cell? ⟨w.heap.size, 2, none⟩ = some (.int .i64 q) ∧ w'.cell? ⟨w.heap.size, 3, none⟩ = some (.int .i64 b) ∧ w'.cell? ⟨w.heap.size + 1, 0, none⟩ = some (.int .i64 (E0 : Int)))
    (first | go_keep | exact keepC5 hu2 (by assumption))
    ((first | (go_at_call 133; refine Calls.mono (HRR.out _) ?_; rintro r w2 ⟨rfl, hu2⟩)))
  have hu02 : Up W w2 := Up.trans (Up.drew (Up.refl _)) hu2
  clear hu2 e2
  have hT0 := keepC hu02 hS0
  have hT1 := keepC hu02 hS1
  have hT2 := keepC hu02 hS2
  have hT3 := keepC hu02 hS3
  clear hX0
  go_wp2_with fail
  refine (Fits_calls _ _ _ _ _ _ (by omega) (by omega) (by omega) hq2 (by omega)).mono ?_
  rintro r w3 ⟨rfl, hu3⟩
  rw [HF.out]
  have hu03 := hu02.trans hu3
  clear hT0 hT1 hT2 hT3 hu3
  have hT0 := keepC hu03 hS0
  have hT1 := keepC hu03 hS1
  have hT2 := keepC hu03 hS2
  have hT3 := keepC hu03 hS3
  go_wp2_with fail
  refine (lift_calls n t q b vs gv cv _ g hq hq2 LV.out DV.out (iv.up (huW.trans hu03))).mono ?_
  rintro r w4 ⟨v4, rfl, ho4, hu4⟩
  obtain ⟨h4, k4, rfl, _, i4⟩ := ho4.is (ne_nil_of_length (liftI_length _ _ _ _) (by omega))
  rw [liftI_length]
  have hu04 := hu03.trans hu4
  clear hT0 hT1 hT2 hT3 ho4
  have hT2 := keepC hu04 hS2
  have hX1 := keepC hu04 HX1.out
  have j0 := i0.up (huW.trans hu04)
  go_wp2_with fail
  refine (ringAdd_calls n a0 (liftI n t q vs) g0 h4 c0 k4 q _ (by omega) L0.out (liftI_length _ _ _ _) (by omega) hq2 D0.out (liftI_bnd _ _ _ _ _ (by omega) (by omega)) j0 i4).mono ?_
  rintro r w5 ⟨v5, rfl, ho5, hu5⟩
  obtain ⟨h5, k5, rfl, _, _⟩ := ho5.is (ne_nil_of_length (plusI_length _ _ _ _) (by omega))
  rw [plusI_length] at ho5 ⊢
  have hu05 := hu04.trans hu5
  clear hT2 hX1 j0
  have hX2 := keepC hu05 HX2.out
  have j1 := i1.up (huW.trans hu05)
  have hlt5 : w.heap.size + 1 < w5.heap.size := by have := Up.le hu05; omega
  go_wp2_with (at_builtin; refine append_copy _ rfl (.tmp 31) (.tmp 33) rfl rfl g1 c1 n a1 L1.out rfl j1 (by omega) ?_)
  intro v6 w6 ho6 hu6
  obtain ⟨h6, k6, rfl, _, _⟩ := ho6.is (ne_nil_of_length L1.out (by omega))
  rw [L1.out] at ho6 ⊢
  have hu06 := hu05.trans hu6
  clear hX2 j1
  have hk0 := keepC hu06 HK0.out
  have hk1 := keepC hu06 HK1.out
  have hk2 := keepC hu06 HK2.out
  have hz0 := ((bcell hu06).2 _ _ (by omega)).trans (HZ.out 0)
  have hz1 := ((bcell hu06).2 _ _ (by omega)).trans (HZ.out 1)
  have hz2 := ((bcell hu06).2 _ _ (by omega)).trans (HZ.out 2)
  go_wp2_with fail
  have hall : Below w.heap.size w w6 := huW.trans hu06
  have hs4 : w.heap.size + 3 ≤ w4.heap.size := by rw [← hsW]; exact Up.le hu04
  have hs5 : w.heap.size + 3 ≤ w5.heap.size := by rw [← hsW]; exact Up.le hu05
  have hb0 := (ho5.up hu6).base (base' := w.heap.size + 3) hs4
  have hb1 := ho6.base (base' := w.heap.size + 3) hs5
  refine bodyPost_ret (v := .tuple #[.agg #[.int .i64 (S : Int), .slice (some ⟨h5, 0, none⟩) n k5, .slice (some ⟨h6, 0, none⟩) n k6], .bool true]) (by simp [results, Tryz.results94, go_sem, hk0, hk1, hk2]) rfl ⟨h5, k5, h6, k6, rfl, ?_, ?_, ?_⟩
  · exact OwnI.isI (ownsRow_setCell_below (ownsRow_setCell_below (ownsRow_setCell_below hb0 (by simp) _) (by simp) _) (by simp) _)
  · exact OwnI.isI (ownsRow_setCell_below (ownsRow_setCell_below (ownsRow_setCell_below hb1 (by simp) _) (by simp) _) (by simp) _)
  · exact ((hall.setCell (by dsimp only; omega) _).setCell (by dsimp only; omega) _).setCell (by dsimp only; omega) _

end Go.Proofs.YtcjhgbljhpflfabGreat
