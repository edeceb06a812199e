/-
  Walks: the program's matrix times values, and the bias.
-/
import Derived.Test.YtcjhgbljhpflfabGreatCodeLb
import Derived.Test.YtcjhgbljhpflfabGreatKeepA
import Derived.Test.YtcjhgbljhpflfabGreatWalksNa
namespace Go.Proofs.YtcjhgbljhpflfabGreat
open Go.RowKit
set_option linter.unusedVariables false
set_option maxRecDepth 100000

theorem matR_bnd (n : Nat) (l : List UInt8) (k i : Nat) : 0 ≤ (matR n l k).getD i 0 ∧ (matR n l k).getD i 0 ≤ 65536 := by
  rcases Nat.lt_or_ge i (n / 2) with h | h
  · rw [matR, getD_range h]
    have := numL_two l (entN n k i)
    omega
  · rw [getD_out _ _ (by rw [matR_length]; exact h)]
    omega

theorem biasI_bnd (n : Nat) (l : List UInt8) : Bnd (biasI n l) 4294967296 := by
  intro i
  rcases Nat.lt_or_ge i n with h | h
  · rw [biasI, getD_range h]
    have : apB n l i < 65536 := numL_two l _
    omega
  · rw [getD_out _ _ (by rw [biasI_length]; exact h)]
    omega

theorem OwnI.isc {w : World} {base : Nat} {v : Value} {xs : List Int} (h : OwnI w base v xs) (hx : xs ≠ []) :
    ∃ g cap, v = .slice (some ⟨g, 0, none⟩) xs.length cap ∧ base ≤ g ∧ IsI w g xs ∧ xs.length ≤ cap := by
  obtain ⟨g, cap, rfl, h1, h2⟩ := h.is hx
  refine ⟨g, cap, rfl, h1, h2, ?_⟩
  rcases h.2 with ⟨h3, _⟩ | ⟨g', cap', cur, h3, _, _, h4, _⟩
  · cases h3
  · cases h3
    exact h4

theorem wei_vals (n d : Nat) (hd : n / 2 = d) (t : Int) (l : List UInt8) (ss : List Int) : plusI n ((List.range n).map (tmC d t (matR n l) ss)) (biasI n l) t = appI n t l ss := by
  subst hd
  refine list_same (n := n) (plusI_length _ _ _ _) (appI_length _ _ _ _) fun i hi => ?_
  rw [plusI, getD_range hi, plusC, getD_range hi, biasI, getD_range hi, appI, getD_range hi, tmC, apC]
  have e : scI (matR n l (i % (n / 2))) ss (i / (n / 2) * (n / 2)) (n / 2) = sumI (apT n l ss (i / (n / 2)) (i % (n / 2))) (n / 2) := by
    refine sumI_congr fun k hk => ?_
    rw [matR, getD_range hk]
    rfl
  rw [e]
  generalize sumI (apT n l ss (i / (n / 2)) (i % (n / 2))) (n / 2) = S
  generalize (apB n l i : Int) = Bb
  rw [add_mod_left]
  congr 1
  omega

theorem appI_bnd (n : Nat) (t : Int) (l : List UInt8) (ss : List Int) (m : Int) (ht : 0 < t) (hm : t ≤ m) : Bnd (appI n t l ss) m := Bnd_mod ht hm fun i => ⟨_, rfl⟩

theorem small_bnd (n : Nat) (t : Int) (vs : List Int) (m : Int) (ht : 0 < t) (hm : t ≤ m) (hl : vs.length = n) (hv : ∀ i, i < n → 0 ≤ vs.getD i 0 ∧ vs.getD i 0 < t) : Bnd vs m := by
  intro i
  rcases Nat.lt_or_ge i n with c | c
  · have := hv i c; omega
  · rw [getD_out _ _ (by rw [hl]; exact c)]; omega

set_option maxHeartbeats 4000000 in
theorem weighed_calls (n t d : Nat) (q b : Int) (l : List UInt8) (bb : Bool) (sh : Int) (H cap : Nat) (gs caps : Nat → Nat) (gb cb gv cv : Nat) (vs : List Int) (w : World) (g : NT n t) (hd : n / 2 = d) (hvl : vs.length = n) (hvb : ∀ i, i < n → 0 ≤ vs.getD i 0 ∧ vs.getD i 0 < (t : Int)) (hR : RowsAt w H d d gs caps (matR n l)) (ib : IsI w gb (biasI n l)) (iv : IsI w gv vs) (hcv : n ≤ cv) :
    Calls Tryz.prog 92 #[.agg #[.int .i64 n, .int .i64 t, .int .i64 q, .int .i64 b], .agg #[.bool bb, .int .i64 sh, .slice (some ⟨H, 0, none⟩) d cap, .slice (some ⟨gb, 0, none⟩) n cb], .slice (some ⟨gv, 0, none⟩) n cv] w fun e w' => ∃ g' c', n ≤ c' ∧ e = .returned (.slice (some ⟨g', 0, none⟩) n c') ∧ IsI w' g' (appI n t l vs) ∧ Up w w' := by
  have ht := g.t3
  have ht2 := g.ht
  have hhf := g.half
  have HTm : Hid (∀ W, RowsAt W H d d gs caps (matR n l) → IsI W gv vs → Calls Tryz.prog 138 #[.slice (some ⟨H, 0, none⟩) d cap, .slice (some ⟨gv, 0, none⟩) n cv, .int .i64 t] W fun e w' => ∃ g' c', e = .returned (.slice (some ⟨g', 0, none⟩) n c') ∧ IsI w' g' ((List.range n).map (tmC d t (matR n l) vs)) ∧ Up W w') := fun W h1 h2 => by
    refine (times_calls n d H cap gs caps (matR n l) t vs gv cv W (by omega) (by omega) (by omega) (by omega) (by omega) (fun j _ => by rw [matR_length, hd]) (matR_bnd n l) hvl (fun i => by
      rcases Nat.lt_or_ge i n with c | c
      · have := hvb i c; omega
      · rw [getD_out _ _ (by rw [hvl]; exact c)]; omega) h1 h2 hcv).mono ?_
    rintro e w' ⟨v, rfl, ho, hu⟩
    obtain ⟨g', c', rfl, _, i⟩ := ho.is (ne_nil_of_length (n := n) (by simp) (by omega))
    rw [show ((List.range n).map (tmC d t (matR n l) vs)).length = n by simp]
    exact ⟨g', c', rfl, i, hu⟩
  have tmb : Bnd ((List.range n).map (tmC d t (matR n l) vs)) 4294967296 := Bnd_mod (q := (t : Int)) (by omega) (by omega) fun i => ⟨_, rfl⟩
  have hW1 := wei_vals n d hd (t : Int) l vs
  have HAd : Hid (∀ W (g' c' : Nat), IsI W g' ((List.range n).map (tmC d t (matR n l) vs)) → IsI W gb (biasI n l) → Calls Tryz.prog 77 #[.slice (some ⟨g', 0, none⟩) n c', .slice (some ⟨gb, 0, none⟩) n cb, .int .i64 t] W fun e w' => ∃ g2 c2, n ≤ c2 ∧ e = .returned (.slice (some ⟨g2, 0, none⟩) n c2) ∧ IsI w' g2 (appI n t l vs) ∧ Up W w') := fun W g' c' h1 h2 => by
    refine (ringAdd_calls n _ (biasI n l) g' gb c' cb t W (by omega) (by simp) (biasI_length _ _) (by omega) (by omega) tmb (biasI_bnd n l) h1 h2).mono ?_
    rintro e w' ⟨v, rfl, ho, hu⟩
    obtain ⟨g2, c2, rfl, _, i, hc⟩ := ho.isc (ne_nil_of_length (plusI_length _ _ _ _) (by omega))
    rw [plusI_length] at hc ⊢
    rw [hW1] at i
    exact ⟨g2, c2, hc, rfl, i, hu⟩
  generalize appI n t l vs = V2 at HAd
  generalize (List.range n).map (tmC d t (matR n l) vs) = V1 at HTm HAd
  have HRR : Hid _ := hR
  clear hR hvb hvl tmb hW1
  obtain ⟨W, hW⟩ : ∃ W, W = (w.alloc (.cells #[.int .i64 n, .int .i64 t, .int .i64 q, .int .i64 b] 28)).alloc (.cells #[.bool bb, .int .i64 sh, .slice (some ⟨H, 0, none⟩) d cap, .slice (some ⟨gb, 0, none⟩) n cb] 80) := ⟨_, rfl⟩
  have huW : Up w W := by rw [hW]; exact ((Up.refl _).alloc _).alloc _
  have hS1 : W.cell? ⟨w.heap.size, 1, none⟩ = some (.int .i64 (t : Int)) := by rw [hW]; simp [go_sem]
  have hL2 : W.cell? ⟨w.heap.size + 1, 2, none⟩ = some (.slice (some ⟨H, 0, none⟩) d cap) := by rw [hW]; simp [go_sem]
  have hL3 : W.cell? ⟨w.heap.size + 1, 3, none⟩ = some (.slice (some ⟨gb, 0, none⟩) n cb) := by rw [hW]; simp [go_sem]
  have KS1 : Hid _ := hS1
  have KL3 : Hid _ := hL3
  go_enter Tryz.func92, Tryz.ntmps92
  go_wp2_with fail
  rw [← hW]
  clear hW
  refine Calls.mono (HTm.out _ (HRR.out.up huW) (iv.up huW)) ?_
  rintro r w2 ⟨g2, c2, rfl, i2, hu2⟩
  clear hS1 hL2 hL3
  have hS1 := keepC hu2 KS1.out
  have hL3 := keepC hu2 KL3.out
  go_wp2_with fail
  refine Calls.mono (HAd.out _ g2 c2 i2 (ib.up (huW.trans hu2))) ?_
  rintro r w3 ⟨g3, c3, hc3, rfl, i3, hu3⟩
  have HC3 : Hid _ := hc3
  clear hc3 hS1 hL3
  go_wp2_with fail
  go_ret
  exact ⟨g3, c3, HC3.out, rfl, i3, (huW.trans hu2).trans hu3⟩

end Go.Proofs.YtcjhgbljhpflfabGreat
