/-
  Walks: the reference's over, Bent.
-/
import Derived.Test.YtcjhgbljhpflfabGreatWalksNa
import Derived.Test.YtcjhgbljhpflfabGreatWalksRk
namespace Go.Proofs.YtcjhgbljhpflfabGreat
open Go.RowKit
set_option linter.unusedVariables false
set_option maxRecDepth 100000

/-- v over 2 to the k-th, the next whole number below or equal -/
def overI (v : Int) : Nat → Int
  | 0 => v
  | k + 1 => overI v k / 2

theorem overI_bounds (v : Int) (k : Nat) (M : Int) (h : -M ≤ v) (h2 : v ≤ M) (hM : 0 ≤ M) : -M ≤ overI v k ∧ overI v k ≤ M := by
  induction k with
  | zero => exact ⟨h, h2⟩
  | succ k ih =>
    simp only [overI]
    omega

theorem half_tdiv (v : Int) : (v - v % 2).tdiv 2 = v / 2 := by
  have h : v - v % 2 = 2 * (v / 2) := by omega
  rw [h, Int.mul_tdiv_cancel_left _ (by decide)]

set_option maxHeartbeats 1000000 in
theorem over_calls (v : Int) (k : Nat) (w : World) (hv : -4611686018427387904 ≤ v) (hv2 : v ≤ 4611686018427387904) (hk : k ≤ 1000) :
    Calls Tryz.prog 172 #[.int .i64 v, .int .i64 k] w fun e w' => e = .returned (.int .i64 (overI v k)) ∧ w' = w := by
  have HB : Hid (∀ j, -4611686018427387904 ≤ overI v j ∧ overI v j ≤ 4611686018427387904) := fun j => overI_bounds v j _ hv hv2 (by omega)
  have HS : Hid (∀ j, overI v (j + 1) = overI v j / 2) := fun j => rfl
  go_enter Tryz.func172, Tryz.ntmps172
  go_wp2_with fail
  go_loopw [0, 1] (fun sv sn wr => ∃ j : Nat, j ≤ k ∧ sv = .int .i64 (overI v j) ∧ sn = .int .i64 (((k - j : Nat)) : Int) ∧ wr = w) (fun _ sn _ => (intOf sn).toNat)
  case atStart => exact ⟨0, Nat.zero_le _, rfl, rfl, rfl⟩
  case round =>
    obtain ⟨j, hj, rfl, rfl, rfl⟩ := hrel
    have hb := HB.out j
    have HSj : Hid _ := HS.out j
    by_cases hlt : j < k
    · generalize overI v j = x at hb HSj
      obtain ⟨r, hr⟩ : ∃ r, k - j = r + 1 := ⟨k - j - 1, by omega⟩
      have HR : Hid (k - (j + 1) = r) := show _ = _ by omega
      rw [hr]
      have e1 : (x - x % 2).tdiv 2 = x / 2 := half_tdiv x
      have h2 : (0 : Int) < ((r + 1 : Nat) : Int) := by omega
      have h3 := mod_bounds (show (0 : Int) < 2 by decide) x
      go_wp2_with (go_at_call 112; refine (Mod_calls _ _ _ (by omega) (by omega)).mono ?_; rintro e w' ⟨rfl, rfl⟩)
      go_roundw
      case rel => exact ⟨j + 1, by omega, by rw [HSj.out], by rw [HR.out], trivial⟩
      case measure => simp [intOf]
    · obtain rfl : j = k := by omega
      have h0 : j - j = 0 := by omega
      rw [h0]
      go_wp2_with fail
      go_ret
      exact ⟨rfl, rfl⟩

/-- what a layer makes of one number -/
def bentX (l : List UInt8) (c : Int) : Int := if c < 0 ∧ byteL l 1 = 1 then 0 else c
def bentC (t : Int) (l : List UInt8) (x : Int) : Int := overI (bentX l (cenC t x)) (byteL l 2) % t
def bentI (n : Nat) (t : Int) (l : List UInt8) (vs : List Int) : List Int := (List.range n).map fun i => bentC t l (vs.getD i 0)

theorem bentI_length (n : Nat) (t : Int) (l : List UInt8) (vs : List Int) : (bentI n t l vs).length = n := by simp [bentI]

theorem bentI_lt (n : Nat) (t : Int) (l : List UInt8) (vs : List Int) (ht : 0 < t) : ∀ i, i < n → 0 ≤ (bentI n t l vs).getD i 0 ∧ (bentI n t l vs).getD i 0 < t := by
  intro i hi
  unfold bentI
  rw [getD_range hi]
  exact mod_bounds ht _

theorem bentC_of (t : Int) (l : List UInt8) (x y : Int) (h : bentX l (cenC t x) = y) : bentC t l x = overI y (byteL l 2) % t := by
  unfold bentC
  rw [h]

set_option maxHeartbeats 4000000 in
theorem Bent_calls (n t : Nat) (q b : Int) (s : ByteArray) (vs : List Int) (gv cv : Nat) (w : World) (hs : s.size ≤ maxLen) (hn : n ≤ 16) (ht : 0 < t) (ht2 : t ≤ 1021) (hl : vs.length = n) (hv : ∀ i, i < n → 0 ≤ vs.getD i 0 ∧ vs.getD i 0 < (t : Int)) (iv : IsI w gv vs) :
    Calls Tryz.prog 167 #[.agg #[.int .i64 n, .int .i64 t, .int .i64 q, .int .i64 b], .string s, .slice (some ⟨gv, 0, none⟩) n cv] w fun e w' => ∃ v, e = .returned v ∧ OwnI w' w.heap.size v (bentI n t s.data.toList vs) ∧ Up w w' := by
  have HV : Hid _ := hv
  have HL : Hid _ := hl
  have hB2 := byteL_lt s.data.toList 2
  have HDf : Hid (bentI n t s.data.toList vs = (List.range n).map fun i => bentC t s.data.toList (vs.getD i 0)) := rfl
  generalize hdl : bentI n t s.data.toList vs = ans at HDf
  clear hdl hv hl
  have HB1 : Hid (∀ W, Calls Tryz.prog 97 #[.string s, .int .i64 1] W fun e w' => e = .returned (.int .i64 (byteL s.data.toList 1)) ∧ w' = W) := fun W => Byte_calls s 1 W hs (by omega)
  have HB2 : Hid (∀ W, Calls Tryz.prog 97 #[.string s, .int .i64 2] W fun e w' => e = .returned (.int .i64 (byteL s.data.toList 2)) ∧ w' = W) := fun W => Byte_calls s 2 W hs (by omega)
  go_enter Tryz.func167, Tryz.ntmps167
  go_wp2_with fail
  obtain ⟨W0, hW0⟩ : ∃ W, W = w.alloc (.cells #[.int .i64 n, .int .i64 t, .int .i64 q, .int .i64 b] 23) := ⟨_, rfl⟩
  have huW : Up w W0 := by rw [hW0]; exact (Up.refl _).alloc _
  have HC1 : Hid (W0.cell? ⟨w.heap.size, 1, none⟩ = some (.int .i64 (t : Int))) := show _ = _ by rw [hW0]; simp
  rw [← hW0]
  clear hW0
  have iv0 := iv.up huW
  clear iv
  go_loopw [7, 8] (fun v sj wr => ∃ k : Nat, k ≤ n ∧ sj = .int .i64 (k : Int) ∧ OwnI wr W0.heap.size v ((List.range k).map fun i => bentC t s.data.toList (vs.getD i 0)) ∧ Up W0 wr) (fun _ sj _ => n - (intOf sj).toNat)
  case atStart => exact ⟨0, Nat.zero_le _, rfl, World.ownsRow_nil _ _ _ _, Up.refl _⟩
  case round =>
    obtain ⟨k, hk, rfl, hown, hu⟩ := hrel
    by_cases hlt : k < n
    · have hcv := (iv0.up hu).2 k (by rw [HL.out]; omega)
      have hx := HV.out k hlt
      have HR : Hid ((List.range (k + 1)).map (fun i => bentC t s.data.toList (vs.getD i 0)) = (List.range k).map (fun i => bentC t s.data.toList (vs.getD i 0)) ++ [bentC t s.data.toList (vs.getD k 0)]) := map_range_succ _ _
      generalize vs.getD k 0 = x at hcv hx HR
      have hcb := cenC_bounds t x hx.1 hx.2
      have HCe : Hid (∀ W, Calls Tryz.prog 102 #[.int .i64 x, .int .i64 (t : Int)] W fun e w' => e = .returned (.int .i64 (cenC t x)) ∧ w' = W) := fun W => Centred_calls x t W hx.1 hx.2 (by omega)
      have HBo : Hid _ := bentC_of t s.data.toList x
      have hP1 := keepU hu HC1.out
      have hi0 : (0 : Int) ≤ (k : Int) := by omega
      have hi1 : (k : Int) < (n : Int) := by omega
      have HBx : Hid (bentX s.data.toList (cenC t x) = if cenC t x < 0 ∧ byteL s.data.toList 1 = 1 then 0 else cenC t x) := rfl
      generalize bentC t s.data.toList x = y at HR HBo
      generalize cenC t x = c at hcb HCe HBo HBx
      go_wp2_with fail
      go_quiet ((go_at_call 102; exact Calls.quiet_of_same (HCe.out _)))
      by_cases hc0 : c < 0
      · by_cases hb1 : byteL s.data.toList 1 = 1
        · have HY : Hid _ := HBo.out 0 (by rw [HBx.out, if_pos ⟨hc0, hb1⟩])
          clear HBo HBx
          go_wp2_with fail
          refine Calls.mono (HB1.out _) ?_
          rintro e w' ⟨rfl, rfl⟩
          rw [hb1]
          go_wp2_with fail
          refine Calls.mono (HB2.out _) ?_
          rintro e w' ⟨rfl, rfl⟩
          go_wp2_with fail
          refine (over_calls _ _ _ (by omega) (by omega) (by omega)).mono ?_
          rintro e w' ⟨rfl, rfl⟩
          go_wp2_with fail
          refine (Mod_calls _ _ _ (by omega) (by omega)).mono ?_
          rintro e w' ⟨rfl, rfl⟩
          rw [← HY.out]
          go_wp2_with (at_builtin; refine append_int _ _ rfl _ _ rfl _ _ _ rfl (hown.up (Up.drewN (Up.refl _))) rfl (by simp; omega) (Up.drewN hu).size ?_)
          intro v4 w4 hown4 hg4 hb4 _
          clear hown hg4
          go_wp2_with fail
          go_roundw
          case rel => exact ⟨k + 1, by omega, by go_num, by rw [HR.out]; exact hown4, Below.trans (Up.drewN hu) hb4⟩
          case measure => simp [intOf]; omega
        · have HY : Hid _ := HBo.out c (by rw [HBx.out, if_neg (fun h => hb1 h.2)])
          have hb2 : ((byteL s.data.toList 1 : Int) == 1) = false := beq_eq_false_iff_ne.2 (by omega)
          clear HBo HBx
          go_wp2_with fail
          refine Calls.mono (HB1.out _) ?_
          rintro e w' ⟨rfl, rfl⟩
          go_wp2_with fail
          refine Calls.mono (HB2.out _) ?_
          rintro e w' ⟨rfl, rfl⟩
          go_wp2_with fail
          refine (over_calls _ _ _ (by omega) (by omega) (by omega)).mono ?_
          rintro e w' ⟨rfl, rfl⟩
          go_wp2_with fail
          refine (Mod_calls _ _ _ (by omega) (by omega)).mono ?_
          rintro e w' ⟨rfl, rfl⟩
          rw [← HY.out]
          go_wp2_with (at_builtin; refine append_int _ _ rfl _ _ rfl _ _ _ rfl (hown.up (Up.drewN (Up.refl _))) rfl (by simp; omega) (Up.drewN hu).size ?_)
          intro v4 w4 hown4 hg4 hb4 _
          clear hown hg4
          go_wp2_with fail
          go_roundw
          case rel => exact ⟨k + 1, by omega, by go_num, by rw [HR.out]; exact hown4, Below.trans (Up.drewN hu) hb4⟩
          case measure => simp [intOf]; omega
      · have HY : Hid _ := HBo.out c (by rw [HBx.out, if_neg (fun h => hc0 h.1)])
        clear HBo HBx
        · skip
          go_wp2_with fail
          refine Calls.mono (HB2.out _) ?_
          rintro e w' ⟨rfl, rfl⟩
          go_wp2_with fail
          refine (over_calls _ _ _ (by omega) (by omega) (by omega)).mono ?_
          rintro e w' ⟨rfl, rfl⟩
          go_wp2_with fail
          refine (Mod_calls _ _ _ (by omega) (by omega)).mono ?_
          rintro e w' ⟨rfl, rfl⟩
          rw [← HY.out]
          go_wp2_with (at_builtin; refine append_int _ _ rfl _ _ rfl _ _ _ rfl (hown.up (Up.drewN (Up.refl _))) rfl (by simp; omega) (Up.drewN hu).size ?_)
          intro v4 w4 hown4 hg4 hb4 _
          clear hown hg4
          go_wp2_with fail
          go_roundw
          case rel => exact ⟨k + 1, by omega, by go_num, by rw [HR.out]; exact hown4, Below.trans (Up.drewN hu) hb4⟩
          case measure => simp [intOf]; omega
    · obtain rfl : k = n := by omega
      have hown3 : OwnI wr w.heap.size u7 ans := by
        rw [HDf.out]
        exact OwnI.base hown huW.size
      go_wp2_with fail
      go_ret
      exact ⟨_, rfl, hown3, huW.trans hu⟩

end Go.Proofs.YtcjhgbljhpflfabGreat
