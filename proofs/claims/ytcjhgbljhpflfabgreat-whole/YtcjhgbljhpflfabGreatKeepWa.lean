/-
  Walks: a layer's bend, a draw, of the statements without the document's answer.
-/
import Derived.Test.YtcjhgbljhpflfabGreatKeepL
import Derived.Test.YtcjhgbljhpflfabGreatKeepLy
import Derived.Test.YtcjhgbljhpflfabGreatCodeBn
namespace Go.Proofs.YtcjhgbljhpflfabGreat
open Go.RowKit
set_option linter.unusedVariables false
set_option maxRecDepth 100000

/-- what a layer's bend makes of one number, of all -/
def beC (t : Int) (bd : Bool) (s : Nat) (x : Int) : Int := bnI bd s (cenC t x) % t
def beI (n : Nat) (t : Int) (bd : Bool) (s : Nat) (vs : List Int) : List Int := (List.range n).map fun i => beC t bd s (vs.getD i 0)

theorem beI_length (n : Nat) (t : Int) (bd : Bool) (s : Nat) (vs : List Int) : (beI n t bd s vs).length = n := by simp [beI]

theorem beI_small (n : Nat) (t : Int) (bd : Bool) (s : Nat) (vs : List Int) (ht : 0 < t) : ∀ i, i < n → 0 ≤ (beI n t bd s vs).getD i 0 ∧ (beI n t bd s vs).getD i 0 < t := by
  intro i hi
  unfold beI
  rw [getD_range hi]
  exact mod_bounds ht _

theorem lay_byte1 (bd : Bool) (s : Nat) (M B : List Int) : byteL (layL bd s M B) 1 = if bd then 1 else 0 := by
  cases bd <;> rfl

theorem lay_byte2 (bd : Bool) (s : Nat) (M B : List Int) (hs : s < 8) : byteL (layL bd s M B) 2 = s := by
  show (UInt8.ofNat s).toNat = s
  rcases (show s = 0 ∨ s = 1 ∨ s = 2 ∨ s = 3 ∨ s = 4 ∨ s = 5 ∨ s = 6 ∨ s = 7 by omega) with rfl | rfl | rfl | rfl | rfl | rfl | rfl | rfl <;> decide

theorem lay_bent (n : Nat) (t : Int) (bd : Bool) (s : Nat) (M B vs : List Int) (hs : s < 8) : bentI n t (layL bd s M B) vs = beI n t bd s vs := by
  unfold bentI beI
  refine List.map_congr_left fun i _ => ?_
  unfold bentC beC bentX bnI
  rw [lay_byte1, lay_byte2 bd s M B hs]
  cases bd
  · simp
  · simp

theorem half_less (v : Int) (h : v < 0) : (v - 1).tdiv 2 = v / 2 := by
  have h1 : v - 1 = -(-(v - 1)) := by omega
  rw [h1, Int.neg_tdiv, Int.tdiv_eq_ediv_of_nonneg (by omega)]
  omega

theorem half_more (v : Int) (h : ¬ v < 0) : v.tdiv 2 = v / 2 := Int.tdiv_eq_ediv_of_nonneg (by omega)

set_option maxHeartbeats 8000000 in
theorem layBent_calls (n t : Nat) (q b : Int) (bd : Bool) (s : Nat) (x2 x3 : Value) (vs : List Int) (gv cv : Nat) (w : World) (hs : s < 8) (hn : n ≤ 16) (ht : 1 ≤ t) (ht2 : t ≤ 1021) (hl : vs.length = n) (hv : ∀ i, i < n → 0 ≤ vs.getD i 0 ∧ vs.getD i 0 < (t : Int)) (iv : IsI w gv vs) :
    Calls Tryz.prog 26 #[.agg #[.bool bd, .int .i64 (s : Int), x2, x3], .agg #[.int .i64 n, .int .i64 t, .int .i64 q, .int .i64 b], .slice (some ⟨gv, 0, none⟩) n cv] w fun e w' => ∃ v, e = .returned v ∧ OwnI w' w.heap.size v (beI n t bd s vs) ∧ Up w w' := by
  have HDf : Hid (beI n t bd s vs = (List.range n).map fun i => beC t bd s (vs.getD i 0)) := rfl
  generalize hdl : beI n t bd s vs = ans at HDf
  clear hdl
  have HL : Hid _ := hl
  have HV : Hid _ := hv
  clear hl hv
  go_enter Tryz.func26, Tryz.ntmps26
  go_wp2_with fail
  obtain ⟨W0, hW0⟩ : ∃ W, W = (w.alloc (.cells #[.bool bd, .int .i64 (s : Int), x2, x3] 56)).alloc (.cells #[.int .i64 n, .int .i64 t, .int .i64 q, .int .i64 b] 28) := ⟨_, rfl⟩
  have huW : Up w W0 := by rw [hW0]; exact ((Up.refl _).alloc _).alloc _
  have hC0 : W0.cell? ⟨w.heap.size + 1, 0, none⟩ = some (.int .i64 (n : Int)) := by rw [hW0]; simp
  have hC1 : W0.cell? ⟨w.heap.size + 1, 1, none⟩ = some (.int .i64 (t : Int)) := by rw [hW0]; simp
  have hC2 : W0.cell? ⟨w.heap.size, 0, none⟩ = some (.bool bd) := by rw [hW0]; simp
  have hC3 : W0.cell? ⟨w.heap.size, 1, none⟩ = some (.int .i64 (s : Int)) := by rw [hW0]; simp
  have HC : Hid _ := (⟨hC0, hC1, hC2, hC3⟩ : _ ∧ _ ∧ _ ∧ _)
  rw [← hW0]
  clear hW0 hC0 hC1 hC2 hC3
  have iv0 := iv.up huW
  clear iv
  go_loopw [7, 8] (fun v si wr => ∃ i : Nat, i ≤ n ∧ si = .int .i64 (i : Int) ∧ OwnI wr W0.heap.size v ((List.range i).map fun i => beC t bd s (vs.getD i 0)) ∧ Up W0 wr) (fun _ si _ => n - (intOf si).toNat)
  case atStart => exact ⟨0, Nat.zero_le _, rfl, World.ownsRow_nil _ _ _ _, Up.refl _⟩
  case round =>
    obtain ⟨i, hi, rfl, hown, hu⟩ := hrel
    have hP0 := keepC hu HC.out.1
    have hP1 := keepC hu HC.out.2.1
    have hP2 := keepC hu HC.out.2.2.1
    have hP3 := keepC hu HC.out.2.2.2
    by_cases hin : i < n
    · have hcv := (iv0.up hu).2 i (by rw [HL.out]; omega)
      have hx := HV.out i hin
      have HR : Hid ((List.range (i + 1)).map (fun i => beC t bd s (vs.getD i 0)) = (List.range i).map (fun i => beC t bd s (vs.getD i 0)) ++ [beC t bd s (vs.getD i 0)]) := map_range_succ _ _
      generalize vs.getD i 0 = x at hcv hx HR
      have hi0 : (0 : Int) ≤ (i : Int) := by omega
      have hi1 : (i : Int) < (n : Int) := by omega
      have hth : IntKind.i64.wrap ((t : Int).tdiv 2) = (t : Int) / 2 := by rw [Int.tdiv_eq_ediv_of_nonneg (by omega)]; exact IntWalk.i64_in _ (by omega)
      have hxt : IntKind.i64.wrap (x - (t : Int)) = x - (t : Int) := IntWalk.i64_in _ (by omega)
      have hbc := cenC_bounds t x hx.1 hx.2
      have HB : Hid (∀ c, (if bd = true ∧ cenC t x < 0 then 0 else cenC t x) = c → overI c s % (t : Int) = beC t bd s x) := fun c h => by rw [← h]; rfl
      by_cases hg : (t : Int) / 2 < x
      · have HCx : Hid (cenC t x = x - (t : Int)) := by
          show _ = _
          unfold cenC
          rw [if_pos (by omega)]
        cases bd with
        | true =>
          have hn0 : x - (t : Int) < 0 := by omega
          have HY : Hid (overI (0) s % (t : Int) = beC t true s x) := HB.out _ (by rw [HCx.out]; exact if_pos ⟨rfl, hn0⟩)
          have HO : Hid (∀ k, -1021 ≤ overI (0) k ∧ overI (0) k ≤ 1021) := fun k => overI_bounds _ k _ (by omega) (by omega) (by omega)
          have HS : Hid (∀ k, overI (0) (k + 1) = overI (0) k / 2) := fun k => rfl
          clear HB
          go_wp2_with fail
          go_loopw [9, 10] (fun sn sk wy => ∃ k : Nat, k ≤ s ∧ sk = .int .i64 (k : Int) ∧ sn = .int .i64 (overI (0) k) ∧ wy = wr) (fun _ sk _ => s - (intOf sk).toNat)
          case atStart => exact ⟨0, Nat.zero_le _, rfl, rfl, rfl⟩
          case round =>
            obtain ⟨k, hk, rfl, rfl, rfl⟩ := hrel
            have hob := HO.out k
            have HSk : Hid _ := HS.out k
            by_cases hks : k < s
            · generalize overI (0) k = z at hob HSk
              by_cases hz : z < 0
              · have e1 : IntKind.i64.wrap (z - 1) = z - 1 := IntWalk.i64_in _ (by omega)
                have e2 := half_less z hz
                have e3 : IntKind.i64.wrap (z / 2) = z / 2 := IntWalk.i64_in _ (by omega)
                go_wp2_with fail
                go_roundw
                case rel => exact ⟨k + 1, by omega, by go_num, by rw [HSk.out], trivial⟩
                case measure => simp [intOf]; omega
              · have e2 := half_more z hz
                have e3 : IntKind.i64.wrap (z / 2) = z / 2 := IntWalk.i64_in _ (by omega)
                go_wp2_with fail
                go_roundw
                case rel => exact ⟨k + 1, by omega, by go_num, by rw [HSk.out], trivial⟩
                case measure => simp [intOf]; omega
            · obtain rfl : k = s := by omega
              generalize overI (0) k = z at hob HY
              go_wp2_with fail
              refine (keepMod_calls _ _ _ (by omega) (by omega)).mono ?_
              rintro e w' ⟨rfl, rfl⟩
              rw [HY.out]
              go_wp2_with (at_builtin; refine append_int _ _ rfl _ _ rfl _ _ _ rfl hown rfl (by simp; omega) hu.size ?_)
              intro v4 w4 hown4 hg4 hb4 _
              clear hown hg4 hP0 hP1 hP2 hP3 hcv
              go_wp2_with fail
              go_roundw
              case rel => exact ⟨i + 1, by omega, by go_num, by rw [HR.out]; exact hown4, Below.trans hu hb4⟩
              case measure => simp [intOf]; omega
        | false =>
          have HY : Hid (overI (x - (t : Int)) s % (t : Int) = beC t false s x) := HB.out _ (by rw [HCx.out]; exact if_neg (by simp))
          have HO : Hid (∀ k, -1021 ≤ overI (x - (t : Int)) k ∧ overI (x - (t : Int)) k ≤ 1021) := fun k => overI_bounds _ k _ (by omega) (by omega) (by omega)
          have HS : Hid (∀ k, overI (x - (t : Int)) (k + 1) = overI (x - (t : Int)) k / 2) := fun k => rfl
          clear HB
          go_wp2_with fail
          go_loopw [9, 10] (fun sn sk wy => ∃ k : Nat, k ≤ s ∧ sk = .int .i64 (k : Int) ∧ sn = .int .i64 (overI (x - (t : Int)) k) ∧ wy = wr) (fun _ sk _ => s - (intOf sk).toNat)
          case atStart => exact ⟨0, Nat.zero_le _, rfl, rfl, rfl⟩
          case round =>
            obtain ⟨k, hk, rfl, rfl, rfl⟩ := hrel
            have hob := HO.out k
            have HSk : Hid _ := HS.out k
            by_cases hks : k < s
            · generalize overI (x - (t : Int)) k = z at hob HSk
              by_cases hz : z < 0
              · have e1 : IntKind.i64.wrap (z - 1) = z - 1 := IntWalk.i64_in _ (by omega)
                have e2 := half_less z hz
                have e3 : IntKind.i64.wrap (z / 2) = z / 2 := IntWalk.i64_in _ (by omega)
                go_wp2_with fail
                go_roundw
                case rel => exact ⟨k + 1, by omega, by go_num, by rw [HSk.out], trivial⟩
                case measure => simp [intOf]; omega
              · have e2 := half_more z hz
                have e3 : IntKind.i64.wrap (z / 2) = z / 2 := IntWalk.i64_in _ (by omega)
                go_wp2_with fail
                go_roundw
                case rel => exact ⟨k + 1, by omega, by go_num, by rw [HSk.out], trivial⟩
                case measure => simp [intOf]; omega
            · obtain rfl : k = s := by omega
              generalize overI (x - (t : Int)) k = z at hob HY
              go_wp2_with fail
              refine (keepMod_calls _ _ _ (by omega) (by omega)).mono ?_
              rintro e w' ⟨rfl, rfl⟩
              rw [HY.out]
              go_wp2_with (at_builtin; refine append_int _ _ rfl _ _ rfl _ _ _ rfl hown rfl (by simp; omega) hu.size ?_)
              intro v4 w4 hown4 hg4 hb4 _
              clear hown hg4 hP0 hP1 hP2 hP3 hcv
              go_wp2_with fail
              go_roundw
              case rel => exact ⟨i + 1, by omega, by go_num, by rw [HR.out]; exact hown4, Below.trans hu hb4⟩
              case measure => simp [intOf]; omega
      · have HCx : Hid (cenC t x = x) := by
          show _ = _
          unfold cenC
          rw [if_neg (by omega)]
        have hn0 : ¬ x < 0 := by omega
        cases bd with
        | true =>
          have HY : Hid (overI (x) s % (t : Int) = beC t true s x) := HB.out _ (by rw [HCx.out]; exact if_neg (fun h => hn0 h.2))
          have HO : Hid (∀ k, -1021 ≤ overI (x) k ∧ overI (x) k ≤ 1021) := fun k => overI_bounds _ k _ (by omega) (by omega) (by omega)
          have HS : Hid (∀ k, overI (x) (k + 1) = overI (x) k / 2) := fun k => rfl
          clear HB
          go_wp2_with fail
          go_loopw [9, 10] (fun sn sk wy => ∃ k : Nat, k ≤ s ∧ sk = .int .i64 (k : Int) ∧ sn = .int .i64 (overI (x) k) ∧ wy = wr) (fun _ sk _ => s - (intOf sk).toNat)
          case atStart => exact ⟨0, Nat.zero_le _, rfl, rfl, rfl⟩
          case round =>
            obtain ⟨k, hk, rfl, rfl, rfl⟩ := hrel
            have hob := HO.out k
            have HSk : Hid _ := HS.out k
            by_cases hks : k < s
            · generalize overI (x) k = z at hob HSk
              by_cases hz : z < 0
              · have e1 : IntKind.i64.wrap (z - 1) = z - 1 := IntWalk.i64_in _ (by omega)
                have e2 := half_less z hz
                have e3 : IntKind.i64.wrap (z / 2) = z / 2 := IntWalk.i64_in _ (by omega)
                go_wp2_with fail
                go_roundw
                case rel => exact ⟨k + 1, by omega, by go_num, by rw [HSk.out], trivial⟩
                case measure => simp [intOf]; omega
              · have e2 := half_more z hz
                have e3 : IntKind.i64.wrap (z / 2) = z / 2 := IntWalk.i64_in _ (by omega)
                go_wp2_with fail
                go_roundw
                case rel => exact ⟨k + 1, by omega, by go_num, by rw [HSk.out], trivial⟩
                case measure => simp [intOf]; omega
            · obtain rfl : k = s := by omega
              generalize overI (x) k = z at hob HY
              go_wp2_with fail
              refine (keepMod_calls _ _ _ (by omega) (by omega)).mono ?_
              rintro e w' ⟨rfl, rfl⟩
              rw [HY.out]
              go_wp2_with (at_builtin; refine append_int _ _ rfl _ _ rfl _ _ _ rfl hown rfl (by simp; omega) hu.size ?_)
              intro v4 w4 hown4 hg4 hb4 _
              clear hown hg4 hP0 hP1 hP2 hP3 hcv
              go_wp2_with fail
              go_roundw
              case rel => exact ⟨i + 1, by omega, by go_num, by rw [HR.out]; exact hown4, Below.trans hu hb4⟩
              case measure => simp [intOf]; omega
        | false =>
          have HY : Hid (overI (x) s % (t : Int) = beC t false s x) := HB.out _ (by rw [HCx.out]; exact if_neg (by simp))
          have HO : Hid (∀ k, -1021 ≤ overI (x) k ∧ overI (x) k ≤ 1021) := fun k => overI_bounds _ k _ (by omega) (by omega) (by omega)
          have HS : Hid (∀ k, overI (x) (k + 1) = overI (x) k / 2) := fun k => rfl
          clear HB
          go_wp2_with fail
          go_loopw [9, 10] (fun sn sk wy => ∃ k : Nat, k ≤ s ∧ sk = .int .i64 (k : Int) ∧ sn = .int .i64 (overI (x) k) ∧ wy = wr) (fun _ sk _ => s - (intOf sk).toNat)
          case atStart => exact ⟨0, Nat.zero_le _, rfl, rfl, rfl⟩
          case round =>
            obtain ⟨k, hk, rfl, rfl, rfl⟩ := hrel
            have hob := HO.out k
            have HSk : Hid _ := HS.out k
            by_cases hks : k < s
            · generalize overI (x) k = z at hob HSk
              by_cases hz : z < 0
              · have e1 : IntKind.i64.wrap (z - 1) = z - 1 := IntWalk.i64_in _ (by omega)
                have e2 := half_less z hz
                have e3 : IntKind.i64.wrap (z / 2) = z / 2 := IntWalk.i64_in _ (by omega)
                go_wp2_with fail
                go_roundw
                case rel => exact ⟨k + 1, by omega, by go_num, by rw [HSk.out], trivial⟩
                case measure => simp [intOf]; omega
              · have e2 := half_more z hz
                have e3 : IntKind.i64.wrap (z / 2) = z / 2 := IntWalk.i64_in _ (by omega)
                go_wp2_with fail
                go_roundw
                case rel => exact ⟨k + 1, by omega, by go_num, by rw [HSk.out], trivial⟩
                case measure => simp [intOf]; omega
            · obtain rfl : k = s := by omega
              generalize overI (x) k = z at hob HY
              go_wp2_with fail
              refine (keepMod_calls _ _ _ (by omega) (by omega)).mono ?_
              rintro e w' ⟨rfl, rfl⟩
              rw [HY.out]
              go_wp2_with (at_builtin; refine append_int _ _ rfl _ _ rfl _ _ _ rfl hown rfl (by simp; omega) hu.size ?_)
              intro v4 w4 hown4 hg4 hb4 _
              clear hown hg4 hP0 hP1 hP2 hP3 hcv
              go_wp2_with fail
              go_roundw
              case rel => exact ⟨i + 1, by omega, by go_num, by rw [HR.out]; exact hown4, Below.trans hu hb4⟩
              case measure => simp [intOf]; omega
    · obtain rfl : i = n := by omega
      rw [← HDf.out] at hown
      go_wp2_with fail
      go_ret
      exact ⟨_, rfl, hown.base huW.le, huW.trans hu⟩

end Go.Proofs.YtcjhgbljhpflfabGreat
