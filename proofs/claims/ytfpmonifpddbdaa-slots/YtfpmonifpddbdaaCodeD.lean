/-
  Walks: from coefficients to slots, by the program.
-/
import Derived.Test.YtfpmonifpddbdaaCodeY
namespace Go.Proofs.Ytfpmonifpddbdaa
open Go.RowKit
set_option linter.unusedVariables false
set_option maxRecDepth 100000

set_option maxHeartbeats 1000000 in
theorem valueAt_calls (xs : List Int) (g cap : Nat) (x t : Int) (w : World) (hl : xs.length ≤ 1000) (hx0 : 0 ≤ x) (hx1 : x < t) (ht : 2 ≤ t) (ht2 : t ≤ 1021) (hx : ∀ i, i < xs.length → 0 ≤ xs.getD i 0 ∧ xs.getD i 0 < 65536) (hi : IsI w g xs) :
    Calls Try.prog 97 #[.slice (some ⟨g, 0, none⟩) xs.length cap, .int .i64 x, .int .i64 t] w fun e w' => e = .returned (.int .i64 (sumI (fun i => xs.getD i 0 * x ^ i) xs.length % t)) ∧ w' = w := by
  have HX : Hid _ := hx
  generalize hS : sumI (fun i => xs.getD i 0 * x ^ i) xs.length = S
  have HS : Hid (horner x xs = S) := (horner_sum x xs).trans hS
  clear hx hS
  go_enter Try.func97, Try.ntmps97
  go_wp2
  go_loop [7, 8] (fun v j => ∃ k : Nat, k ≤ xs.length ∧ j = .int .i64 ((k : Int) - 1) ∧ v = .int .i64 (horner x (xs.drop k) % t)) (fun _ j => (intOf j + 1).toNat)
  case atStart => exact ⟨xs.length, Nat.le_refl _, by go_num, by simp [horner]⟩
  case round =>
    obtain ⟨k, hk, rfl, rfl⟩ := hrel
    by_cases hk0 : 0 < k
    · obtain ⟨k, rfl⟩ : ∃ m, k = m + 1 := ⟨k - 1, by omega⟩
      have hc := hi.2 k (by omega)
      have hb := HX.out k (by omega)
      have H : Hid _ := horner_step x t xs k (by omega)
      have h1 := Int.emod_nonneg (horner x (xs.drop (k + 1))) (b := t) (by omega)
      have h2 := Int.emod_lt_of_pos (horner x (xs.drop (k + 1))) (b := t) (by omega)
      generalize xs.getD k 0 = c at hc hb H
      generalize horner x (xs.drop (k + 1)) % t = v at h1 h2 H
      have hb1 := hb.1
      have hb2 := hb.2
      have h3 : 0 ≤ v * x := Int.mul_nonneg h1 hx0
      have h4 : v * x ≤ 1021 * 1021 := Int.mul_le_mul (by omega) (by omega) (by omega) (by omega)
      have e : ((k + 1 : Nat) : Int) - 1 = (k : Int) := by omega
      rw [e]
      clear hb e
      go_wp2_with fail
      go_round
      case rel => exact ⟨k, by omega, by go_num, by rw [← H.out]⟩
      case measure => simp [intOf]
    · obtain rfl : k = 0 := by omega
      go_wp2_with fail
      go_ret
      exact ⟨ret_int (by rw [← HS.out]), rfl⟩

set_option maxHeartbeats 1000000 in
theorem slotDecode_calls (n t : Nat) (q b : Int) (xs : List Int) (gx cap : Nat) (w : World) (g : NT n t) (hl : xs.length = n) (hx : ∀ i, i < xs.length → 0 ≤ xs.getD i 0 ∧ xs.getD i 0 < 65536) (hi : IsI w gx xs) :
    Calls Try.prog 56 #[.agg #[.int .i64 n, .int .i64 t, .int .i64 q, .int .i64 b], .slice (some ⟨gx, 0, none⟩) n cap] w fun e w' => ∃ v, e = .returned v ∧ OwnI w' w.heap.size v (decI n t xs) ∧ Up w w' := by
  have ht := g.t3
  have ht2 := g.ht
  obtain ⟨hd1, hd2, hd3⟩ := g.half
  have G : Hid (NT n t) := g
  have HX : Hid _ := hx
  have HL : Hid _ := hl
  clear g hd1 hx hl
  go_enter Try.func56, Try.ntmps56
  go_wp2_with fail
  refine (points_calls n t q b _ G.out).mono ?_
  rintro e w1 ⟨v, rfl, hown, hu⟩
  obtain ⟨gr, cap2, rfl, hgr, his⟩ := hown.is (by intro c; have := congrArg List.length c; rw [ptL_length] at this; simp at this; omega)
  rw [ptL_length] at *
  have hsz : w.heap.size + 1 ≤ w1.heap.size := by have := hu.size; simpa using this
  clear hown
  go_wp2_with fail
  go_loopw [5, 12] (fun v j wr => ∃ k : Nat, k ≤ n ∧ j = .int .i64 (k : Int) ∧ OwnI wr w1.heap.size v ((List.range k).map (valI n t xs)) ∧ Up w1 wr) (fun _ j _ => n - (intOf j).toNat)
  case atStart => exact ⟨0, Nat.zero_le _, rfl, World.ownsRow_nil _ _ _ _, Up.refl _⟩
  case round =>
    obtain ⟨k, hk, rfl, hown3, hu3⟩ := hrel
    obtain ⟨hc, hf⟩ := bcell (hu.trans hu3)
    by_cases hlt : k < n
    · have hp := (his.up hu3).2 k (by rw [ptL_length]; omega)
      rw [ptL_getD _ _ _ _ hlt] at hp
      have hb := pI_bounds G.out k (by omega)
      have HV : Hid (valI n t xs k = sumI (fun i => xs.getD i 0 * pI n t k ^ i) xs.length % (t : Int)) := by rw [HL.out]; rfl
      have HR : Hid ((List.range (k + 1)).map (valI n t xs) = (List.range k).map (valI n t xs) ++ [valI n t xs k]) := by
        show _ = _
        rw [List.range_succ, List.map_append, List.map_singleton]
      generalize pI n t k = x at hp hb HV
      have hb1 := hb.1
      have hb2 := hb.2
      clear hb
      go_wp2_with fail
      have hval := valueAt_calls xs gx cap x t wr (by rw [HL.out]; omega) (by omega) hb2 (by omega) (by omega) HX.out (((hi.up ((Up.refl _).alloc _)).up hu).up hu3)
      rw [← HV.out, HL.out] at hval
      refine hval.mono ?_
      rintro e w' ⟨rfl, rfl⟩
      clear hp hc hf
      have hvb := valI_bounds G.out xs k
      go_wp2_with (at_builtin; refine append_int _ _ rfl _ _ rfl _ _ _ rfl hown3 rfl (by simp; omega) hu3.size ?_)
      intro v4 w4 hown4 hg4 hb4 _
      clear hown3 hg4
      go_wp2_with fail
      go_roundw
      case rel => exact ⟨k + 1, by omega, by go_num, by rw [HR.out]; exact hown4, Below.trans hu3 hb4⟩
      case measure => simp [intOf]; omega
    · obtain rfl : k = n := by omega
      go_wp2_with fail
      go_ret
      exact ⟨_, rfl, hown3.base (by omega), (((Up.refl _).alloc _).trans hu).trans hu3⟩

end Go.Proofs.Ytfpmonifpddbdaa
