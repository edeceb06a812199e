/-
  Walks: the reference's Good.
-/
import Derived.Test.YtjiekfplgmfgiabGreatWalksP
namespace Go.Proofs.YtjiekfplgmfgiabGreat
open Go.RowKit
set_option linter.unusedVariables false

set_option maxHeartbeats 400000 in
theorem refGood_n (n t q b : Int) (w : World) (hn : ¬ (n = 4 ∨ n = 8 ∨ n = 16)) :
    Calls Tryz.prog 19 #[.agg #[.int .i64 n, .int .i64 t, .int .i64 q, .int .i64 b]] w fun r w' => r = .returned (.bool (goodB n t q b)) ∧ Up w w' := by
  have H : Hid (goodB n t q b = false) := goodB_nn hn
  have h1 : (n == 4) = false := by rw [beq_eq_false_iff_ne]; omega
  have h2 : (n == 8) = false := by rw [beq_eq_false_iff_ne]; omega
  have h3 : (n == 16) = false := by rw [beq_eq_false_iff_ne]; omega
  clear hn
  go_enter Tryz.func19, Tryz.ntmps19
  go_wp2
  go_ret
  exact ⟨ret_bool H.out.symm, (Up.refl _).alloc _⟩

theorem goodB_3 {n t q b : Int} (hn : n = 4 ∨ n = 8 ∨ n = 16) (h : t < 3) : goodB n t q b = false := by
  by_cases h2 : t < 2
  · exact goodB_np (prmB_small h2)
  · exact goodB_no (by rcases hn with rfl | rfl | rfl <;> omega)

set_option maxHeartbeats 2000000 in
theorem refGood_no (n t q b : Int) (w : World) (hn : n = 4 ∨ n = 8 ∨ n = 16) (h : t < 3 ∨ 1021 < t ∨ q < 2 ∨ 1073741823 < q ∨ b < 1 ∨ 8 < b) :
    Calls Tryz.prog 19 #[.agg #[.int .i64 n, .int .i64 t, .int .i64 q, .int .i64 b]] w fun r w' => r = .returned (.bool (goodB n t q b)) ∧ Up w w' := by
  have H : Hid (goodB n t q b = false) := by
    rcases h with h | h
    · exact goodB_3 hn h
    · exact goodB_no (by omega)
  rcases hn with rfl | rfl | rfl
  all_goals
    go_enter Tryz.func19, Tryz.ntmps19
    go_wp2_with fail
    all_goals go_ret
    all_goals exact ⟨ret_bool H.out.symm, (Up.refl _).alloc _⟩

set_option maxHeartbeats 1000000 in
theorem refGood_yes (n q b : Int) (t : Nat) (w : World) (hn : n = 4 ∨ n = 8 ∨ n = 16) (h1 : 3 ≤ t) (h2 : t ≤ 1021) (h3 : 2 ≤ q) (h4 : q ≤ 1073741823) (h5 : 1 ≤ b) (h6 : b ≤ 8) :
    Calls Tryz.prog 19 #[.agg #[.int .i64 n, .int .i64 t, .int .i64 q, .int .i64 b]] w fun r w' => r = .returned (.bool (goodB n t q b)) ∧ Up w w' := by
  rcases hn with rfl | rfl | rfl
  all_goals
    go_enter Tryz.func19, Tryz.ntmps19
    go_wp2_with fail
    go_loop [3] (fun d => ∃ k : Nat, 2 ≤ k ∧ k ≤ t ∧ d = .int .i64 k ∧ Hid (NoDiv t k)) (fun d => t - (intOf d).toNat)
    case atStart => exact ⟨2, by omega, by omega, rfl, noDiv_two t⟩
    case round =>
      obtain ⟨k, hk1, hk2, rfl, hk⟩ := hrel
      go_wp2_with (first | (go_at_call 48; refine (refFits_calls _ _ _ _ _ _ (by omega) (by omega) (by omega) (by omega) (by omega) (by omega)).mono ?_; rintro e w' ⟨rfl, hu⟩))
      · go_ret
        rename_i hd _
        have h7 : t % k = 0 := by
          have := eq_of_beq hd
          omega
        exact ⟨ret_bool (goodB_np (prmB_false h7 hk1 (by omega))).symm, (Up.refl _).alloc _⟩
      · rename_i hd
        have h7 : t % k ≠ 0 := by
          intro c
          have : ((t : Int) % (k : Int)) = 0 := by omega
          rw [this] at hd
          exact absurd hd (by decide)
        go_round
        case rel => exact ⟨k + 1, by omega, by omega, by go_num, noDiv_succ hk h7⟩
        case measure => simp [intOf]; omega
      · go_ret
        obtain rfl : k = t := by omega
        exact ⟨ret_bool (goodB_yes (by omega) (prmB_end (by omega) hk) (by omega)).symm, ((Up.refl _).alloc _).trans hu⟩
      · go_ret
        exact ⟨ret_bool (goodB_no (by omega)).symm, (Up.refl _).alloc _⟩

theorem refGood_calls (n t q b : Int) (w : World) :
    Calls Tryz.prog 19 #[.agg #[.int .i64 n, .int .i64 t, .int .i64 q, .int .i64 b]] w fun r w' => r = .returned (.bool (goodB n t q b)) ∧ Up w w' := by
  by_cases hn : n = 4 ∨ n = 8 ∨ n = 16
  · by_cases h : t < 3 ∨ 1021 < t ∨ q < 2 ∨ 1073741823 < q ∨ b < 1 ∨ 8 < b
    · exact refGood_no n t q b w hn h
    · obtain ⟨m, rfl⟩ := Int.eq_ofNat_of_zero_le (a := t) (by omega)
      exact refGood_yes n q b m w hn (by omega) (by omega) (by omega) (by omega) (by omega) (by omega)
  · exact refGood_n n t q b w hn

end Go.Proofs.YtjiekfplgmfgiabGreat
