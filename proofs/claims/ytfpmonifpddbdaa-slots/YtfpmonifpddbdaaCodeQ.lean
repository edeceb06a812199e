/-
  Walks: the program's powers, inverses, roots.
-/
import Derived.Test.YtfpmonifpddbdaaCodeX
import Derived.Test.YtfpmonifpddbdaaMathC
namespace Go.Proofs.Ytfpmonifpddbdaa
open Go.RowKit
set_option linter.unusedVariables false
set_option maxRecDepth 100000

set_option maxHeartbeats 1000000 in
theorem power_calls (x n t : Int) (w : World) (hx : 0 ≤ x) (hx2 : x ≤ 1048576) (hn : 0 ≤ n) (hn2 : n ≤ 4611686018427387904) (ht : 2 ≤ t) (ht2 : t ≤ 1048576) :
    Calls Try.prog 118 #[.int .i64 x, .int .i64 n, .int .i64 t] w fun e w' => e = .returned (.int .i64 (x ^ n.toNat % t)) ∧ w' = w := by
  obtain ⟨m, rfl⟩ := Int.eq_ofNat_of_zero_le hn
  rw [Int.toNat_natCast]
  go_enter Try.func118, Try.ntmps118
  go_wp2
  go_loop [0, 1, 7] (fun a b c => ∃ (y : Int) (e : Nat) (r : Int), 0 ≤ y ∧ y ≤ 1048576 ∧ 0 ≤ r ∧ r < t ∧ e ≤ m ∧ a = .int .i64 y ∧ b = .int .i64 (e : Int) ∧ c = .int .i64 r ∧ Hid (r * y ^ e % t = x ^ m % t)) (fun _ b _ => (intOf b).toNat)
  case atStart => exact ⟨x, m, 1, hx, hx2, by omega, by omega, Nat.le_refl _, rfl, rfl, rfl, by rw [Int.one_mul]; exact rfl⟩
  case round =>
    obtain ⟨y, e, r, hy, hy2, hr, hr2, he, rfl, rfl, rfl, H⟩ := hrel
    have h1 : 0 ≤ y * y := Int.mul_nonneg hy hy
    have h2 : y * y ≤ 1048576 * 1048576 := Int.mul_le_mul hy2 hy2 hy (by omega)
    have h3 : 0 ≤ r * y := Int.mul_nonneg hr hy
    have h4 : r * y ≤ 1048576 * 1048576 := Int.mul_le_mul (by omega) hy2 hy (by omega)
    have h5 := Int.emod_nonneg (y * y) (b := t) (by omega)
    have h6 := Int.emod_lt_of_pos (y * y) (b := t) (by omega)
    have h7 := Int.emod_nonneg (r * y) (b := t) (by omega)
    have h8 := Int.emod_lt_of_pos (r * y) (b := t) (by omega)
    by_cases hk : 0 < e
    · by_cases hodd : e % 2 = 1
      · have hb : ((e : Int) % 2 == 1) = true := by simp; omega
        go_wp2
        go_round
        case rel => exact ⟨y * y % t, e / 2, r * y % t, h5, by omega, h7, h8, by omega, rfl, by go_num, rfl, by rw [← H.out]; exact power_odd r y e t hodd⟩
        case measure => simp [intOf]; omega
      · have hb : ((e : Int) % 2 == 1) = false := by simp; omega
        go_wp2
        go_round
        case rel => exact ⟨y * y % t, e / 2, r, h5, by omega, hr, hr2, by omega, rfl, by go_num, rfl, by rw [← H.out]; exact power_even r y e t (by omega)⟩
        case measure => simp [intOf]; omega
    · obtain rfl : e = 0 := by omega
      go_wp2
      go_ret
      refine ⟨ret_int ?_, rfl⟩
      rw [← H.out, Int.pow_zero, Int.mul_one, Int.emod_eq_of_lt hr hr2]

set_option maxHeartbeats 400000 in
theorem inverse_calls (x t : Int) (w : World) (hx : 0 ≤ x) (hx2 : x ≤ 1048576) (ht : 2 ≤ t) (ht2 : t ≤ 1048576) :
    Calls Try.prog 116 #[.int .i64 x, .int .i64 t] w fun e w' => e = .returned (.int .i64 (x ^ (t - 2).toNat % t)) ∧ w' = w := by
  go_enter Try.func116, Try.ntmps116
  go_wp2_with fail
  refine (power_calls _ _ _ _ hx hx2 (by omega) (by omega) ht ht2).mono ?_
  rintro e w' ⟨rfl, rfl⟩
  go_wp2
  go_ret
  exact ⟨rfl, rfl⟩

set_option maxHeartbeats 400000 in
theorem leastRoot_calls (n t z : Int) (w : World) (hn : 0 ≤ n) (hn2 : n ≤ 16) (ht : 2 ≤ t) (ht2 : t ≤ 1048576) (hz : 1 ≤ z) (hz2 : z < t) (h : z ^ n.toNat % t = t - 1) (hl : ∀ x, 1 ≤ x → x < z → x ^ n.toNat % t ≠ t - 1) :
    Calls Try.prog 125 #[.int .i64 n, .int .i64 t] w fun e w' => e = .returned (.int .i64 z) ∧ w' = w := by
  have H1 : Hid _ := h
  have H2 : Hid _ := hl
  clear h hl
  go_enter Try.func125, Try.ntmps125
  go_wp2
  go_loop [5] (fun j => ∃ x : Int, 1 ≤ x ∧ x ≤ z ∧ j = .int .i64 x) (fun j => (z - intOf j).toNat)
  case atStart => exact ⟨1, by omega, hz, rfl⟩
  case round =>
    obtain ⟨x, hx1, hx2, rfl⟩ := hrel
    by_cases hx : x = z
    · subst hx
      have h5 : (x ^ n.toNat % t == t - 1) = true := by rw [H1.out]; exact beq_self_eq_true _
      go_wp2_with fail
      refine (power_calls _ _ _ _ (by omega) (by omega) (by omega) (by omega) ht ht2).mono ?_
      rintro e w' ⟨rfl, rfl⟩
      go_wp2_with fail
      go_ret
      exact ⟨rfl, rfl⟩
    · have h5 : (x ^ n.toNat % t == t - 1) = false := beq_eq_false_iff_ne.2 (H2.out x hx1 (by omega))
      go_wp2_with fail
      refine (power_calls _ _ _ _ (by omega) (by omega) (by omega) (by omega) ht ht2).mono ?_
      rintro e w' ⟨rfl, rfl⟩
      go_wp2_with fail
      go_round
      case rel => exact ⟨x + 1, by omega, by omega, rfl⟩
      case measure => simp [intOf]; omega

end Go.Proofs.Ytfpmonifpddbdaa
