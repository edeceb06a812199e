/-
  Walks: the reference's functions on numbers and bytes.
-/
import Derived.Test.YtjiekfplgmfgiabGreatWalksL
import Derived.Test.YtjiekfplgmfgiabGreatMath
import Derived.Deep.QuietTactic
import Derived.BigQuiet
import Derived.WalkSmall
namespace Go.Proofs.YtjiekfplgmfgiabGreat
open Go.RowKit
set_option linter.unusedVariables false

theorem Up.drewN {a b : World} {n : Nat} (h : Up a b) : Up a (b.drewN n) := below_drewN h n

set_option maxHeartbeats 400000 in
theorem Byte_calls (s : ByteArray) (i : Int) (w : World) (hs : s.size ≤ maxLen) (h0 : 0 ≤ i) :
    Calls Tryz.prog 50 #[.string s, .int .i64 i] w fun e w' => e = .returned (.int .i64 (byteL s.data.toList i.toNat)) ∧ w' = w := by
  unfold maxLen at hs
  obtain ⟨k, rfl⟩ := Int.eq_ofNat_of_zero_le h0
  rw [Int.toNat_natCast]
  by_cases hk : k < s.size
  · have H : Hid _ := byteL_in s k hk
    have hb := (s[k]).toNat_lt
    go_enter Tryz.func50, Tryz.ntmps50
    go_wp2
    go_ret
    exact ⟨ret_int (by rw [H.out]), rfl⟩
  · have H : Hid _ := byteL_out s.data.toList k (by simp; omega)
    go_enter Tryz.func50, Tryz.ntmps50
    go_wp2
    go_ret
    exact ⟨ret_int (by rw [H.out]; rfl), rfl⟩

set_option maxHeartbeats 400000 in
theorem Number_calls (s : ByteArray) (i : Int) (n : Nat) (w : World) (hs : s.size ≤ maxLen) (h0 : 0 ≤ i) (h1 : i ≤ 4611686018427387904) (hn : n ≤ 5) :
    Calls Tryz.prog 52 #[.string s, .int .i64 i, .int .i64 n] w fun e w' => e = .returned (.int .i64 (numL s.data.toList i.toNat n)) ∧ w' = w := by
  obtain ⟨k, rfl⟩ := Int.eq_ofNat_of_zero_le h0
  rw [Int.toNat_natCast]
  go_enter Tryz.func52, Tryz.ntmps52
  go_wp2
  go_loopw [7, 8] (fun v j wr => ∃ m : Nat, m ≤ n ∧ j = .int .i64 ((k + m : Nat) : Int) ∧ v = .int .i64 (numL s.data.toList k m) ∧ wr = w) (fun _ j _ => k + n - (intOf j).toNat)
  case atStart => exact ⟨0, Nat.zero_le _, by simp, rfl, rfl⟩
  case round =>
    obtain ⟨m, hm, rfl, rfl, rfl⟩ := hrel
    have hb := numL_le5 s.data.toList k m (by omega)
    have hc := byteL_lt s.data.toList (k + m)
    by_cases hlt : m < n
    · go_wp2_with (go_at_call 50; refine (Byte_calls _ _ _ hs (by omega)).mono ?_; rintro e w' ⟨rfl, rfl⟩)
      go_roundw
      case rel => exact ⟨m + 1, by omega, by go_num, by simp only [numL]; go_num, by trivial⟩
      case measure => simp [intOf]; omega
    · obtain rfl : m = n := by omega
      go_wp2
      go_ret
      exact ⟨rfl, rfl⟩

set_option maxHeartbeats 400000 in
theorem raised_calls (v n t : Int) (w : World) (hv : 0 ≤ v) (hv2 : v ≤ 1048576) (hn : 0 ≤ n) (hn2 : n ≤ 4611686018427387904) (ht : 2 ≤ t) (ht2 : t ≤ 1048576) :
    Calls Tryz.prog 60 #[.int .i64 v, .int .i64 n, .int .i64 t] w fun e w' => e = .returned (.int .i64 (v ^ n.toNat % t)) ∧ w' = w := by
  obtain ⟨m, rfl⟩ := Int.eq_ofNat_of_zero_le hn
  rw [Int.toNat_natCast]
  go_enter Tryz.func60, Tryz.ntmps60
  go_wp2
  go_loop [1, 7] (fun j r => ∃ k l : Nat, k + l = m ∧ j = .int .i64 (k : Int) ∧ r = .int .i64 (v ^ l % t)) (fun j _ => (intOf j).toNat)
  case atStart => exact ⟨m, 0, by omega, rfl, by rw [Int.pow_zero, ← one_mod t ht]⟩
  case round =>
    obtain ⟨k, l, hkl, rfl, rfl⟩ := hrel
    have h1 := Int.emod_nonneg (v ^ l) (b := t) (by omega)
    have h2 := Int.emod_lt_of_pos (v ^ l) (b := t) (by omega)
    have H : Hid _ := pow_mod_step v l t
    have h3 : 0 ≤ v ^ l % t * v := Int.mul_nonneg h1 hv
    have h4 : v ^ l % t * v ≤ 1048576 * 1048576 := Int.mul_le_mul (by omega) hv2 hv (by omega)
    by_cases hk : 0 < k
    · go_wp2
      go_round
      case rel => exact ⟨k - 1, l + 1, by omega, by go_num, by rw [H.out]⟩
      case measure => simp [intOf]; omega
    · go_wp2
      go_ret
      obtain rfl : l = m := by omega
      exact ⟨rfl, rfl⟩

set_option maxHeartbeats 400000 in
/-- inverse, where there is one -/
theorem refInverse_calls (v t u : Int) (w : World) (hv : 0 ≤ v) (hv2 : v ≤ 1048576) (ht2 : t ≤ 1048576) (hu : 1 ≤ u) (hu2 : u < t) (h : v * u % t = 1) (hl : ∀ x, 1 ≤ x → x < u → v * x % t ≠ 1) :
    Calls Tryz.prog 96 #[.int .i64 v, .int .i64 t] w fun e w' => e = .returned (.int .i64 u) ∧ w' = w := by
  have H1 : Hid _ := h
  have H2 : Hid _ := hl
  clear h hl
  go_enter Tryz.func96, Tryz.ntmps96
  go_wp2
  go_loop [5] (fun j => ∃ x : Int, 1 ≤ x ∧ x ≤ u ∧ j = .int .i64 x) (fun j => (u - intOf j).toNat)
  case atStart => exact ⟨1, by omega, hu, rfl⟩
  case round =>
    obtain ⟨x, hx1, hx2, rfl⟩ := hrel
    have h3 : 0 ≤ v * x := Int.mul_nonneg hv (by omega)
    have h4 : v * x ≤ 1048576 * 1048576 := Int.mul_le_mul hv2 (by omega) (by omega) (by omega)
    by_cases hx : x = u
    · subst hx
      have h5 : (v * x % t == 1) = true := by rw [H1.out]; rfl
      go_wp2
      go_ret
      exact ⟨rfl, rfl⟩
    · have h5 : (v * x % t == 1) = false := beq_eq_false_iff_ne.2 (H2.out x hx1 (by omega))
      go_wp2
      go_round
      case rel => exact ⟨x + 1, by omega, by omega, rfl⟩
      case measure => simp [intOf]; omega

set_option maxHeartbeats 400000 in
/-- root: the least z with z^n = -1 -/
theorem root_calls (n t q b z : Int) (w : World) (hn : 0 ≤ n) (hn2 : n ≤ 16) (ht : 2 ≤ t) (ht2 : t ≤ 1048576) (hz : 1 ≤ z) (hz2 : z < t) (h : z ^ n.toNat % t = t - 1) (hl : ∀ x, 1 ≤ x → x < z → x ^ n.toNat % t ≠ t - 1) :
    Calls Tryz.prog 95 #[.agg #[.int .i64 n, .int .i64 t, .int .i64 q, .int .i64 b]] w fun e w' => e = .returned (.int .i64 z) ∧ Up w w' := by
  have H1 : Hid _ := h
  have H2 : Hid _ := hl
  clear h hl
  go_enter Tryz.func95, Tryz.ntmps95
  go_wp2
  go_loopw [3] (fun j wr => ∃ x : Int, 1 ≤ x ∧ x ≤ z ∧ j = .int .i64 x ∧ Up (w.alloc (.cells #[.int .i64 n, .int .i64 t, .int .i64 q, .int .i64 b] 23)) wr) (fun j _ => (z - intOf j).toNat)
  case atStart => exact ⟨1, by omega, hz, rfl, Up.refl _⟩
  case round =>
    obtain ⟨x, hx1, hx2, rfl, hu⟩ := hrel
    obtain ⟨hc, hf⟩ := bcell hu
    by_cases hx : x = z
    · subst hx
      have h5 : (x ^ n.toNat % t == t - 1) = true := by rw [H1.out]; exact beq_self_eq_true _
      go_wp2_with fail
      go_quiet ((go_at_call 60; exact Calls.quiet_of_same (raised_calls _ _ _ _ (by omega) (by omega) (by omega) (by omega) (by omega) (by omega))))
      go_wp2_with fail
      go_ret
      exact ⟨rfl, ((Up.refl _).alloc _).trans hu.drewN⟩
    · have h5 : (x ^ n.toNat % t == t - 1) = false := beq_eq_false_iff_ne.2 (H2.out x hx1 (by omega))
      go_wp2_with fail
      go_quiet ((go_at_call 60; exact Calls.quiet_of_same (raised_calls _ _ _ _ (by omega) (by omega) (by omega) (by omega) (by omega) (by omega))))
      go_wp2_with fail
      go_roundw
      case rel => exact ⟨x + 1, by omega, by omega, rfl, hu.drewN⟩
      case measure => simp [intOf]; omega

end Go.Proofs.YtjiekfplgmfgiabGreat
