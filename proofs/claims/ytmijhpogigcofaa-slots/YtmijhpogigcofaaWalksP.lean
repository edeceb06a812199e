/-
  Walks: what the functions on parameters do.
-/
import Derived.Test.YtmijhpogigcofaaRows
import Derived.Test.YtmijhpogigcofaaMath
import Derived.WalkKit
import Derived.WalkSpells
import Derived.WalkLawsBesides
namespace Go.Proofs.Ytmijhpogigcofaa
open Go.RowKit
set_option linter.unusedVariables false

theorem ret_bool {a b : Bool} (h : a = b) : Ending.returned (.bool a) = .returned (.bool b) := by rw [h]
theorem ret_int {k : IntKind} {a b : Int} (h : a = b) : Ending.returned (.int k a) = .returned (.int k b) := by rw [h]

set_option maxHeartbeats 400000 in
theorem isPrime_calls (n : Int) (w : World) (hn : n ≤ 1021) :
    Calls Try.prog 37 #[.int .i64 n] w fun e w' => e = .returned (.bool (prmB n)) ∧ w' = w := by
  by_cases h2 : n < 2
  · have hp := prmB_small h2
    go_enter Try.func37, Try.ntmps37
    go_wp2
    go_ret
    exact ⟨ret_bool hp.symm, rfl⟩
  · obtain ⟨m, rfl⟩ := Int.eq_ofNat_of_zero_le (a := n) (by omega)
    have hm : 2 ≤ m := by omega
    have hm2 : m ≤ 1021 := by omega
    go_enter Try.func37, Try.ntmps37
    go_wp2
    go_loop [3] (fun d => ∃ k : Nat, 2 ≤ k ∧ k ≤ m ∧ d = .int .i64 k ∧ Hid (NoDiv m k)) (fun d => m - (intOf d).toNat)
    case atStart => exact ⟨2, by omega, by omega, rfl, noDiv_two m⟩
    case round =>
      obtain ⟨k, hk1, hk2, rfl, hk⟩ := hrel
      have hq1 : (0 : Int) ≤ (m : Int) / (k : Int) := Int.ediv_nonneg (by omega) (by omega)
      have hq2 : (m : Int) / (k : Int) ≤ 1021 := by
        have := Int.ediv_le_self (k : Int) (a := (m : Int)) (by omega)
        omega
      go_wp2
      · go_ret
        rename_i h1 h3 _
        refine ⟨ret_bool ?_, rfl⟩
        have h4 : m % k = 0 := by
          have := eq_of_beq h3
          omega
        by_cases e : k = m
        · exfalso
          subst e
          have : k / k = 1 := Nat.div_self (by omega)
          have h5 : ((k / k : Nat) : Int) = (k : Int) / (k : Int) := by simp
          omega
        · exact (prmB_false h4 hk1 (by omega)).symm
      · rename_i h1 h3
        have h4 : m % k ≠ 0 := by
          intro c
          have : ((m : Int) % (k : Int)) = 0 := by omega
          rw [this] at h3
          exact absurd h3 (by decide)
        have h5 : k ≠ m := fun c => by subst c; simp at h4
        go_round
        case rel => exact ⟨k + 1, by omega, by omega, by go_num, noDiv_succ hk h4⟩
        case measure => simp [intOf]; omega
      · rename_i h1 _
        go_ret
        refine ⟨ret_bool (prmB_far hm hk1 hk ?_).symm, rfl⟩
        have h5 : ((m / k : Nat) : Int) = (m : Int) / (k : Int) := by simp
        omega

set_option maxHeartbeats 400000 in
/-- Mod -/
theorem Mod_calls (v m : Int) (w : World) (hm : 0 < m) (hm2 : m ≤ 4611686018427387904) :
    Calls Try.prog 39 #[.int .i64 v, .int .i64 m] w fun e w' => e = .returned (.int .i64 (v % m)) ∧ w' = w := by
  by_cases hv : 0 ≤ v
  · have h1 := Int.emod_nonneg v (b := m) (by omega)
    have h2 := Int.emod_lt_of_pos v hm
    go_enter Try.func39, Try.ntmps39
    go_wp2
    go_ret
    exact ⟨rfl, rfl⟩
  · have h1 := Int.emod_nonneg v (b := m) (by omega)
    have h2 := Int.emod_lt_of_pos v hm
    have H : Hid _ := tmod_two v m hm
    have h3 : -4611686018427387904 ≤ v.tmod m := by have := H.out; omega
    have h4 : v.tmod m ≤ 4611686018427387904 := by have := H.out; omega
    go_enter Try.func39, Try.ntmps39
    go_wp2
    · go_ret
      refine ⟨ret_int ?_, rfl⟩
      have := H.out
      omega
    · go_ret
      refine ⟨ret_int ?_, rfl⟩
      have := H.out
      omega

/-- nothing that was there has turned -/
abbrev Up (w w' : World) : Prop := Below w.heap.size w w'
theorem Up.refl (w : World) : Up w w := Below.refl _ _
theorem Up.trans {a b c : World} (h : Up a b) (k : Up b c) : Up a c := Below.trans h (k.mono h.size)
theorem Up.alloc {a b : World} (h : Up a b) (o : Obj) : Up a (b.alloc o) := Below.alloc h h.size o
theorem Up.drew {a b : World} (h : Up a b) : Up a b.drew := Below.drew h

set_option maxHeartbeats 400000 in
theorem refFits_calls (n t q b e : Int) (w : World) (ht : 1 ≤ t) (ht2 : t ≤ 1021) (hq : 0 ≤ q) (hq2 : q ≤ 1073741823) (he : 0 ≤ e) (he2 : e ≤ 1099511627776) :
    Calls Try.prog 20 #[.agg #[.int .i64 n, .int .i64 t, .int .i64 q, .int .i64 b], .int .i64 e] w fun r w' => r = .returned (.bool (fitsB t q e)) ∧ Up w w' := by
  have h1 := Int.emod_nonneg q (b := t) (by omega)
  have h2 := Int.emod_lt_of_pos q (b := t) (by omega)
  have h3 : 0 ≤ t * e := Int.mul_nonneg (by omega) he
  have h4 : t * e ≤ 1021 * 1099511627776 := Int.mul_le_mul ht2 he2 he (by omega)
  have h5 : 0 ≤ q % t * (t - 1) := Int.mul_nonneg h1 (by omega)
  have h6 : q % t * (t - 1) ≤ 1021 * 1021 := Int.mul_le_mul (by omega) (by omega) (by omega) (by omega)
  go_enter Try.func20, Try.ntmps20
  go_wp2_with (go_at_call 39; refine (Mod_calls _ _ _ (by omega) (by omega)).mono ?_; rintro e w' ⟨rfl, rfl⟩)
  go_ret
  exact ⟨rfl, (Up.refl _).alloc _⟩

set_option maxHeartbeats 400000 in
theorem Fits_calls (n t q b e : Int) (w : World) (ht : 1 ≤ t) (ht2 : t ≤ 1021) (hq : 0 ≤ q) (hq2 : q ≤ 1073741823) (he : 0 ≤ e) :
    Calls Try.prog 38 #[.agg #[.int .i64 n, .int .i64 t, .int .i64 q, .int .i64 b], .int .i64 e] w fun r w' => r = .returned (.bool (fitsB t q e)) ∧ Up w w' := by
  have h1 := Int.emod_nonneg q (b := t) (by omega)
  have h2 := Int.emod_lt_of_pos q (b := t) (by omega)
  by_cases hb : q ≤ e
  · have H : Hid _ := fitsB_far ht hq hb
    go_enter Try.func38, Try.ntmps38
    go_wp2
    go_ret
    exact ⟨ret_bool H.out.symm, (Up.refl _).alloc _⟩
  · have h3 : 0 ≤ t * e := Int.mul_nonneg (by omega) he
    have h4 : t * e ≤ 1021 * 1099511627776 := Int.mul_le_mul ht2 (by omega) he (by omega)
    have h5 : 0 ≤ q % t * (t - 1) := Int.mul_nonneg h1 (by omega)
    have h6 : q % t * (t - 1) ≤ 1021 * 1021 := Int.mul_le_mul (by omega) (by omega) (by omega) (by omega)
    go_enter Try.func38, Try.ntmps38
    go_wp2
    go_ret
    exact ⟨rfl, (Up.refl _).alloc _⟩

set_option maxHeartbeats 400000 in
theorem Good_n (n t q b : Int) (w : World) (hn : ¬ (n = 4 ∨ n = 8 ∨ n = 16)) :
    Calls Try.prog 19 #[.agg #[.int .i64 n, .int .i64 t, .int .i64 q, .int .i64 b]] w fun r w' => r = .returned (.bool (goodB n t q b)) ∧ Up w w' := by
  have H : Hid (goodB n t q b = false) := goodB_nn hn
  have h1 : (n != 4) = true := by rw [bne_iff_ne]; omega
  have h2 : (n != 8) = true := by rw [bne_iff_ne]; omega
  have h3 : (n != 16) = true := by rw [bne_iff_ne]; omega
  clear hn
  go_enter Try.func19, Try.ntmps19
  go_wp2
  go_ret
  exact ⟨ret_bool H.out.symm, (Up.refl _).alloc _⟩

set_option maxHeartbeats 2000000 in
theorem Good_np (n t q b : Int) (w : World) (hn : n = 4 ∨ n = 8 ∨ n = 16) (ht2 : t ≤ 1021) (hp : prmB t = false) :
    Calls Try.prog 19 #[.agg #[.int .i64 n, .int .i64 t, .int .i64 q, .int .i64 b]] w fun r w' => r = .returned (.bool (goodB n t q b)) ∧ Up w w' := by
  have H : Hid (goodB n t q b = false) := goodB_np hp
  rcases hn with rfl | rfl | rfl
  all_goals
    go_enter Try.func19, Try.ntmps19
    go_wp2_with (first | (go_at_call 37; refine (isPrime_calls _ _ (by omega)).mono ?_; rintro e w' ⟨rfl, rfl⟩))
    all_goals go_ret
    all_goals exact ⟨ret_bool H.out.symm, (Up.refl _).alloc _⟩

set_option maxHeartbeats 400000 in
theorem Good_big (n t q b : Int) (w : World) (hn : n = 4 ∨ n = 8 ∨ n = 16) (ht2 : 1021 < t) :
    Calls Try.prog 19 #[.agg #[.int .i64 n, .int .i64 t, .int .i64 q, .int .i64 b]] w fun r w' => r = .returned (.bool (goodB n t q b)) ∧ Up w w' := by
  have H : Hid (goodB n t q b = false) := goodB_no (Or.inl ht2)
  rcases hn with rfl | rfl | rfl
  all_goals
    go_enter Try.func19, Try.ntmps19
    go_wp2_with fail
    go_ret
    exact ⟨ret_bool H.out.symm, (Up.refl _).alloc _⟩

set_option maxHeartbeats 2000000 in
theorem Good_yes (n t q b : Int) (w : World) (hn : n = 4 ∨ n = 8 ∨ n = 16) (ht2 : t ≤ 1021) (hp : prmB t = true) :
    Calls Try.prog 19 #[.agg #[.int .i64 n, .int .i64 t, .int .i64 q, .int .i64 b]] w fun r w' => r = .returned (.bool (goodB n t q b)) ∧ Up w w' := by
  have ht := prmB_ge hp
  rcases hn with rfl | rfl | rfl
  all_goals
    go_enter Try.func19, Try.ntmps19
    go_wp2_with (first | (go_at_call 37; refine (isPrime_calls _ _ (by omega)).mono ?_; rintro e w' ⟨rfl, rfl⟩) | (go_at_call 38; refine (Fits_calls _ _ _ _ _ _ (by omega) (by omega) (by omega) (by omega) (by omega)).mono ?_; rintro e w' ⟨rfl, hu⟩))
    all_goals go_ret
    all_goals first
      | exact ⟨ret_bool (goodB_no (by omega)).symm, (Up.refl _).alloc _⟩
      | exact ⟨ret_bool (goodB_yes (by omega) hp (by omega)).symm, ((Up.refl _).alloc _).trans hu⟩

theorem Good_calls (n t q b : Int) (w : World) :
    Calls Try.prog 19 #[.agg #[.int .i64 n, .int .i64 t, .int .i64 q, .int .i64 b]] w fun r w' => r = .returned (.bool (goodB n t q b)) ∧ Up w w' := by
  by_cases hn : n = 4 ∨ n = 8 ∨ n = 16
  · by_cases ht : t ≤ 1021
    · cases hp : prmB t with
      | false => exact Good_np n t q b w hn ht hp
      | true => exact Good_yes n t q b w hn ht hp
    · exact Good_big n t q b w hn (by omega)
  · exact Good_n n t q b w hn

end Go.Proofs.Ytmijhpogigcofaa
