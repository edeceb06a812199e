/-
  Walks: the program's param, and Check.
-/
import Derived.Test.YtcjhgbljhpflfabGreatWalksR
import Derived.Deep.RegionHeld3
namespace Go.Proofs.YtcjhgbljhpflfabGreat
open Go.RowKit
set_option linter.unusedVariables false

set_option maxHeartbeats 400000 in
theorem isPrime_calls (n : Int) (w : World) (hn : n ≤ 1021) :
    Calls Tryz.prog 86 #[.int .i64 n] w fun e w' => e = .returned (.bool (prmB n)) ∧ w' = w := by
  by_cases h2 : n < 2
  · have hp := prmB_small h2
    go_enter Tryz.func86, Tryz.ntmps86
    go_wp2
    go_ret
    exact ⟨ret_bool hp.symm, rfl⟩
  · obtain ⟨m, rfl⟩ := Int.eq_ofNat_of_zero_le (a := n) (by omega)
    have hm : 2 ≤ m := by omega
    have hm2 : m ≤ 1021 := by omega
    go_enter Tryz.func86, Tryz.ntmps86
    go_wp2
    go_loop [3] (fun d => ∃ k : Nat, 2 ≤ k ∧ k ≤ m ∧ d = .int .i64 k ∧ Hid (NoDiv m k)) (fun d => m - (intOf d).toNat)
    case atStart => exact ⟨2, by omega, by omega, rfl, noDiv_two m⟩
    case round =>
      obtain ⟨k, hk1, hk2, rfl, hk⟩ := hrel
      have hq1 : (0 : Int) ≤ (m : Int) / (k : Int) := Int.ediv_nonneg (by omega) (by omega)
      have hq2 : (m : Int) / (k : Int) ≤ 1021 := by
        have := Int.ediv_le_self (k : Int) (a := (m : Int)) (by omega)
        omega
      go_wp2
      · go_ret
        rename_i h1 h3 _
        refine ⟨ret_bool ?_, rfl⟩
        have h4 : m % k = 0 := by
          have := eq_of_beq h3
          omega
        by_cases e : k = m
        · exfalso
          subst e
          have : k / k = 1 := Nat.div_self (by omega)
          have h5 : ((k / k : Nat) : Int) = (k : Int) / (k : Int) := by simp
          omega
        · exact (prmB_false h4 hk1 (by omega)).symm
      · rename_i h1 h3
        have h4 : m % k ≠ 0 := by
          intro c
          have : ((m : Int) % (k : Int)) = 0 := by omega
          rw [this] at h3
          exact absurd h3 (by decide)
        have h5 : k ≠ m := fun c => by subst c; simp at h4
        go_round
        case rel => exact ⟨k + 1, by omega, by omega, by go_num, noDiv_succ hk h4⟩
        case measure => simp [intOf]; omega
      · rename_i h1 _
        go_ret
        refine ⟨ret_bool (prmB_far hm hk1 hk ?_).symm, rfl⟩
        have h5 : ((m / k : Nat) : Int) = (m : Int) / (k : Int) := by simp
        omega

set_option maxHeartbeats 400000 in
theorem Rest_calls (n t q b : Int) (w : World) (ht : 1 ≤ t) (ht2 : t ≤ 1021) (hq : 0 ≤ q) (hq2 : q ≤ 1073741823) :
    Calls Tryz.prog 133 #[.agg #[.int .i64 n, .int .i64 t, .int .i64 q, .int .i64 b]] w fun r w' => r = .returned (.int .i64 (q % t)) ∧ Up w w' := by
  go_enter Tryz.func133, Tryz.ntmps133
  go_wp2
  go_ret
  exact ⟨rfl, (Up.refl _).alloc _⟩

set_option maxHeartbeats 400000 in
theorem Delta_calls (n t q b : Int) (w : World) (ht : 1 ≤ t) (ht2 : t ≤ 1021) (hq : 0 ≤ q) (hq2 : q ≤ 1073741823) :
    Calls Tryz.prog 153 #[.agg #[.int .i64 n, .int .i64 t, .int .i64 q, .int .i64 b]] w fun r w' => r = .returned (.int .i64 (q / t)) ∧ Up w w' := by
  have h1 : 0 ≤ q / t := Int.ediv_nonneg (by omega) (by omega)
  have h2 : q / t ≤ q := Int.ediv_le_self t (a := q) (by omega)
  go_enter Tryz.func153, Tryz.ntmps153
  go_wp2
  go_ret
  exact ⟨rfl, (Up.refl _).alloc _⟩

theorem keepC {p : Addr} {u : Value} {W W' : World} (hu : Up W W') (hS : W.cell? p = some u) : W'.cell? p = some u :=
  (hu.cell (p := p) (World.block_lt_of_cell? W p hS)).trans hS

theorem keepC4 {p0 p1 p2 p3 : Addr} {u0 u1 u2 u3 : Value} {W W' : World} (hu : Up W W') (hS : W.cell? p0 = some u0 ∧ W.cell? p1 = some u1 ∧ W.cell? p2 = some u2 ∧ W.cell? p3 = some u3) :
    W'.cell? p0 = some u0 ∧ W'.cell? p1 = some u1 ∧ W'.cell? p2 = some u2 ∧ W'.cell? p3 = some u3 :=
  ⟨keepC hu hS.1, keepC hu hS.2.1, keepC hu hS.2.2.1, keepC hu hS.2.2.2⟩

set_option maxHeartbeats 1000000 in
theorem Fits_calls (n t q b e : Int) (w : World) (ht : 1 ≤ t) (ht2 : t ≤ 1021) (hq : 0 ≤ q) (hq2 : q ≤ 1073741823) (he : 0 ≤ e) :
    Calls Tryz.prog 87 #[.agg #[.int .i64 n, .int .i64 t, .int .i64 q, .int .i64 b], .int .i64 e] w fun r w' => r = .returned (.bool (fitsB t q e)) ∧ Up w w' := by
  have h1 := Int.emod_nonneg q (b := t) (by omega)
  have h2 := Int.emod_lt_of_pos q (b := t) (by omega)
  by_cases hb : q ≤ e
  · have H : Hid _ := fitsB_far ht hq hb
    go_enter Tryz.func87, Tryz.ntmps87
    go_wp2
    go_ret
    exact ⟨ret_bool H.out.symm, (Up.refl _).alloc _⟩
  · have h3 : 0 ≤ t * e := Int.mul_nonneg (by omega) he
    have h4 : t * e ≤ 1021 * 1099511627776 := Int.mul_le_mul ht2 (by omega) he (by omega)
    have h5 : 0 ≤ q % t * (t - 1) := Int.mul_nonneg h1 (by omega)
    have h6 : q % t * (t - 1) ≤ 1021 * 1021 := Int.mul_le_mul (by omega) (by omega) (by omega) (by omega)
    have e1 : IntKind.i64.wrap (t * e) = t * e := IntWalk.i64_in _ (by omega)
    have e2 : IntKind.i64.wrap (t - 1) = t - 1 := IntWalk.i64_in _ (by omega)
    have e3 : IntKind.i64.wrap (q % t * (t - 1)) = q % t * (t - 1) := IntWalk.i64_in _ (by omega)
    have e4 : IntKind.i64.wrap (t * e + q % t * (t - 1)) = t * e + q % t * (t - 1) := IntWalk.i64_in _ (by omega)
    have e5 : IntKind.i64.wrap (2 * (t * e + q % t * (t - 1))) = 2 * (t * e + q % t * (t - 1)) := IntWalk.i64_in _ (by omega)
    have hA : (w.alloc (.cells #[.int .i64 n, .int .i64 t, .int .i64 q, .int .i64 b] 28)).cell? ⟨w.heap.size, 0, none⟩ = some (.int .i64 n) := by simp
    have hB : (w.alloc (.cells #[.int .i64 n, .int .i64 t, .int .i64 q, .int .i64 b] 28)).cell? ⟨w.heap.size, 1, none⟩ = some (.int .i64 t) := by simp
    have hC : (w.alloc (.cells #[.int .i64 n, .int .i64 t, .int .i64 q, .int .i64 b] 28)).cell? ⟨w.heap.size, 2, none⟩ = some (.int .i64 q) := by simp
    have hD : (w.alloc (.cells #[.int .i64 n, .int .i64 t, .int .i64 q, .int .i64 b] 28)).cell? ⟨w.heap.size, 3, none⟩ = some (.int .i64 b) := by simp
    go_enter Tryz.func87, Tryz.ntmps87
    go_wp2_with fail
    go_region_held3 (fun w' => w'.cell? ⟨w.heap.size, 0, none⟩ = some (.int .i64 n) ∧ w'.cell? ⟨w.heap.size, 1, none⟩ = some (.int .i64 t) ∧ w'.cell? ⟨w.heap.size, 2, none⟩ = some (.int .i64 q) ∧ w'.cell? ⟨w.heap.size, 3, none⟩ = some (.int .i64 b))
      (first | go_keep | exact keepC4 hu2 (by assumption))
      ((first | (go_at_call 133; refine (Rest_calls n t q b _ ht ht2 hq hq2).mono ?_; rintro e w2 ⟨rfl, hu2⟩)))
    go_wp2_with fail
    go_ret
    exact ⟨rfl, Up.trans (Up.drew (Up.alloc (Up.refl _) _)) hu2⟩

set_option maxHeartbeats 400000 in
theorem Good_n (n t q b : Int) (w : World) (hn : ¬ (n = 4 ∨ n = 8 ∨ n = 16)) :
    Calls Tryz.prog 33 #[.agg #[.int .i64 n, .int .i64 t, .int .i64 q, .int .i64 b]] w fun r w' => r = .returned (.bool (goodB n t q b)) ∧ Up w w' := by
  have H : Hid (goodB n t q b = false) := goodB_nn hn
  have h1 : (n != 4) = true := by rw [bne_iff_ne]; omega
  have h2 : (n != 8) = true := by rw [bne_iff_ne]; omega
  have h3 : (n != 16) = true := by rw [bne_iff_ne]; omega
  clear hn
  go_enter Tryz.func33, Tryz.ntmps33
  go_wp2
  go_ret
  exact ⟨ret_bool H.out.symm, (Up.refl _).alloc _⟩

set_option maxHeartbeats 2000000 in
theorem Good_np (n t q b : Int) (w : World) (hn : n = 4 ∨ n = 8 ∨ n = 16) (ht2 : t ≤ 1021) (hp : prmB t = false) :
    Calls Tryz.prog 33 #[.agg #[.int .i64 n, .int .i64 t, .int .i64 q, .int .i64 b]] w fun r w' => r = .returned (.bool (goodB n t q b)) ∧ Up w w' := by
  have H : Hid (goodB n t q b = false) := goodB_np hp
  rcases hn with rfl | rfl | rfl
  all_goals
    go_enter Tryz.func33, Tryz.ntmps33
    go_wp2_with (first | (go_at_call 86; refine (isPrime_calls _ _ (by omega)).mono ?_; rintro e w' ⟨rfl, rfl⟩))
    all_goals go_ret
    all_goals exact ⟨ret_bool H.out.symm, (Up.refl _).alloc _⟩

set_option maxHeartbeats 400000 in
theorem Good_big (n t q b : Int) (w : World) (hn : n = 4 ∨ n = 8 ∨ n = 16) (ht2 : 1021 < t) :
    Calls Tryz.prog 33 #[.agg #[.int .i64 n, .int .i64 t, .int .i64 q, .int .i64 b]] w fun r w' => r = .returned (.bool (goodB n t q b)) ∧ Up w w' := by
  have H : Hid (goodB n t q b = false) := goodB_no (Or.inl ht2)
  rcases hn with rfl | rfl | rfl
  all_goals
    go_enter Tryz.func33, Tryz.ntmps33
    go_wp2_with fail
    go_ret
    exact ⟨ret_bool H.out.symm, (Up.refl _).alloc _⟩

set_option maxHeartbeats 2000000 in
theorem Good_yes (n t q b : Int) (w : World) (hn : n = 4 ∨ n = 8 ∨ n = 16) (ht2 : t ≤ 1021) (hp : prmB t = true) :
    Calls Tryz.prog 33 #[.agg #[.int .i64 n, .int .i64 t, .int .i64 q, .int .i64 b]] w fun r w' => r = .returned (.bool (goodB n t q b)) ∧ Up w w' := by
  have ht := prmB_ge hp
  rcases hn with rfl | rfl | rfl
  all_goals
    go_enter Tryz.func33, Tryz.ntmps33
    go_wp2_with (first | (go_at_call 86; refine (isPrime_calls _ _ (by omega)).mono ?_; rintro e w' ⟨rfl, rfl⟩) | (go_at_call 87; refine (Fits_calls _ _ _ _ _ _ (by omega) (by omega) (by omega) (by omega) (by omega)).mono ?_; rintro e w' ⟨rfl, hu⟩))
    all_goals go_ret
    all_goals first
      | exact ⟨ret_bool (goodB_no (by omega)).symm, (Up.refl _).alloc _⟩
      | exact ⟨ret_bool (goodB_yes (by omega) hp (by omega)).symm, ((Up.refl _).alloc _).trans hu⟩

theorem Good_calls (n t q b : Int) (w : World) :
    Calls Tryz.prog 33 #[.agg #[.int .i64 n, .int .i64 t, .int .i64 q, .int .i64 b]] w fun r w' => r = .returned (.bool (goodB n t q b)) ∧ Up w w' := by
  by_cases hn : n = 4 ∨ n = 8 ∨ n = 16
  · by_cases ht : t ≤ 1021
    · cases hp : prmB t with
      | false => exact Good_np n t q b w hn ht hp
      | true => exact Good_yes n t q b w hn ht hp
    · exact Good_big n t q b w hn (by omega)
  · exact Good_n n t q b w hn

end Go.Proofs.YtcjhgbljhpflfabGreat
