/-
  Walks: small tools; the reference's Mod and Fits.
  Walks: the reference's Good.
  Walks: the small functions of the statements.
-/
import Derived.Test.YtcjhgbljhpflfabGreatRows
import Derived.Test.YtcjhgbljhpflfabGreatMath
import Derived.WalkKit
import Derived.WalkSpells
import Derived.WalkLawsBesides
namespace Go.Proofs.YtcjhgbljhpflfabGreat
open Go.RowKit
set_option linter.unusedVariables false

theorem ret_bool {a b : Bool} (h : a = b) : Ending.returned (.bool a) = .returned (.bool b) := by rw [h]

theorem ret_int {k : IntKind} {a b : Int} (h : a = b) : Ending.returned (.int k a) = .returned (.int k b) := by rw [h]

set_option maxHeartbeats 400000 in
/-- Mod -/
theorem Mod_calls (v m : Int) (w : World) (hm : 0 < m) (hm2 : m ≤ 4611686018427387904) :
    Calls Tryz.prog 112 #[.int .i64 v, .int .i64 m] w fun e w' => e = .returned (.int .i64 (v % m)) ∧ w' = w := by
  by_cases hv : 0 ≤ v
  · have h1 := Int.emod_nonneg v (b := m) (by omega)
    have h2 := Int.emod_lt_of_pos v hm
    go_enter Tryz.func112, Tryz.ntmps112
    go_wp2
    go_ret
    exact ⟨rfl, rfl⟩
  · have h1 := Int.emod_nonneg v (b := m) (by omega)
    have h2 := Int.emod_lt_of_pos v hm
    have H : Hid _ := tmod_two v m hm
    have h3 : -4611686018427387904 ≤ v.tmod m := by have := H.out; omega
    have h4 : v.tmod m ≤ 4611686018427387904 := by have := H.out; omega
    go_enter Tryz.func112, Tryz.ntmps112
    go_wp2
    · go_ret
      refine ⟨ret_int ?_, rfl⟩
      have := H.out
      omega
    · go_ret
      refine ⟨ret_int ?_, rfl⟩
      have := H.out
      omega

/-- nothing that was there has turned -/
abbrev Up (w w' : World) : Prop := Below w.heap.size w w'

theorem Up.refl (w : World) : Up w w := Below.refl _ _

theorem Up.trans {a b c : World} (h : Up a b) (k : Up b c) : Up a c := Below.trans h (k.mono h.size)

theorem Up.alloc {a b : World} (h : Up a b) (o : Obj) : Up a (b.alloc o) := Below.alloc h h.size o

theorem Up.drew {a b : World} (h : Up a b) : Up a b.drew := Below.drew h

set_option maxHeartbeats 400000 in
theorem refFits_calls (n t q b e : Int) (w : World) (ht : 1 ≤ t) (ht2 : t ≤ 1021) (hq : 0 ≤ q) (hq2 : q ≤ 1073741823) (he : 0 ≤ e) (he2 : e ≤ 1125899906842624) :
    Calls Tryz.prog 95 #[.agg #[.int .i64 n, .int .i64 t, .int .i64 q, .int .i64 b], .int .i64 e] w fun r w' => r = .returned (.bool (fitsB t q e)) ∧ Up w w' := by
  have h1 := Int.emod_nonneg q (b := t) (by omega)
  have h2 := Int.emod_lt_of_pos q (b := t) (by omega)
  have h3 : 0 ≤ t * e := Int.mul_nonneg (by omega) he
  have h4 : t * e ≤ 1021 * 1125899906842624 := Int.mul_le_mul ht2 he2 he (by omega)
  have h5 : 0 ≤ q % t * (t - 1) := Int.mul_nonneg h1 (by omega)
  have h6 : q % t * (t - 1) ≤ 1021 * 1021 := Int.mul_le_mul (by omega) (by omega) (by omega) (by omega)
  go_enter Tryz.func95, Tryz.ntmps95
  go_wp2_with (go_at_call 112; refine (Mod_calls _ _ _ (by omega) (by omega)).mono ?_; rintro e w' ⟨rfl, rfl⟩)
  go_ret
  exact ⟨rfl, (Up.refl _).alloc _⟩

end Go.Proofs.YtcjhgbljhpflfabGreat

namespace Go.Proofs.YtcjhgbljhpflfabGreat
open Go.RowKit
set_option linter.unusedVariables false

set_option maxHeartbeats 400000 in
theorem refGood_n (n t q b : Int) (w : World) (hn : ¬ (n = 4 ∨ n = 8 ∨ n = 16)) :
    Calls Tryz.prog 40 #[.agg #[.int .i64 n, .int .i64 t, .int .i64 q, .int .i64 b]] w fun r w' => r = .returned (.bool (goodB n t q b)) ∧ Up w w' := by
  have H : Hid (goodB n t q b = false) := goodB_nn hn
  have h1 : (n == 4) = false := by rw [beq_eq_false_iff_ne]; omega
  have h2 : (n == 8) = false := by rw [beq_eq_false_iff_ne]; omega
  have h3 : (n == 16) = false := by rw [beq_eq_false_iff_ne]; omega
  clear hn
  go_enter Tryz.func40, Tryz.ntmps40
  go_wp2
  go_ret
  exact ⟨ret_bool H.out.symm, (Up.refl _).alloc _⟩

theorem goodB_3 {n t q b : Int} (hn : n = 4 ∨ n = 8 ∨ n = 16) (h : t < 3) : goodB n t q b = false := by
  by_cases h2 : t < 2
  · exact goodB_np (prmB_small h2)
  · exact goodB_no (by rcases hn with rfl | rfl | rfl <;> omega)

set_option maxHeartbeats 2000000 in
theorem refGood_no (n t q b : Int) (w : World) (hn : n = 4 ∨ n = 8 ∨ n = 16) (h : t < 3 ∨ 1021 < t ∨ q < 2 ∨ 1073741823 < q ∨ b < 1 ∨ 8 < b) :
    Calls Tryz.prog 40 #[.agg #[.int .i64 n, .int .i64 t, .int .i64 q, .int .i64 b]] w fun r w' => r = .returned (.bool (goodB n t q b)) ∧ Up w w' := by
  have H : Hid (goodB n t q b = false) := by
    rcases h with h | h
    · exact goodB_3 hn h
    · exact goodB_no (by omega)
  rcases hn with rfl | rfl | rfl
  all_goals
    go_enter Tryz.func40, Tryz.ntmps40
    go_wp2_with fail
    all_goals go_ret
    all_goals exact ⟨ret_bool H.out.symm, (Up.refl _).alloc _⟩

set_option maxHeartbeats 1000000 in
theorem refGood_yes (n q b : Int) (t : Nat) (w : World) (hn : n = 4 ∨ n = 8 ∨ n = 16) (h1 : 3 ≤ t) (h2 : t ≤ 1021) (h3 : 2 ≤ q) (h4 : q ≤ 1073741823) (h5 : 1 ≤ b) (h6 : b ≤ 8) :
    Calls Tryz.prog 40 #[.agg #[.int .i64 n, .int .i64 t, .int .i64 q, .int .i64 b]] w fun r w' => r = .returned (.bool (goodB n t q b)) ∧ Up w w' := by
  rcases hn with rfl | rfl | rfl
  all_goals
    go_enter Tryz.func40, Tryz.ntmps40
    go_wp2_with fail
    go_loop [3] (fun d => ∃ k : Nat, 2 ≤ k ∧ k ≤ t ∧ d = .int .i64 k ∧ Hid (NoDiv t k)) (fun d => t - (intOf d).toNat)
    case atStart => exact ⟨2, by omega, by omega, rfl, noDiv_two t⟩
    case round =>
      obtain ⟨k, hk1, hk2, rfl, hk⟩ := hrel
      go_wp2_with (first | (go_at_call 95; refine (refFits_calls _ _ _ _ _ _ (by omega) (by omega) (by omega) (by omega) (by omega) (by omega)).mono ?_; rintro e w' ⟨rfl, hu⟩))
      · go_ret
        rename_i hd _
        have h7 : t % k = 0 := by
          have := eq_of_beq hd
          omega
        exact ⟨ret_bool (goodB_np (prmB_false h7 hk1 (by omega))).symm, (Up.refl _).alloc _⟩
      · rename_i hd
        have h7 : t % k ≠ 0 := by
          intro c
          have : ((t : Int) % (k : Int)) = 0 := by omega
          rw [this] at hd
          exact absurd hd (by decide)
        go_round
        case rel => exact ⟨k + 1, by omega, by omega, by go_num, noDiv_succ hk h7⟩
        case measure => simp [intOf]; omega
      · go_ret
        obtain rfl : k = t := by omega
        exact ⟨ret_bool (goodB_yes (by omega) (prmB_end (by omega) hk) (by omega)).symm, ((Up.refl _).alloc _).trans hu⟩
      · go_ret
        exact ⟨ret_bool (goodB_no (by omega)).symm, (Up.refl _).alloc _⟩

theorem refGood_calls (n t q b : Int) (w : World) :
    Calls Tryz.prog 40 #[.agg #[.int .i64 n, .int .i64 t, .int .i64 q, .int .i64 b]] w fun r w' => r = .returned (.bool (goodB n t q b)) ∧ Up w w' := by
  by_cases hn : n = 4 ∨ n = 8 ∨ n = 16
  · by_cases h : t < 3 ∨ 1021 < t ∨ q < 2 ∨ 1073741823 < q ∨ b < 1 ∨ 8 < b
    · exact refGood_no n t q b w hn h
    · obtain ⟨m, rfl⟩ := Int.eq_ofNat_of_zero_le (a := t) (by omega)
      exact refGood_yes n q b m w hn (by omega) (by omega) (by omega) (by omega) (by omega) (by omega)
  · exact refGood_n n t q b w hn

end Go.Proofs.YtcjhgbljhpflfabGreat

namespace Go.Proofs.YtcjhgbljhpflfabGreat
open Go.RowKit
set_option linter.unusedVariables false

set_option maxHeartbeats 400000 in
theorem params_calls (n t q b : Int) (w : World) :
    Calls Tryz.prog 8 #[.agg #[.int .i64 n, .int .i64 t, .int .i64 q, .int .i64 b]] w fun r w' => r = .returned (.agg #[.int .i64 n, .int .i64 t, .int .i64 q, .int .i64 b]) ∧ Up w w' := by
  go_enter Tryz.func8, Tryz.ntmps8
  go_wp2
  refine bodyPost_ret (v := .agg #[.int .i64 n, .int .i64 t, .int .i64 q, .int .i64 b]) (by simp [results, Tryz.results8, go_sem]) rfl ⟨rfl, ?_⟩
  exact ((Up.refl _).alloc _).alloc _

set_option maxHeartbeats 400000 in
theorem example_calls (w : World) :
    Calls Tryz.prog 31 #[] w fun r w' => r = .returned (.agg #[.int .i64 4, .int .i64 17, .int .i64 1000003, .int .i64 4]) ∧ Up w w' := by
  go_enter Tryz.func31, Tryz.ntmps31
  go_wp2
  refine bodyPost_ret (v := .agg #[.int .i64 4, .int .i64 17, .int .i64 1000003, .int .i64 4]) (by simp [results, Tryz.results31, go_sem]) rfl ⟨rfl, ?_⟩
  exact (Up.refl _).alloc _

set_option maxHeartbeats 400000 in
theorem num_calls (n : Int) (w : World) :
    Calls Tryz.prog 10 #[.int .i64 n] w fun r w' => r = .returned (.int .i64 n) ∧ w' = w := by
  go_enter Tryz.func10, Tryz.ntmps10
  go_wp2
  go_ret
  exact ⟨rfl, rfl⟩

theorem bcell {W w1 : World} (hb : Up W w1) : (∀ b o, b < W.heap.size → w1.cell? ⟨b, o, none⟩ = W.cell? ⟨b, o, none⟩) ∧ (∀ b o, b < W.heap.size → w1.frozen? ⟨b, o, none⟩ = W.frozen? ⟨b, o, none⟩) :=
  ⟨fun b o h => hb.cell (p := ⟨b, o, none⟩) h, fun b o h => hb.frozen (p := ⟨b, o, none⟩) h⟩

end Go.Proofs.YtcjhgbljhpflfabGreat
