/-
  Walks: the program's points.
-/
import Derived.Test.YtfpmonifpddbdaaCodeQ
namespace Go.Proofs.Ytfpmonifpddbdaa
open Go.RowKit
set_option linter.unusedVariables false
set_option maxRecDepth 100000

theorem leastRoot_NT (n t : Nat) (w : World) (g : NT n t) :
    Calls Try.prog 125 #[.int .i64 n, .int .i64 t] w fun e w' => e = .returned (.int .i64 (rootN n t)) ∧ w' = w := by
  have ht := g.t3
  have ht2 := g.ht
  obtain ⟨hd1, hd2, hd3⟩ := g.half
  obtain ⟨r1, r2, r3, r4⟩ := root_facts g
  exact leastRoot_calls (n : Int) (t : Int) (rootN n t : Int) w (by omega) (by omega) (by omega) (by omega) r1 r2 (by rw [Int.toNat_natCast]; exact r3) (by rw [Int.toNat_natCast]; exact r4)

set_option maxHeartbeats 1000000 in
theorem firstRow_calls (n t : Nat) (q b : Int) (w : World) (g : NT n t) :
    Calls Try.prog 115 #[.agg #[.int .i64 n, .int .i64 t, .int .i64 q, .int .i64 b]] w fun e w' => ∃ v, e = .returned v ∧ OwnI w' w.heap.size v (ptL n t (n / 2)) ∧ Up w w' := by
  have ht := g.t3
  have ht2 := g.ht
  obtain ⟨hd1, hd2, hd3⟩ := g.half
  have G : Hid (NT n t) := g
  clear g
  go_enter Try.func115, Try.ntmps115
  go_wp2_with fail
  refine (leastRoot_NT n t _ G.out).mono ?_
  rintro e w' ⟨rfl, rfl⟩
  go_wp2_with fail
  go_loopw [3, 4, 5] (fun v x j wr => ∃ k : Nat, k ≤ n / 2 ∧ j = .int .i64 (k : Int) ∧ x = .int .i64 (cubeI n t k) ∧ OwnI wr (w.heap.size + 1) v (ptL n t k) ∧ Up (w.alloc (.cells #[.int .i64 n, .int .i64 t, .int .i64 q, .int .i64 b] 26)) wr) (fun _ _ j _ => n / 2 - (intOf j).toNat)
  case atStart => exact ⟨0, Nat.zero_le _, rfl, rfl, World.ownsRow_nil _ _ _ _, Up.refl _⟩
  case round =>
    obtain ⟨k, hk, rfl, rfl, hown, hu⟩ := hrel
    obtain ⟨hc, hf⟩ := bcell hu
    by_cases hlt : k < n / 2
    · have HP : Hid _ := cubeI_pI n t k hlt
      have hb := cubeI_bounds G.out k
      have hb1 := hb.1
      have hb2 := hb.2
      have hsz : w.heap.size + 1 ≤ wr.heap.size := by have := hu.size; simpa using this
      clear hb
      go_wp2_with (at_builtin; refine append_int _ _ rfl _ _ rfl _ _ _ rfl hown rfl (by rw [ptL_length]; omega) hsz ?_)
      intro v1 w1 hown1 hg1 hb3 _
      have hu1 : Up (w.alloc (.cells #[.int .i64 n, .int .i64 t, .int .i64 q, .int .i64 b] 26)) w1 := Below.trans hu (by simpa using hb3)
      clear hc hf hown
      obtain ⟨hc, hf⟩ := bcell hu1
      go_wp2_with fail
      refine (power_calls _ _ _ _ hb1 (by omega) (by omega) (by omega) (by omega) (by omega)).mono ?_
      rintro e w' ⟨rfl, rfl⟩
      go_wp2_with fail
      go_roundw
      case rel => exact ⟨k + 1, by omega, by go_num, by rw [← cubeI_succ], by rw [ptL_succ, ← HP.out]; exact hown1, hu1⟩
      case measure => simp [intOf]; omega
    · obtain rfl : k = n / 2 := by omega
      go_wp2
      go_ret
      exact ⟨_, rfl, hown.base (by omega), ((Up.refl _).alloc _).trans hu⟩

set_option maxHeartbeats 1000000 in
theorem points_calls (n t : Nat) (q b : Int) (w : World) (g : NT n t) :
    Calls Try.prog 96 #[.agg #[.int .i64 n, .int .i64 t, .int .i64 q, .int .i64 b]] w fun e w' => ∃ v, e = .returned v ∧ OwnI w' w.heap.size v (ptL n t n) ∧ Up w w' := by
  have ht := g.t3
  have ht2 := g.ht
  obtain ⟨hd1, hd2, hd3⟩ := g.half
  have G : Hid (NT n t) := g
  have HD : Hid _ := hd1
  clear g hd1
  go_enter Try.func96, Try.ntmps96
  go_wp2_with fail
  refine (firstRow_calls n t q b _ G.out).mono ?_
  rintro e w1 ⟨v, rfl, hown, hu⟩
  obtain ⟨gr, cap, rfl, hgr, his⟩ := hown.is (by intro c; have := congrArg List.length c; rw [ptL_length] at this; simp at this; omega)
  rw [ptL_length] at *
  have hsz : w.heap.size + 1 ≤ w1.heap.size := by have := hu.size; simpa using this
  go_wp2_with (at_builtin; refine append_ints _ rfl _ _ rfl w1.heap.size (.slice none 0 0) [] rfl (World.ownsRow_nil _ _ _ _) gr cap _ his (by rw [ptL_length]; rfl) (by rw [ptL_length]; simp; omega) (Nat.le_refl _) ?_)
  intro v2 w2 hown2 hg2 hb2
  clear hg2
  go_wp2_with fail
  go_loopw [4, 15] (fun v j wr => ∃ k : Nat, k ≤ n / 2 ∧ j = .int .i64 (k : Int) ∧ OwnI wr w1.heap.size v (ptL n t (n / 2 + k)) ∧ Up w1 wr) (fun _ j _ => n / 2 - (intOf j).toNat)
  case atStart => exact ⟨0, Nat.zero_le _, rfl, hown2, hb2⟩
  case round =>
    obtain ⟨k, hk, rfl, hown3, hu3⟩ := hrel
    obtain ⟨hc, hf⟩ := bcell (hu.trans hu3)
    by_cases hlt : k < n / 2
    · have hx := (his.up hu3).2 k (by rw [ptL_length]; omega)
      rw [ptL_getD _ _ _ _ hlt] at hx
      have HP : Hid _ := pI_inv G.out k hlt
      have hb := pI_bounds G.out k (by omega)
      generalize pI n t k = x at hx hb HP
      have hb1 := hb.1
      have hb2 := hb.2
      clear hb
      go_wp2_with fail
      refine (inverse_calls _ _ _ (by omega) (by omega) (by omega) (by omega)).mono ?_
      rintro e w' ⟨rfl, rfl⟩
      rw [← HP.out]
      go_wp2_with (at_builtin; refine append_int _ _ rfl _ _ rfl _ _ _ rfl hown3 rfl (by rw [ptL_length]; omega) hu3.size ?_)
      intro v1 w4 hown4 hg4 hb4 _
      clear hc hf hown3 hx
      go_wp2_with fail
      go_roundw
      case rel => exact ⟨k + 1, by omega, by go_num, by rw [← Nat.add_assoc, ptL_succ]; exact hown4, Below.trans hu3 hb4⟩
      case measure => simp [intOf]; omega
    · obtain rfl : k = n / 2 := by omega
      rw [HD.out] at hown3
      go_wp2
      go_ret
      exact ⟨_, rfl, hown3.base (by omega), (((Up.refl _).alloc _).trans hu).trans hu3⟩

end Go.Proofs.Ytfpmonifpddbdaa
