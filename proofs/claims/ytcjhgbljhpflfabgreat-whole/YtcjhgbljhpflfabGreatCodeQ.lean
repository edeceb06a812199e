/-
  Walks: the program's powers, inverses, roots.
  Walks: the program's points.
  Walks: from coefficients to slots, by the program.
  Walks: from slots to coefficients, by the program.
  Walks: Decode and Encode of the program.
-/
import Derived.Test.YtcjhgbljhpflfabGreatCodeT
import Derived.Test.YtcjhgbljhpflfabGreatMath
import Derived.Test.YtcjhgbljhpflfabGreatCodeP
namespace Go.Proofs.YtcjhgbljhpflfabGreat
open Go.RowKit
set_option linter.unusedVariables false
set_option maxRecDepth 100000

set_option maxHeartbeats 1000000 in
theorem power_calls (x n t : Int) (w : World) (hx : 0 ≤ x) (hx2 : x ≤ 1048576) (hn : 0 ≤ n) (hn2 : n ≤ 4611686018427387904) (ht : 2 ≤ t) (ht2 : t ≤ 1048576) :
    Calls Tryz.prog 173 #[.int .i64 x, .int .i64 n, .int .i64 t] w fun e w' => e = .returned (.int .i64 (x ^ n.toNat % t)) ∧ w' = w := by
  obtain ⟨m, rfl⟩ := Int.eq_ofNat_of_zero_le hn
  rw [Int.toNat_natCast]
  go_enter Tryz.func173, Tryz.ntmps173
  go_wp2
  go_loop [0, 1, 7] (fun a b c => ∃ (y : Int) (e : Nat) (r : Int), 0 ≤ y ∧ y ≤ 1048576 ∧ 0 ≤ r ∧ r < t ∧ e ≤ m ∧ a = .int .i64 y ∧ b = .int .i64 (e : Int) ∧ c = .int .i64 r ∧ Hid (r * y ^ e % t = x ^ m % t)) (fun _ b _ => (intOf b).toNat)
  case atStart => exact ⟨x, m, 1, hx, hx2, by omega, by omega, Nat.le_refl _, rfl, rfl, rfl, by rw [Int.one_mul]; exact rfl⟩
  case round =>
    obtain ⟨y, e, r, hy, hy2, hr, hr2, he, rfl, rfl, rfl, H⟩ := hrel
    have h1 : 0 ≤ y * y := Int.mul_nonneg hy hy
    have h2 : y * y ≤ 1048576 * 1048576 := Int.mul_le_mul hy2 hy2 hy (by omega)
    have h3 : 0 ≤ r * y := Int.mul_nonneg hr hy
    have h4 : r * y ≤ 1048576 * 1048576 := Int.mul_le_mul (by omega) hy2 hy (by omega)
    have h5 := Int.emod_nonneg (y * y) (b := t) (by omega)
    have h6 := Int.emod_lt_of_pos (y * y) (b := t) (by omega)
    have h7 := Int.emod_nonneg (r * y) (b := t) (by omega)
    have h8 := Int.emod_lt_of_pos (r * y) (b := t) (by omega)
    by_cases hk : 0 < e
    · by_cases hodd : e % 2 = 1
      · have hb : ((e : Int) % 2 == 1) = true := by simp; omega
        go_wp2
        go_round
        case rel => exact ⟨y * y % t, e / 2, r * y % t, h5, by omega, h7, h8, by omega, rfl, by go_num, rfl, by rw [← H.out]; exact power_odd r y e t hodd⟩
        case measure => simp [intOf]; omega
      · have hb : ((e : Int) % 2 == 1) = false := by simp; omega
        go_wp2
        go_round
        case rel => exact ⟨y * y % t, e / 2, r, h5, by omega, hr, hr2, by omega, rfl, by go_num, rfl, by rw [← H.out]; exact power_even r y e t (by omega)⟩
        case measure => simp [intOf]; omega
    · obtain rfl : e = 0 := by omega
      go_wp2
      go_ret
      refine ⟨ret_int ?_, rfl⟩
      rw [← H.out, Int.pow_zero, Int.mul_one, Int.emod_eq_of_lt hr hr2]

set_option maxHeartbeats 400000 in
theorem inverse_calls (x t : Int) (w : World) (hx : 0 ≤ x) (hx2 : x ≤ 1048576) (ht : 2 ≤ t) (ht2 : t ≤ 1048576) :
    Calls Tryz.prog 170 #[.int .i64 x, .int .i64 t] w fun e w' => e = .returned (.int .i64 (x ^ (t - 2).toNat % t)) ∧ w' = w := by
  go_enter Tryz.func170, Tryz.ntmps170
  go_wp2_with fail
  refine (power_calls _ _ _ _ hx hx2 (by omega) (by omega) ht ht2).mono ?_
  rintro e w' ⟨rfl, rfl⟩
  go_wp2
  go_ret
  exact ⟨rfl, rfl⟩

set_option maxHeartbeats 400000 in
theorem leastRoot_calls (n t z : Int) (w : World) (hn : 0 ≤ n) (hn2 : n ≤ 16) (ht : 2 ≤ t) (ht2 : t ≤ 1048576) (hz : 1 ≤ z) (hz2 : z < t) (h : z ^ n.toNat % t = t - 1) (hl : ∀ x, 1 ≤ x → x < z → x ^ n.toNat % t ≠ t - 1) :
    Calls Tryz.prog 174 #[.int .i64 n, .int .i64 t] w fun e w' => e = .returned (.int .i64 z) ∧ w' = w := by
  have H1 : Hid _ := h
  have H2 : Hid _ := hl
  clear h hl
  go_enter Tryz.func174, Tryz.ntmps174
  go_wp2
  go_loop [5] (fun j => ∃ x : Int, 1 ≤ x ∧ x ≤ z ∧ j = .int .i64 x) (fun j => (z - intOf j).toNat)
  case atStart => exact ⟨1, by omega, hz, rfl⟩
  case round =>
    obtain ⟨x, hx1, hx2, rfl⟩ := hrel
    by_cases hx : x = z
    · subst hx
      have h5 : (x ^ n.toNat % t == t - 1) = true := by rw [H1.out]; exact beq_self_eq_true _
      go_wp2_with fail
      refine (power_calls _ _ _ _ (by omega) (by omega) (by omega) (by omega) ht ht2).mono ?_
      rintro e w' ⟨rfl, rfl⟩
      go_wp2_with fail
      go_ret
      exact ⟨rfl, rfl⟩
    · have h5 : (x ^ n.toNat % t == t - 1) = false := beq_eq_false_iff_ne.2 (H2.out x hx1 (by omega))
      go_wp2_with fail
      refine (power_calls _ _ _ _ (by omega) (by omega) (by omega) (by omega) ht ht2).mono ?_
      rintro e w' ⟨rfl, rfl⟩
      go_wp2_with fail
      go_round
      case rel => exact ⟨x + 1, by omega, by omega, rfl⟩
      case measure => simp [intOf]; omega

end Go.Proofs.YtcjhgbljhpflfabGreat

namespace Go.Proofs.YtcjhgbljhpflfabGreat
open Go.RowKit
set_option linter.unusedVariables false
set_option maxRecDepth 100000

theorem leastRoot_NT (n t : Nat) (w : World) (g : NT n t) :
    Calls Tryz.prog 174 #[.int .i64 n, .int .i64 t] w fun e w' => e = .returned (.int .i64 (rootN n t)) ∧ w' = w := by
  have ht := g.t3
  have ht2 := g.ht
  obtain ⟨hd1, hd2, hd3⟩ := g.half
  obtain ⟨r1, r2, r3, r4⟩ := root_facts g
  exact leastRoot_calls (n : Int) (t : Int) (rootN n t : Int) w (by omega) (by omega) (by omega) (by omega) r1 r2 (by rw [Int.toNat_natCast]; exact r3) (by rw [Int.toNat_natCast]; exact r4)

set_option maxHeartbeats 1000000 in
theorem firstRow_calls (n t : Nat) (q b : Int) (w : World) (g : NT n t) :
    Calls Tryz.prog 169 #[.agg #[.int .i64 n, .int .i64 t, .int .i64 q, .int .i64 b]] w fun e w' => ∃ v, e = .returned v ∧ OwnI w' w.heap.size v (ptL n t (n / 2)) ∧ Up w w' := by
  have ht := g.t3
  have ht2 := g.ht
  obtain ⟨hd1, hd2, hd3⟩ := g.half
  have G : Hid (NT n t) := g
  clear g
  go_enter Tryz.func169, Tryz.ntmps169
  go_wp2_with fail
  refine (leastRoot_NT n t _ G.out).mono ?_
  rintro e w' ⟨rfl, rfl⟩
  go_wp2_with fail
  go_loopw [3, 4, 5] (fun v x j wr => ∃ k : Nat, k ≤ n / 2 ∧ j = .int .i64 (k : Int) ∧ x = .int .i64 (cubeI n t k) ∧ OwnI wr (w.heap.size + 1) v (ptL n t k) ∧ Up (w.alloc (.cells #[.int .i64 n, .int .i64 t, .int .i64 q, .int .i64 b] 28)) wr) (fun _ _ j _ => n / 2 - (intOf j).toNat)
  case atStart => exact ⟨0, Nat.zero_le _, rfl, rfl, World.ownsRow_nil _ _ _ _, Up.refl _⟩
  case round =>
    obtain ⟨k, hk, rfl, rfl, hown, hu⟩ := hrel
    obtain ⟨hc, hf⟩ := bcell hu
    by_cases hlt : k < n / 2
    · have HP : Hid _ := cubeI_pI n t k hlt
      have hb := cubeI_bounds G.out k
      have hb1 := hb.1
      have hb2 := hb.2
      have hsz : w.heap.size + 1 ≤ wr.heap.size := by have := hu.size; simpa using this
      clear hb
      go_wp2_with (at_builtin; refine append_int _ _ rfl _ _ rfl _ _ _ rfl hown rfl (by rw [ptL_length]; omega) hsz ?_)
      intro v1 w1 hown1 hg1 hb3 _
      have hu1 : Up (w.alloc (.cells #[.int .i64 n, .int .i64 t, .int .i64 q, .int .i64 b] 28)) w1 := Below.trans hu (by simpa using hb3)
      clear hc hf hown
      obtain ⟨hc, hf⟩ := bcell hu1
      go_wp2_with fail
      refine (power_calls _ _ _ _ hb1 (by omega) (by omega) (by omega) (by omega) (by omega)).mono ?_
      rintro e w' ⟨rfl, rfl⟩
      go_wp2_with fail
      go_roundw
      case rel => exact ⟨k + 1, by omega, by go_num, by rw [← cubeI_succ], by rw [ptL_succ, ← HP.out]; exact hown1, hu1⟩
      case measure => simp [intOf]; omega
    · obtain rfl : k = n / 2 := by omega
      go_wp2
      go_ret
      exact ⟨_, rfl, hown.base (by omega), ((Up.refl _).alloc _).trans hu⟩

set_option maxHeartbeats 1000000 in
theorem points_calls (n t : Nat) (q b : Int) (w : World) (g : NT n t) :
    Calls Tryz.prog 154 #[.agg #[.int .i64 n, .int .i64 t, .int .i64 q, .int .i64 b]] w fun e w' => ∃ v, e = .returned v ∧ OwnI w' w.heap.size v (ptL n t n) ∧ Up w w' := by
  have ht := g.t3
  have ht2 := g.ht
  obtain ⟨hd1, hd2, hd3⟩ := g.half
  have G : Hid (NT n t) := g
  have HD : Hid _ := hd1
  clear g hd1
  go_enter Tryz.func154, Tryz.ntmps154
  go_wp2_with fail
  refine (firstRow_calls n t q b _ G.out).mono ?_
  rintro e w1 ⟨v, rfl, hown, hu⟩
  obtain ⟨gr, cap, rfl, hgr, his⟩ := hown.is (by intro c; have := congrArg List.length c; rw [ptL_length] at this; simp at this; omega)
  rw [ptL_length] at *
  have hsz : w.heap.size + 1 ≤ w1.heap.size := by have := hu.size; simpa using this
  go_wp2_with (at_builtin; refine append_ints _ rfl _ _ rfl w1.heap.size (.slice none 0 0) [] rfl (World.ownsRow_nil _ _ _ _) gr cap _ his (by rw [ptL_length]; rfl) (by rw [ptL_length]; simp; omega) (Nat.le_refl _) ?_)
  intro v2 w2 hown2 hg2 hb2
  clear hg2
  go_wp2_with fail
  go_loopw [4, 15] (fun v j wr => ∃ k : Nat, k ≤ n / 2 ∧ j = .int .i64 (k : Int) ∧ OwnI wr w1.heap.size v (ptL n t (n / 2 + k)) ∧ Up w1 wr) (fun _ j _ => n / 2 - (intOf j).toNat)
  case atStart => exact ⟨0, Nat.zero_le _, rfl, hown2, hb2⟩
  case round =>
    obtain ⟨k, hk, rfl, hown3, hu3⟩ := hrel
    obtain ⟨hc, hf⟩ := bcell (hu.trans hu3)
    by_cases hlt : k < n / 2
    · have hx := (his.up hu3).2 k (by rw [ptL_length]; omega)
      rw [ptL_getD _ _ _ _ hlt] at hx
      have HP : Hid _ := pI_inv G.out k hlt
      have hb := pI_bounds G.out k (by omega)
      generalize pI n t k = x at hx hb HP
      have hb1 := hb.1
      have hb2 := hb.2
      clear hb
      go_wp2_with fail
      refine (inverse_calls _ _ _ (by omega) (by omega) (by omega) (by omega)).mono ?_
      rintro e w' ⟨rfl, rfl⟩
      rw [← HP.out]
      go_wp2_with (at_builtin; refine append_int _ _ rfl _ _ rfl _ _ _ rfl hown3 rfl (by rw [ptL_length]; omega) hu3.size ?_)
      intro v1 w4 hown4 hg4 hb4 _
      clear hc hf hown3 hx
      go_wp2_with fail
      go_roundw
      case rel => exact ⟨k + 1, by omega, by go_num, by rw [← Nat.add_assoc, ptL_succ]; exact hown4, Below.trans hu3 hb4⟩
      case measure => simp [intOf]; omega
    · obtain rfl : k = n / 2 := by omega
      rw [HD.out] at hown3
      go_wp2
      go_ret
      exact ⟨_, rfl, hown3.base (by omega), (((Up.refl _).alloc _).trans hu).trans hu3⟩

end Go.Proofs.YtcjhgbljhpflfabGreat

namespace Go.Proofs.YtcjhgbljhpflfabGreat
open Go.RowKit
set_option linter.unusedVariables false
set_option maxRecDepth 100000

set_option maxHeartbeats 1000000 in
theorem valueAt_calls (xs : List Int) (g cap : Nat) (x t : Int) (w : World) (hl : xs.length ≤ 1000) (hx0 : 0 ≤ x) (hx1 : x < t) (ht : 2 ≤ t) (ht2 : t ≤ 1021) (hx : ∀ i, i < xs.length → 0 ≤ xs.getD i 0 ∧ xs.getD i 0 < 65536) (hi : IsI w g xs) :
    Calls Tryz.prog 155 #[.slice (some ⟨g, 0, none⟩) xs.length cap, .int .i64 x, .int .i64 t] w fun e w' => e = .returned (.int .i64 (sumI (fun i => xs.getD i 0 * x ^ i) xs.length % t)) ∧ w' = w := by
  have HX : Hid _ := hx
  generalize hS : sumI (fun i => xs.getD i 0 * x ^ i) xs.length = S
  have HS : Hid (horner x xs = S) := (horner_sum x xs).trans hS
  clear hx hS
  go_enter Tryz.func155, Tryz.ntmps155
  go_wp2
  go_loop [7, 8] (fun v j => ∃ k : Nat, k ≤ xs.length ∧ j = .int .i64 ((k : Int) - 1) ∧ v = .int .i64 (horner x (xs.drop k) % t)) (fun _ j => (intOf j + 1).toNat)
  case atStart => exact ⟨xs.length, Nat.le_refl _, by go_num, by simp [horner]⟩
  case round =>
    obtain ⟨k, hk, rfl, rfl⟩ := hrel
    by_cases hk0 : 0 < k
    · obtain ⟨k, rfl⟩ : ∃ m, k = m + 1 := ⟨k - 1, by omega⟩
      have hc := hi.2 k (by omega)
      have hb := HX.out k (by omega)
      have H : Hid _ := horner_step x t xs k (by omega)
      have h1 := Int.emod_nonneg (horner x (xs.drop (k + 1))) (b := t) (by omega)
      have h2 := Int.emod_lt_of_pos (horner x (xs.drop (k + 1))) (b := t) (by omega)
      generalize xs.getD k 0 = c at hc hb H
      generalize horner x (xs.drop (k + 1)) % t = v at h1 h2 H
      have hb1 := hb.1
      have hb2 := hb.2
      have h3 : 0 ≤ v * x := Int.mul_nonneg h1 hx0
      have h4 : v * x ≤ 1021 * 1021 := Int.mul_le_mul (by omega) (by omega) (by omega) (by omega)
      have e : ((k + 1 : Nat) : Int) - 1 = (k : Int) := by omega
      rw [e]
      clear hb e
      go_wp2_with fail
      go_round
      case rel => exact ⟨k, by omega, by go_num, by rw [← H.out]⟩
      case measure => simp [intOf]
    · obtain rfl : k = 0 := by omega
      go_wp2_with fail
      go_ret
      exact ⟨ret_int (by rw [← HS.out]), rfl⟩

set_option maxHeartbeats 1000000 in
theorem slotDecode_calls (n t : Nat) (q b : Int) (xs : List Int) (gx cap : Nat) (w : World) (g : NT n t) (hl : xs.length = n) (hx : ∀ i, i < xs.length → 0 ≤ xs.getD i 0 ∧ xs.getD i 0 < 65536) (hi : IsI w gx xs) :
    Calls Tryz.prog 132 #[.agg #[.int .i64 n, .int .i64 t, .int .i64 q, .int .i64 b], .slice (some ⟨gx, 0, none⟩) n cap] w fun e w' => ∃ v, e = .returned v ∧ OwnI w' w.heap.size v (decI n t xs) ∧ Up w w' := by
  have ht := g.t3
  have ht2 := g.ht
  obtain ⟨hd1, hd2, hd3⟩ := g.half
  have G : Hid (NT n t) := g
  have HX : Hid _ := hx
  have HL : Hid _ := hl
  clear g hd1 hx hl
  go_enter Tryz.func132, Tryz.ntmps132
  go_wp2_with fail
  refine (points_calls n t q b _ G.out).mono ?_
  rintro e w1 ⟨v, rfl, hown, hu⟩
  obtain ⟨gr, cap2, rfl, hgr, his⟩ := hown.is (by intro c; have := congrArg List.length c; rw [ptL_length] at this; simp at this; omega)
  rw [ptL_length] at *
  have hsz : w.heap.size + 1 ≤ w1.heap.size := by have := hu.size; simpa using this
  clear hown
  go_wp2_with fail
  go_loopw [5, 12] (fun v j wr => ∃ k : Nat, k ≤ n ∧ j = .int .i64 (k : Int) ∧ OwnI wr w1.heap.size v ((List.range k).map (valI n t xs)) ∧ Up w1 wr) (fun _ j _ => n - (intOf j).toNat)
  case atStart => exact ⟨0, Nat.zero_le _, rfl, World.ownsRow_nil _ _ _ _, Up.refl _⟩
  case round =>
    obtain ⟨k, hk, rfl, hown3, hu3⟩ := hrel
    obtain ⟨hc, hf⟩ := bcell (hu.trans hu3)
    by_cases hlt : k < n
    · have hp := (his.up hu3).2 k (by rw [ptL_length]; omega)
      rw [ptL_getD _ _ _ _ hlt] at hp
      have hb := pI_bounds G.out k (by omega)
      have HV : Hid (valI n t xs k = sumI (fun i => xs.getD i 0 * pI n t k ^ i) xs.length % (t : Int)) := by rw [HL.out]; rfl
      have HR : Hid ((List.range (k + 1)).map (valI n t xs) = (List.range k).map (valI n t xs) ++ [valI n t xs k]) := by
        show _ = _
        rw [List.range_succ, List.map_append, List.map_singleton]
      generalize pI n t k = x at hp hb HV
      have hb1 := hb.1
      have hb2 := hb.2
      clear hb
      go_wp2_with fail
      have hval := valueAt_calls xs gx cap x t wr (by rw [HL.out]; omega) (by omega) hb2 (by omega) (by omega) HX.out (((hi.up ((Up.refl _).alloc _)).up hu).up hu3)
      rw [← HV.out, HL.out] at hval
      refine hval.mono ?_
      rintro e w' ⟨rfl, rfl⟩
      clear hp hc hf
      have hvb := valI_bounds G.out xs k
      go_wp2_with (at_builtin; refine append_int _ _ rfl _ _ rfl _ _ _ rfl hown3 rfl (by simp; omega) hu3.size ?_)
      intro v4 w4 hown4 hg4 hb4 _
      clear hown3 hg4
      go_wp2_with fail
      go_roundw
      case rel => exact ⟨k + 1, by omega, by go_num, by rw [HR.out]; exact hown4, Below.trans hu3 hb4⟩
      case measure => simp [intOf]; omega
    · obtain rfl : k = n := by omega
      go_wp2_with fail
      go_ret
      exact ⟨_, rfl, hown3.base (by omega), (((Up.refl _).alloc _).trans hu).trans hu3⟩

end Go.Proofs.YtcjhgbljhpflfabGreat

namespace Go.Proofs.YtcjhgbljhpflfabGreat
open Go.RowKit
set_option linter.unusedVariables false
set_option maxRecDepth 100000

set_option maxHeartbeats 2000000 in
theorem coefficient_calls (n t i : Nat) (q b : Int) (ss : List Int) (gs ga cap cap2 : Nat) (w : World) (g : NT n t) (hin : i < n) (hl : ss.length = n) (hx : ∀ i, i < ss.length → 0 ≤ ss.getD i 0 ∧ ss.getD i 0 < 65536) (hi : IsI w gs ss) (ha : IsI w ga (ptL n t n)) :
    Calls Tryz.prog 168 #[.agg #[.int .i64 n, .int .i64 t, .int .i64 q, .int .i64 b], .slice (some ⟨gs, 0, none⟩) n cap, .slice (some ⟨ga, 0, none⟩) n cap2, .int .i64 i] w fun e w' => e = .returned (.int .i64 (encC n t ss i)) ∧ Up w w' := by
  have ht := g.t3
  have ht2 := g.ht
  obtain ⟨hd1, hd2, hd3⟩ := g.half
  have G : Hid (NT n t) := g
  have HX : Hid _ := hx
  have HL : Hid _ := hl
  have hne : ((n : Int) != (n : Int)) = false := by simp
  have htt : decide ((t : Int) < 1) = false := by simp; omega
  generalize hE : encC n t ss i = E
  have HE : Hid (E = sumI (fun k => ss.getD k 0 * (pI n t k ^ (2 * n - i) % (t : Int))) n % (t : Int) * ((n : Int) ^ ((t : Int) - 2).toNat % (t : Int)) % (t : Int)) := hE.symm
  clear g hx hl hE
  go_enter Tryz.func168, Tryz.ntmps168
  go_wp2_with fail
  go_loopw [9, 26] (fun s j wr => ∃ m : Nat, m ≤ n ∧ j = .int .i64 (m : Int) ∧ s = .int .i64 (sumI (fun k => ss.getD k 0 * (pI n t k ^ (2 * n - i) % (t : Int))) m % (t : Int)) ∧ Up (w.alloc (.cells #[.int .i64 n, .int .i64 t, .int .i64 q, .int .i64 b] 28)) wr) (fun _ j _ => n - (intOf j).toNat)
  case atStart => exact ⟨0, Nat.zero_le _, rfl, by simp [sumI], Up.refl _⟩
  case round =>
    obtain ⟨m, hm, rfl, rfl, hu⟩ := hrel
    obtain ⟨hc, hf⟩ := bcell hu
    by_cases hmn : m < n
    · have hcs := ((hi.up ((Up.refl _).alloc _)).up hu).2 m (by rw [HL.out]; omega)
      have hca := ((ha.up ((Up.refl _).alloc _)).up hu).2 m (by rw [ptL_length]; omega)
      rw [ptL_getD _ _ _ _ hmn] at hca
      have hb := pI_bounds G.out m hmn
      have hcb := HX.out m (by rw [HL.out]; omega)
      have HS1 : Hid ((sumI (fun k => ss.getD k 0 * (pI n t k ^ (2 * n - i) % (t : Int))) m % (t : Int) + ss.getD m 0 * (pI n t m ^ (2 * n - i) % (t : Int))) % (t : Int) = sumI (fun k => ss.getD k 0 * (pI n t k ^ (2 * n - i) % (t : Int))) (m + 1) % (t : Int)) := by
        show _ = _
        rw [add_mod_left]
        rfl
      have h1 := Int.emod_nonneg (sumI (fun k => ss.getD k 0 * (pI n t k ^ (2 * n - i) % (t : Int))) m) (b := (t : Int)) (by omega)
      have h2 := Int.emod_lt_of_pos (sumI (fun k => ss.getD k 0 * (pI n t k ^ (2 * n - i) % (t : Int))) m) (b := (t : Int)) (by omega)
      generalize ss.getD m 0 = c at hcs hcb HS1
      generalize sumI (fun k => ss.getD k 0 * (pI n t k ^ (2 * n - i) % (t : Int))) m % (t : Int) = S at h1 h2 HS1
      generalize pI n t m = x at hb hca HS1
      have hb1 := hb.1
      have hb2 := hb.2
      have hcb1 := hcb.1
      have hcb2 := hcb.2
      clear hb hcb
      go_wp2_with fail
      refine (power_calls _ _ _ _ (by omega) (by omega) (by omega) (by omega) (by omega) (by omega)).mono ?_
      rintro e w' ⟨rfl, rfl⟩
      rw [show (2 * (n : Int) - (i : Int)).toNat = 2 * n - i from by omega]
      have h3 := Int.emod_nonneg (x ^ (2 * n - i)) (b := (t : Int)) (by omega)
      have h4 := Int.emod_lt_of_pos (x ^ (2 * n - i)) (b := (t : Int)) (by omega)
      generalize x ^ (2 * n - i) % (t : Int) = y at h3 h4 HS1
      have h5 : 0 ≤ c * y := Int.mul_nonneg hcb1 h3
      have h6 : c * y ≤ 65536 * 1021 := Int.mul_le_mul (by omega) (by omega) h3 (by omega)
      have e1 : IntKind.i64.wrap (c * y) = c * y := IntWalk.i64_in _ (by omega)
      have e2 : IntKind.i64.wrap (S + c * y) = S + c * y := IntWalk.i64_in _ (by omega)
      have e3 : (S + c * y).tmod (t : Int) = (S + c * y) % (t : Int) := Int.tmod_eq_emod_of_nonneg (by omega)
      go_wp2_with fail
      go_quiet (fail)
      go_wp2_with fail
      go_roundw
      case rel => exact ⟨m + 1, by omega, by go_num, by rw [← HS1.out], Up.drewN hu⟩
      case measure => simp [intOf]; omega
    · obtain rfl : m = n := by omega
      have h1 := Int.emod_nonneg (sumI (fun k => ss.getD k 0 * (pI m t k ^ (2 * m - i) % (t : Int))) m) (b := (t : Int)) (by omega)
      have h2 := Int.emod_lt_of_pos (sumI (fun k => ss.getD k 0 * (pI m t k ^ (2 * m - i) % (t : Int))) m) (b := (t : Int)) (by omega)
      generalize sumI (fun k => ss.getD k 0 * (pI m t k ^ (2 * m - i) % (t : Int))) m % (t : Int) = S at h1 h2 HE
      have h3 := Int.emod_nonneg ((m : Int) ^ ((t : Int) - 2).toNat) (b := (t : Int)) (by omega)
      have h4 := Int.emod_lt_of_pos ((m : Int) ^ ((t : Int) - 2).toNat) (b := (t : Int)) (by omega)
      go_wp2_with fail
      refine (inverse_calls _ _ _ (by omega) (by omega) (by omega) (by omega)).mono ?_
      rintro e w' ⟨rfl, rfl⟩
      generalize (m : Int) ^ ((t : Int) - 2).toNat % (t : Int) = o at h3 h4 HE
      have h5 : 0 ≤ S * o := Int.mul_nonneg h1 h3
      have h6 : S * o ≤ 1021 * 1021 := Int.mul_le_mul (by omega) (by omega) h3 (by omega)
      go_wp2_with fail
      go_ret
      exact ⟨ret_int HE.out.symm, ((Up.refl _).alloc _).trans hu⟩

set_option maxHeartbeats 1000000 in
theorem slotEncode_calls (n t : Nat) (q b : Int) (ss : List Int) (gs cap : Nat) (w : World) (g : NT n t) (hl : ss.length = n) (hx : ∀ i, i < ss.length → 0 ≤ ss.getD i 0 ∧ ss.getD i 0 < 65536) (hi : IsI w gs ss) :
    Calls Tryz.prog 152 #[.agg #[.int .i64 n, .int .i64 t, .int .i64 q, .int .i64 b], .slice (some ⟨gs, 0, none⟩) n cap] w fun e w' => ∃ v, e = .returned v ∧ OwnI w' w.heap.size v (encI n t ss) ∧ Up w w' := by
  have ht := g.t3
  have ht2 := g.ht
  obtain ⟨hd1, hd2, hd3⟩ := g.half
  have G : Hid (NT n t) := g
  have HX : Hid _ := hx
  have HL : Hid _ := hl
  clear g hx hl
  go_enter Tryz.func152, Tryz.ntmps152
  go_wp2_with fail
  refine (points_calls n t q b _ G.out).mono ?_
  rintro e w1 ⟨v, rfl, hown, hu⟩
  obtain ⟨gr, cap2, rfl, hgr, his⟩ := hown.is (by intro c; have := congrArg List.length c; rw [ptL_length] at this; simp at this; omega)
  rw [ptL_length] at *
  have hsz : w.heap.size + 1 ≤ w1.heap.size := by have := hu.size; simpa using this
  clear hown
  go_wp2_with fail
  go_loopw [6, 7] (fun v j wr => ∃ k : Nat, k ≤ n ∧ j = .int .i64 (k : Int) ∧ OwnI wr w1.heap.size v ((List.range k).map (encC n t ss)) ∧ Up w1 wr) (fun _ j _ => n - (intOf j).toNat)
  case atStart => exact ⟨0, Nat.zero_le _, rfl, World.ownsRow_nil _ _ _ _, Up.refl _⟩
  case round =>
    obtain ⟨k, hk, rfl, hown3, hu3⟩ := hrel
    obtain ⟨hc, hf⟩ := bcell (hu.trans hu3)
    by_cases hlt : k < n
    · have HR : Hid ((List.range (k + 1)).map (encC n t ss) = (List.range k).map (encC n t ss) ++ [encC n t ss k]) := by
        show _ = _
        rw [List.range_succ, List.map_append, List.map_singleton]
      go_wp2_with fail
      refine (coefficient_calls n t k q b ss gs gr cap cap2 _ G.out hlt HL.out HX.out (((hi.up ((Up.refl _).alloc _)).up hu).up hu3) (his.up hu3)).mono ?_
      rintro e w' ⟨rfl, hu4⟩
      clear hc hf
      replace hown3 := hown3.up hu4
      replace hu3 := hu3.trans hu4
      clear hu4
      go_wp2_with (at_builtin; refine append_int _ _ rfl _ _ rfl _ _ _ rfl hown3 rfl (by simp; omega) hu3.size ?_)
      intro v4 w4 hown4 hg4 hb4 _
      clear hown3 hg4
      go_wp2_with fail
      go_roundw
      case rel => exact ⟨k + 1, by omega, by go_num, by rw [HR.out]; exact hown4, Below.trans hu3 hb4⟩
      case measure => simp [intOf]; omega
    · obtain rfl : k = n := by omega
      go_wp2_with fail
      go_ret
      exact ⟨_, rfl, hown3.base (by omega), (((Up.refl _).alloc _).trans hu).trans hu3⟩

end Go.Proofs.YtcjhgbljhpflfabGreat

namespace Go.Proofs.YtcjhgbljhpflfabGreat
open Go.RowKit
set_option linter.unusedVariables false
set_option maxRecDepth 100000

set_option maxHeartbeats 400000 in
theorem readValues_ok (n : Nat) (t q b : Int) (s : ByteArray) (w : World) (hs : s.size ≤ maxLen) (hn : n ≤ 16) (hok : okL s.data.toList n 2 t = true) :
    Calls Tryz.prog 36 #[.agg #[.int .i64 n, .int .i64 t, .int .i64 q, .int .i64 b], .string s] w fun e w' => ∃ v, e = .returned (.tuple #[v, .bool true]) ∧ OwnI w' w.heap.size v (numsL s.data.toList 2 n) ∧ Up w w' := by
  go_enter Tryz.func36, Tryz.ntmps36
  go_wp2_with fail
  refine (Numbers_ok s n 2 t _ hs (by omega) (by omega) (by omega) hok).mono ?_
  rintro e w' ⟨v, rfl, hown, hu⟩
  go_wp2_with fail
  go_ret2
  exact ⟨v, rfl, hown.base (by simp), ((Up.refl _).alloc _).trans hu⟩

set_option maxHeartbeats 400000 in
theorem writeValues_calls (xs : List Int) (g cap : Nat) (w : World) (hl : xs.length ≤ 1000) (hx : ∀ i, i < xs.length → 0 ≤ xs.getD i 0 ∧ xs.getD i 0 < 65536) (hi : IsI w g xs) :
    Calls Tryz.prog 72 #[.slice (some ⟨g, 0, none⟩) xs.length cap] w fun e w' => e = .returned (.string ⟨(textsL 2 xs).toArray⟩) ∧ Up w w' := by
  have HX : Hid _ := hx
  clear hx
  go_enter Tryz.func72, Tryz.ntmps72
  go_wp2_with fail
  refine (Write_calls xs g cap 2 _ (by omega) (by omega) hl (fun i hi => by have := HX.out i hi; omega) hi).mono ?_
  rintro e w' ⟨rfl, hu⟩
  go_wp2_with fail
  go_ret
  exact ⟨rfl, hu⟩

end Go.Proofs.YtcjhgbljhpflfabGreat
