/-
  Walks: from slots to coefficients, by the program.
-/
import Derived.Test.YtfpmonifpddbdaaCodeD
namespace Go.Proofs.Ytfpmonifpddbdaa
open Go.RowKit
set_option linter.unusedVariables false
set_option maxRecDepth 100000

set_option maxHeartbeats 2000000 in
theorem coefficient_calls (n t i : Nat) (q b : Int) (ss : List Int) (gs ga cap cap2 : Nat) (w : World) (g : NT n t) (hin : i < n) (hl : ss.length = n) (hx : ∀ i, i < ss.length → 0 ≤ ss.getD i 0 ∧ ss.getD i 0 < 65536) (hi : IsI w gs ss) (ha : IsI w ga (ptL n t n)) :
    Calls Try.prog 101 #[.agg #[.int .i64 n, .int .i64 t, .int .i64 q, .int .i64 b], .slice (some ⟨gs, 0, none⟩) n cap, .slice (some ⟨ga, 0, none⟩) n cap2, .int .i64 i] w fun e w' => e = .returned (.int .i64 (encC n t ss i)) ∧ Up w w' := by
  have ht := g.t3
  have ht2 := g.ht
  obtain ⟨hd1, hd2, hd3⟩ := g.half
  have G : Hid (NT n t) := g
  have HX : Hid _ := hx
  have HL : Hid _ := hl
  have hne : ((n : Int) != (n : Int)) = false := by simp
  have htt : decide ((t : Int) < 1) = false := by simp; omega
  generalize hE : encC n t ss i = E
  have HE : Hid (E = sumI (fun k => ss.getD k 0 * (pI n t k ^ (2 * n - i) % (t : Int))) n % (t : Int) * ((n : Int) ^ ((t : Int) - 2).toNat % (t : Int)) % (t : Int)) := hE.symm
  clear g hx hl hE
  go_enter Try.func101, Try.ntmps101
  go_wp2_with fail
  go_loopw [9, 26] (fun s j wr => ∃ m : Nat, m ≤ n ∧ j = .int .i64 (m : Int) ∧ s = .int .i64 (sumI (fun k => ss.getD k 0 * (pI n t k ^ (2 * n - i) % (t : Int))) m % (t : Int)) ∧ Up (w.alloc (.cells #[.int .i64 n, .int .i64 t, .int .i64 q, .int .i64 b] 26)) wr) (fun _ j _ => n - (intOf j).toNat)
  case atStart => exact ⟨0, Nat.zero_le _, rfl, by simp [sumI], Up.refl _⟩
  case round =>
    obtain ⟨m, hm, rfl, rfl, hu⟩ := hrel
    obtain ⟨hc, hf⟩ := bcell hu
    by_cases hmn : m < n
    · have hcs := ((hi.up ((Up.refl _).alloc _)).up hu).2 m (by rw [HL.out]; omega)
      have hca := ((ha.up ((Up.refl _).alloc _)).up hu).2 m (by rw [ptL_length]; omega)
      rw [ptL_getD _ _ _ _ hmn] at hca
      have hb := pI_bounds G.out m hmn
      have hcb := HX.out m (by rw [HL.out]; omega)
      have HS1 : Hid ((sumI (fun k => ss.getD k 0 * (pI n t k ^ (2 * n - i) % (t : Int))) m % (t : Int) + ss.getD m 0 * (pI n t m ^ (2 * n - i) % (t : Int))) % (t : Int) = sumI (fun k => ss.getD k 0 * (pI n t k ^ (2 * n - i) % (t : Int))) (m + 1) % (t : Int)) := by
        show _ = _
        rw [add_mod_left]
        rfl
      have h1 := Int.emod_nonneg (sumI (fun k => ss.getD k 0 * (pI n t k ^ (2 * n - i) % (t : Int))) m) (b := (t : Int)) (by omega)
      have h2 := Int.emod_lt_of_pos (sumI (fun k => ss.getD k 0 * (pI n t k ^ (2 * n - i) % (t : Int))) m) (b := (t : Int)) (by omega)
      generalize ss.getD m 0 = c at hcs hcb HS1
      generalize sumI (fun k => ss.getD k 0 * (pI n t k ^ (2 * n - i) % (t : Int))) m % (t : Int) = S at h1 h2 HS1
      generalize pI n t m = x at hb hca HS1
      have hb1 := hb.1
      have hb2 := hb.2
      have hcb1 := hcb.1
      have hcb2 := hcb.2
      clear hb hcb
      go_wp2_with fail
      refine (power_calls _ _ _ _ (by omega) (by omega) (by omega) (by omega) (by omega) (by omega)).mono ?_
      rintro e w' ⟨rfl, rfl⟩
      rw [show (2 * (n : Int) - (i : Int)).toNat = 2 * n - i from by omega]
      have h3 := Int.emod_nonneg (x ^ (2 * n - i)) (b := (t : Int)) (by omega)
      have h4 := Int.emod_lt_of_pos (x ^ (2 * n - i)) (b := (t : Int)) (by omega)
      generalize x ^ (2 * n - i) % (t : Int) = y at h3 h4 HS1
      have h5 : 0 ≤ c * y := Int.mul_nonneg hcb1 h3
      have h6 : c * y ≤ 65536 * 1021 := Int.mul_le_mul (by omega) (by omega) h3 (by omega)
      have e1 : IntKind.i64.wrap (c * y) = c * y := IntWalk.i64_in _ (by omega)
      have e2 : IntKind.i64.wrap (S + c * y) = S + c * y := IntWalk.i64_in _ (by omega)
      have e3 : (S + c * y).tmod (t : Int) = (S + c * y) % (t : Int) := Int.tmod_eq_emod_of_nonneg (by omega)
      go_wp2_with fail
      go_quiet (fail)
      go_wp2_with fail
      go_roundw
      case rel => exact ⟨m + 1, by omega, by go_num, by rw [← HS1.out], Up.drewN hu⟩
      case measure => simp [intOf]; omega
    · obtain rfl : m = n := by omega
      have h1 := Int.emod_nonneg (sumI (fun k => ss.getD k 0 * (pI m t k ^ (2 * m - i) % (t : Int))) m) (b := (t : Int)) (by omega)
      have h2 := Int.emod_lt_of_pos (sumI (fun k => ss.getD k 0 * (pI m t k ^ (2 * m - i) % (t : Int))) m) (b := (t : Int)) (by omega)
      generalize sumI (fun k => ss.getD k 0 * (pI m t k ^ (2 * m - i) % (t : Int))) m % (t : Int) = S at h1 h2 HE
      have h3 := Int.emod_nonneg ((m : Int) ^ ((t : Int) - 2).toNat) (b := (t : Int)) (by omega)
      have h4 := Int.emod_lt_of_pos ((m : Int) ^ ((t : Int) - 2).toNat) (b := (t : Int)) (by omega)
      go_wp2_with fail
      refine (inverse_calls _ _ _ (by omega) (by omega) (by omega) (by omega)).mono ?_
      rintro e w' ⟨rfl, rfl⟩
      generalize (m : Int) ^ ((t : Int) - 2).toNat % (t : Int) = o at h3 h4 HE
      have h5 : 0 ≤ S * o := Int.mul_nonneg h1 h3
      have h6 : S * o ≤ 1021 * 1021 := Int.mul_le_mul (by omega) (by omega) h3 (by omega)
      go_wp2_with fail
      go_ret
      exact ⟨ret_int HE.out.symm, ((Up.refl _).alloc _).trans hu⟩

set_option maxHeartbeats 1000000 in
theorem slotEncode_calls (n t : Nat) (q b : Int) (ss : List Int) (gs cap : Nat) (w : World) (g : NT n t) (hl : ss.length = n) (hx : ∀ i, i < ss.length → 0 ≤ ss.getD i 0 ∧ ss.getD i 0 < 65536) (hi : IsI w gs ss) :
    Calls Try.prog 61 #[.agg #[.int .i64 n, .int .i64 t, .int .i64 q, .int .i64 b], .slice (some ⟨gs, 0, none⟩) n cap] w fun e w' => ∃ v, e = .returned v ∧ OwnI w' w.heap.size v (encI n t ss) ∧ Up w w' := by
  have ht := g.t3
  have ht2 := g.ht
  obtain ⟨hd1, hd2, hd3⟩ := g.half
  have G : Hid (NT n t) := g
  have HX : Hid _ := hx
  have HL : Hid _ := hl
  clear g hx hl
  go_enter Try.func61, Try.ntmps61
  go_wp2_with fail
  refine (points_calls n t q b _ G.out).mono ?_
  rintro e w1 ⟨v, rfl, hown, hu⟩
  obtain ⟨gr, cap2, rfl, hgr, his⟩ := hown.is (by intro c; have := congrArg List.length c; rw [ptL_length] at this; simp at this; omega)
  rw [ptL_length] at *
  have hsz : w.heap.size + 1 ≤ w1.heap.size := by have := hu.size; simpa using this
  clear hown
  go_wp2_with fail
  go_loopw [6, 7] (fun v j wr => ∃ k : Nat, k ≤ n ∧ j = .int .i64 (k : Int) ∧ OwnI wr w1.heap.size v ((List.range k).map (encC n t ss)) ∧ Up w1 wr) (fun _ j _ => n - (intOf j).toNat)
  case atStart => exact ⟨0, Nat.zero_le _, rfl, World.ownsRow_nil _ _ _ _, Up.refl _⟩
  case round =>
    obtain ⟨k, hk, rfl, hown3, hu3⟩ := hrel
    obtain ⟨hc, hf⟩ := bcell (hu.trans hu3)
    by_cases hlt : k < n
    · have HR : Hid ((List.range (k + 1)).map (encC n t ss) = (List.range k).map (encC n t ss) ++ [encC n t ss k]) := by
        show _ = _
        rw [List.range_succ, List.map_append, List.map_singleton]
      go_wp2_with fail
      refine (coefficient_calls n t k q b ss gs gr cap cap2 _ G.out hlt HL.out HX.out (((hi.up ((Up.refl _).alloc _)).up hu).up hu3) (his.up hu3)).mono ?_
      rintro e w' ⟨rfl, hu4⟩
      clear hc hf
      replace hown3 := hown3.up hu4
      replace hu3 := hu3.trans hu4
      clear hu4
      go_wp2_with (at_builtin; refine append_int _ _ rfl _ _ rfl _ _ _ rfl hown3 rfl (by simp; omega) hu3.size ?_)
      intro v4 w4 hown4 hg4 hb4 _
      clear hown3 hg4
      go_wp2_with fail
      go_roundw
      case rel => exact ⟨k + 1, by omega, by go_num, by rw [HR.out]; exact hown4, Below.trans hu3 hb4⟩
      case measure => simp [intOf]; omega
    · obtain rfl : k = n := by omega
      go_wp2_with fail
      go_ret
      exact ⟨_, rfl, hown3.base (by omega), (((Up.refl _).alloc _).trans hu).trans hu3⟩

end Go.Proofs.Ytfpmonifpddbdaa
