/-
  Walks: the reference's slots of a polynomial.
-/
import Derived.Test.YtfpmonifpddbdaaWalksZ
import Derived.Test.YtfpmonifpddbdaaMathI
namespace Go.Proofs.Ytfpmonifpddbdaa
open Go.RowKit
set_option linter.unusedVariables false

theorem sumI_nonneg {f : Nat → Int} {n : Nat} {B : Int} (h : ∀ i, i < n → 0 ≤ f i ∧ f i ≤ B) : 0 ≤ sumI f n ∧ sumI f n ≤ n * B := by
  induction n with
  | zero => simp [sumI]
  | succ n ih =>
    have h1 := ih (fun i hi => h i (by omega))
    have h2 := h n (by omega)
    simp only [sumI]
    rw [Int.natCast_succ, Int.add_mul]
    omega

set_option maxHeartbeats 2000000 in
theorem refSlots_calls (n t : Nat) (q b : Int) (xs : List Int) (gx cap : Nat) (w : World) (g : NT n t) (hl : xs.length = n) (hx : ∀ i, i < xs.length → 0 ≤ xs.getD i 0 ∧ xs.getD i 0 < 65536) (hi : IsI w gx xs) :
    Calls Try.prog 60 #[.agg #[.int .i64 n, .int .i64 t, .int .i64 q, .int .i64 b], .slice (some ⟨gx, 0, none⟩) n cap] w fun e w' => ∃ v, e = .returned v ∧ OwnI w' w.heap.size v (decI n t xs) ∧ Up w w' := by
  have ht := g.t3
  have ht2 := g.ht
  obtain ⟨hd1, hd2, hd3⟩ := g.half
  have G : Hid (NT n t) := g
  have HX : Hid _ := hx
  have HL : Hid _ := hl
  clear g hx hl
  go_enter Try.func60, Try.ntmps60
  go_wp2_with fail
  refine (Points_calls n t q b _ G.out).mono ?_
  rintro e w1 ⟨v, rfl, hown, hu⟩
  obtain ⟨gr, cap2, rfl, hgr, his⟩ := hown.is (by intro c; have := congrArg List.length c; rw [ptL_length] at this; simp at this; omega)
  rw [ptL_length] at *
  have hsz : w.heap.size + 1 ≤ w1.heap.size := by have := hu.size; simpa using this
  clear hown
  go_wp2_with fail
  go_loopw [6, 7] (fun v j wr => ∃ k : Nat, k ≤ n ∧ j = .int .i64 (k : Int) ∧ OwnI wr w1.heap.size v ((List.range k).map (valI n t xs)) ∧ Up w1 wr) (fun _ j _ => n - (intOf j).toNat)
  case atStart => exact ⟨0, Nat.zero_le _, rfl, World.ownsRow_nil _ _ _ _, Up.refl _⟩
  case round =>
    obtain ⟨k, hk, rfl, hown3, hu3⟩ := hrel
    obtain ⟨hc, hf⟩ := bcell (hu.trans hu3)
    by_cases hlt : k < n
    · have hb := pI_bounds G.out k (by omega)
      have HV : Hid (valI n t xs k = sumI (fun i => xs.getD i 0 * (pI n t k ^ i % (t : Int))) n % (t : Int)) := by
        show _ = _
        unfold valI
        exact (sumI_mod _ fun i _ => by rw [mul_mod_right])
      have HR : Hid ((List.range (k + 1)).map (valI n t xs) = (List.range k).map (valI n t xs) ++ [valI n t xs k]) := by
        show _ = _
        rw [List.range_succ, List.map_append, List.map_singleton]
      have HP : Hid (∀ W, Up w1 W → W.cell? ⟨gr, k, none⟩ = some (.int .i64 (pI n t k))) := fun W hW => by
        rw [(his.up hW).2 k (by rw [ptL_length]; omega), ptL_getD _ _ _ _ hlt]
      generalize pI n t k = x at hb HV HP
      have hb1 := hb.1
      have hb2 := hb.2
      have HSb : Hid (∀ m, m ≤ n → 0 ≤ sumI (fun i => xs.getD i 0 * (x ^ i % (t : Int))) m ∧ sumI (fun i => xs.getD i 0 * (x ^ i % (t : Int))) m ≤ m * (65536 * 1021)) := fun m hm => by
        refine sumI_nonneg fun i hi' => ?_
        have h1 := HX.out i (by rw [HL.out]; omega)
        have h2 := Int.emod_nonneg (x ^ i) (b := (t : Int)) (by omega)
        have h3 := Int.emod_lt_of_pos (x ^ i) (b := (t : Int)) (by omega)
        exact ⟨Int.mul_nonneg h1.1 h2, Int.mul_le_mul (by omega) (by omega) h2 (by omega)⟩
      clear hb
      go_wp2_with fail
      go_loopw [8, 9] (fun s j wx => ∃ m : Nat, m ≤ n ∧ j = .int .i64 (m : Int) ∧ s = .int .i64 (sumI (fun i => xs.getD i 0 * (x ^ i % (t : Int))) m) ∧ Up wr wx) (fun _ j _ => n - (intOf j).toNat)
      case atStart => exact ⟨0, Nat.zero_le _, rfl, rfl, Up.refl _⟩
      case round =>
        obtain ⟨m, hm, rfl, rfl, hux⟩ := hrel
        clear hc hf
        obtain ⟨hc, hf⟩ := bcell ((hu.trans hu3).trans hux)
        have hsb := HSb.out m hm
        by_cases hmn : m < n
        · have hcx := ((((hi.up ((Up.refl _).alloc _)).up hu).up hu3).up hux).2 m (by rw [HL.out]; omega)
          have hcp := HP.out _ (hu3.trans hux)
          have hcb := HX.out m (by rw [HL.out]; omega)
          have HS1 : Hid (sumI (fun i => xs.getD i 0 * (x ^ i % (t : Int))) (m + 1) = sumI (fun i => xs.getD i 0 * (x ^ i % (t : Int))) m + xs.getD m 0 * (x ^ m % (t : Int))) := rfl
          generalize xs.getD m 0 = c at hcx hcb HS1
          generalize sumI (fun i => xs.getD i 0 * (x ^ i % (t : Int))) m = S at hsb HS1
          have h2 := Int.emod_nonneg (x ^ m) (b := (t : Int)) (by omega)
          have h3 := Int.emod_lt_of_pos (x ^ m) (b := (t : Int)) (by omega)
          have hcb1 := hcb.1
          have hcb2 := hcb.2
          have h5 : 0 ≤ c * (x ^ m % (t : Int)) := Int.mul_nonneg hcb1 h2
          have h6 : c * (x ^ m % (t : Int)) ≤ 65536 * 1021 := Int.mul_le_mul (by omega) (by omega) h2 (by omega)
          have hsb1 := hsb.1
          have hsb2 : S ≤ 16 * (65536 * 1021) := by have := hsb.2; omega
          have e1 : IntKind.i64.wrap (c * (x ^ m % (t : Int))) = c * (x ^ m % (t : Int)) := IntWalk.i64_in _ (by omega)
          have e2 : IntKind.i64.wrap (S + c * (x ^ m % (t : Int))) = S + c * (x ^ m % (t : Int)) := IntWalk.i64_in _ (by omega)
          have e3 : ((m : Int)).toNat = m := Int.toNat_natCast m
          clear hcb hsb
          go_wp2_with fail
          go_quiet ((go_at_call 70; exact Calls.quiet_of_same (raised_calls _ _ _ _ (by omega) (by omega) (by omega) (by omega) (by omega) (by omega))))
          go_wp2_with fail
          go_roundw
          case rel => exact ⟨m + 1, by omega, by go_num, by rw [HS1.out], Up.drewN hux⟩
          case measure => simp [intOf]; omega
        · obtain rfl : m = n := by omega
          have hvb := valI_bounds G.out xs k
          have h1 := hsb.1
          have h2 : sumI (fun i => xs.getD i 0 * (x ^ i % (t : Int))) m ≤ 16 * (65536 * 1021) := by have := hsb.2; omega
          generalize sumI (fun i => xs.getD i 0 * (x ^ i % (t : Int))) m = S at hsb HV h1 h2
          clear hsb
          go_wp2_with (at_builtin; refine append_int _ _ rfl _ _ rfl _ _ _ rfl (hown3.up hux) rfl (by simp; omega) (hu3.trans hux).size ?_)
          intro v4 w4 hown4 hg4 hb4 _
          clear hown3 hg4
          go_wp2_with fail
          go_roundw
          case rel => exact ⟨k + 1, by omega, by go_num, by rw [HR.out, HV.out]; exact hown4, Below.trans (hu3.trans hux) hb4⟩
          case measure => simp [intOf]; omega
    · obtain rfl : k = n := by omega
      go_wp2_with fail
      go_ret
      exact ⟨_, rfl, hown3.base (by omega), (((Up.refl _).alloc _).trans hu).trans hu3⟩

end Go.Proofs.Ytfpmonifpddbdaa
