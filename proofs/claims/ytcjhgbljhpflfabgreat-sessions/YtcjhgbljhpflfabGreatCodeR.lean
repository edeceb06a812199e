/-
  Walks: the program's polynomials: modulo, sums, multiples, centring.
-/
import Derived.Test.YtcjhgbljhpflfabGreatCodeX
import Derived.Test.YtcjhgbljhpflfabGreatWalksRk
namespace Go.Proofs.YtcjhgbljhpflfabGreat
open Go.RowKit
set_option linter.unusedVariables false
set_option maxRecDepth 100000

set_option maxHeartbeats 400000 in
theorem modulo_calls (v m : Int) (w : World) (hm : 0 < m) (hm2 : m ≤ 4611686018427387904) :
    Calls Tryz.prog 127 #[.int .i64 v, .int .i64 m] w fun e w' => e = .returned (.int .i64 (v % m)) ∧ w' = w := by
  have h1 := Int.emod_nonneg v (b := m) (by omega)
  have h2 := Int.emod_lt_of_pos v hm
  by_cases hv : 0 ≤ v
  · go_enter Tryz.func127, Tryz.ntmps127
    go_wp2
    go_ret
    exact ⟨rfl, rfl⟩
  · have H : Hid _ := tmod_two v m hm
    have h3 : -4611686018427387904 ≤ v.tmod m := by have := H.out; omega
    have h4 : v.tmod m ≤ 4611686018427387904 := by have := H.out; omega
    go_enter Tryz.func127, Tryz.ntmps127
    go_wp2
    · go_ret
      refine ⟨ret_int ?_, rfl⟩
      have := H.out
      omega
    · go_ret
      refine ⟨ret_int ?_, rfl⟩
      have := H.out
      omega

set_option maxHeartbeats 2000000 in
theorem ringAdd_calls (n : Nat) (xs ys : List Int) (ga gb ca cb : Nat) (q : Int) (w : World) (hn : n ≤ 16) (hla : xs.length = n) (hlb : ys.length = n) (hq : 0 < q) (hq2 : q ≤ 1073741823) (ha : Bnd xs 4294967296) (hb : Bnd ys 4294967296) (ia : IsI w ga xs) (ib : IsI w gb ys) :
    Calls Tryz.prog 77 #[.slice (some ⟨ga, 0, none⟩) n ca, .slice (some ⟨gb, 0, none⟩) n cb, .int .i64 q] w fun e w' => ∃ v, e = .returned v ∧ OwnI w' w.heap.size v (plusI n xs ys q) ∧ Up w w' := by
  have HA : Hid _ := ha
  have HB : Hid _ := hb
  have HLA : Hid _ := hla
  have HLB : Hid _ := hlb
  have hga := ia.1
  have hgb := ib.1
  clear ha hb hla hlb
  go_enter Tryz.func77, Tryz.ntmps77
  go_wp2_with fail
  go_loopw [7, 17] (fun v j wr => ∃ k : Nat, k ≤ n ∧ j = .int .i64 (k : Int) ∧ OwnI wr w.heap.size v ((List.range k).map (plusC xs ys q)) ∧ Up w wr) (fun _ j _ => n - (intOf j).toNat)
  case atStart => exact ⟨0, Nat.zero_le _, rfl, World.ownsRow_nil _ _ _ _, Up.refl _⟩
  case round =>
    obtain ⟨k, hk, rfl, hown, hu⟩ := hrel
    by_cases hlt : k < n
    · have hca := (ia.up hu).2 k (by rw [HLA.out]; omega)
      have hcb := (ib.up hu).2 k (by rw [HLB.out]; omega)
      have hba := HA.out k
      have hbb := HB.out k
      have HR : Hid ((List.range (k + 1)).map (plusC xs ys q) = (List.range k).map (plusC xs ys q) ++ [(xs.getD k 0 + ys.getD k 0) % q]) := map_range_succ _ _
      generalize xs.getD k 0 = x at hca hba HR
      generalize ys.getD k 0 = y at hcb hbb HR
      go_wp2_with (first | (go_at_call 127; refine (modulo_calls _ _ _ (by omega) (by omega)).mono ?_; rintro e w' ⟨rfl, rfl⟩) | (at_builtin; refine append_int _ _ rfl _ _ rfl _ _ _ rfl hown rfl (by simp; omega) hu.size ?_))
      intro v4 w4 hown4 hg4 hb4 _
      clear hown hca hcb
      go_wp2_with fail
      go_roundw
      case rel => exact ⟨k + 1, by omega, by go_num, by rw [HR.out]; exact hown4, Below.trans hu hb4⟩
      case measure => simp [intOf]; omega
    · obtain rfl : k = n := by omega
      go_wp2_with fail
      go_ret
      exact ⟨_, rfl, hown, hu⟩

theorem mul_in2 (a y m k : Int) (ha1 : -m ≤ a) (ha2 : a ≤ m) (hy1 : -k ≤ y) (hy2 : y ≤ k) : -(m * k) ≤ a * y ∧ a * y ≤ m * k := by
  rcases Int.le_total 0 a with h | h
  · have h1 : a * y ≤ a * k := Int.mul_le_mul_of_nonneg_left hy2 h
    have h2 : a * (-k) ≤ a * y := Int.mul_le_mul_of_nonneg_left hy1 h
    have h3 : a * k ≤ m * k := Int.mul_le_mul_of_nonneg_right ha2 (by omega)
    rw [Int.mul_neg] at h2
    omega
  · have h1 : a * k ≤ a * y := Int.mul_le_mul_of_nonpos_left h hy2
    have h2 : a * y ≤ a * (-k) := Int.mul_le_mul_of_nonpos_left h hy1
    have h3 : (-m) * k ≤ a * k := Int.mul_le_mul_of_nonneg_right ha1 (by omega)
    rw [Int.mul_neg] at h2
    rw [Int.neg_mul] at h3
    omega

set_option maxHeartbeats 2000000 in
theorem ringScale_calls (n : Nat) (xs : List Int) (ga ca : Nat) (s q : Int) (w : World) (hn : n ≤ 16) (hla : xs.length = n) (hq : 0 < q) (hq2 : q ≤ 1073741823) (hs1 : -1073741824 ≤ s) (hs2 : s ≤ 1073741824) (ha : Bnd xs 1073741824) (ia : IsI w ga xs) :
    Calls Tryz.prog 121 #[.int .i64 s, .slice (some ⟨ga, 0, none⟩) n ca, .int .i64 q] w fun e w' => ∃ v, e = .returned v ∧ OwnI w' w.heap.size v (scaledI n xs s q) ∧ Up w w' := by
  have HA : Hid _ := ha
  have HLA : Hid _ := hla
  clear ha hla
  go_enter Tryz.func121, Tryz.ntmps121
  go_wp2_with fail
  go_loopw [7, 12] (fun v j wr => ∃ k : Nat, k ≤ n ∧ j = .int .i64 (k : Int) ∧ OwnI wr w.heap.size v ((List.range k).map (scaledC xs s q)) ∧ Up w wr) (fun _ j _ => n - (intOf j).toNat)
  case atStart => exact ⟨0, Nat.zero_le _, rfl, World.ownsRow_nil _ _ _ _, Up.refl _⟩
  case round =>
    obtain ⟨k, hk, rfl, hown, hu⟩ := hrel
    by_cases hlt : k < n
    · have hca := (ia.up hu).2 k (by rw [HLA.out]; omega)
      have hba := HA.out k
      have HR : Hid ((List.range (k + 1)).map (scaledC xs s q) = (List.range k).map (scaledC xs s q) ++ [s * xs.getD k 0 % q]) := map_range_succ _ _
      generalize xs.getD k 0 = x at hca hba HR
      have hmul := mul_in2 s x 1073741824 1073741824 (by omega) hs2 hba.1 hba.2
      go_wp2_with (first | (go_at_call 127; refine (modulo_calls _ _ _ (by omega) (by omega)).mono ?_; rintro e w' ⟨rfl, rfl⟩) | (at_builtin; refine append_int _ _ rfl _ _ rfl _ _ _ rfl hown rfl (by simp; omega) hu.size ?_))
      intro v4 w4 hown4 hg4 hb4 _
      clear hown hca
      go_wp2_with fail
      go_roundw
      case rel => exact ⟨k + 1, by omega, by go_num, by rw [HR.out]; exact hown4, Below.trans hu hb4⟩
      case measure => simp [intOf]; omega
    · obtain rfl : k = n := by omega
      go_wp2_with fail
      go_ret
      exact ⟨_, rfl, hown, hu⟩

set_option maxHeartbeats 1000000 in
theorem ringSub_calls (n : Nat) (xs ys : List Int) (ga gb ca cb : Nat) (q : Int) (w : World) (hn : n ≤ 16) (hn1 : 1 ≤ n) (hla : xs.length = n) (hlb : ys.length = n) (hq : 0 < q) (hq2 : q ≤ 1073741823) (ha : Bnd xs 4294967296) (hb : Bnd ys 1073741824) (ia : IsI w ga xs) (ib : IsI w gb ys) :
    Calls Tryz.prog 93 #[.slice (some ⟨ga, 0, none⟩) n ca, .slice (some ⟨gb, 0, none⟩) n cb, .int .i64 q] w fun e w' => ∃ v, e = .returned v ∧ OwnI w' w.heap.size v (plusI n xs (scaledI n ys (-1) q) q) ∧ Up w w' := by
  have HA : Hid _ := ha
  have HB : Hid _ := hb
  have HLA : Hid _ := hla
  have HLB : Hid _ := hlb
  clear ha hb hla hlb
  go_enter Tryz.func93, Tryz.ntmps93
  go_wp2_with fail
  refine (ringScale_calls n ys gb cb (-1) q _ hn HLB.out hq hq2 (by omega) (by omega) HB.out ib).mono ?_
  rintro e w1 ⟨v1, rfl, ho1, hu1⟩
  obtain ⟨g1, c1, rfl, _, i1⟩ := ho1.is (ne_nil_of_length (scaledI_length _ _ _ _) (by omega))
  rw [scaledI_length]
  go_wp2_with fail
  refine (ringAdd_calls n xs (scaledI n ys (-1) q) ga g1 ca c1 q _ hn HLA.out (scaledI_length _ _ _ _) hq hq2 HA.out (Bnd_mod hq (by omega) fun i => ⟨_, rfl⟩) (ia.up hu1) i1).mono ?_
  rintro e w2 ⟨v2, rfl, ho2, hu2⟩
  have hsz : w.heap.size ≤ w1.heap.size := Below.size hu1
  go_wp2_with fail
  go_ret
  exact ⟨_, rfl, ho2.base hsz, hu1.trans hu2⟩

set_option maxHeartbeats 400000 in
theorem Centre_calls (x t : Int) (w : World) (hx : 0 ≤ x) (hx2 : x < t) (ht : t ≤ 1048576) (hodd : t % 2 = 1) :
    Calls Tryz.prog 149 #[.int .i64 x, .int .i64 t] w fun e w' => e = .returned (.int .i64 (cenC t x)) ∧ w' = w := by
  by_cases h : t < 2 * x
  · have H : Hid (cenC t x = x - t) := if_pos h
    go_enter Tryz.func149, Tryz.ntmps149
    go_wp2
    go_ret
    exact ⟨ret_int H.out.symm, rfl⟩
  · have H : Hid (cenC t x = x) := if_neg h
    go_enter Tryz.func149, Tryz.ntmps149
    go_wp2
    go_ret
    exact ⟨ret_int H.out.symm, rfl⟩

end Go.Proofs.YtcjhgbljhpflfabGreat
