/-
  Walks: digits, slots ahead, of the statements without the document's answer.
-/
import Derived.Test.YtjiekfplgmfgiaaKeepC
import Derived.Test.YtjiekfplgmfgiaaKeepT
namespace Go.Proofs.Ytjiekfplgmfgiaa
open Go.RowKit
set_option linter.unusedVariables false
set_option maxRecDepth 100000

set_option maxHeartbeats 4000000 in
theorem keepDigits_calls (L : Nat) (n t q b : Int) (w : World) (hq : 2 ≤ q) (hq2 : q ≤ 1073741823) (hb : 1 ≤ b) (hb2 : b ≤ 8) (hL : DigOf q b L) :
    Calls Try.prog 54 #[.agg #[.int .i64 n, .int .i64 t, .int .i64 q, .int .i64 b]] w fun e w' => e = .returned (.int .i64 L) ∧ Up w w' := by
  have hL30 := hL.le hb hq2
  have H1 : Hid _ := hL.top
  have H2 : Hid _ := hL.low
  have HB : Hid (∀ k : Nat, 1 ≤ (2 : Int) ^ (b.toNat * k)) := fun k => by
    have : 1 ≤ (2 : Nat) ^ (b.toNat * k) := Nat.one_le_two_pow
    exact_mod_cast this
  have HS : Hid (∀ k : Nat, (2 : Int) ^ (b.toNat * k) * 2 ^ b.toNat = 2 ^ (b.toNat * (k + 1))) := fun k => by
    rw [← Int.pow_add, Nat.mul_succ]
  obtain ⟨_, hp2, hp3⟩ := pow_b b hb hb2
  clear hL
  go_enter Try.func54, Try.ntmps54
  go_wp2_with fail
  go_loop [3, 4] (fun x y => ∃ (k : Nat) (V : Int), k ≤ L ∧ x = .int .i64 (k : Int) ∧ y = .int .i64 V ∧ Hid (V = 2 ^ (b.toNat * k))) (fun x _ => L - (intOf x).toNat)
  case atStart => exact ⟨0, 1, Nat.zero_le _, rfl, rfl, by show _ = _; simp⟩
  case round =>
    obtain ⟨k, V, hk, rfl, rfl, HV⟩ := hrel
    have hb1 := HB.out k
    rw [← HV.out] at hb1
    by_cases hlt : k < L
    · have hlt2 := H2.out k hlt
      rw [← HV.out] at hlt2
      have HS1 : Hid _ := HS.out k
      have h3 : 0 ≤ V * 2 ^ b.toNat := Int.mul_nonneg (by omega) (by omega)
      have h4 : V * 2 ^ b.toNat ≤ 1073741823 * 256 := Int.mul_le_mul (by omega) (by omega) (by omega) (by omega)
      have e1 : IntKind.i64.wrap (V * 2 ^ b.toNat) = V * 2 ^ b.toNat := IntWalk.i64_in _ (by omega)
      go_wp2_with fail
      go_round
      case rel => exact ⟨k + 1, V * 2 ^ b.toNat, by omega, by go_num, rfl, by show _ = _; rw [← HS1.out, ← HV.out]⟩
      case measure => simp [intOf]; omega
    · obtain rfl : k = L := by omega
      have hge := H1.out
      rw [← HV.out] at hge
      go_wp2_with fail
      go_ret
      exact ⟨rfl, (Up.refl _).alloc _⟩

theorem i64_nat (a : Nat) (h : a ≤ 1000000) : IntKind.i64.wrap (a : Int) = (a : Int) := IntWalk.i64_in _ (by omega)

theorem ahead_facts (n : Nat) (hn : n = 4 ∨ n = 8 ∨ n = 16) : ∀ k, k < n → k / (n / 2) * (n / 2) + (k + 1) % (n / 2) < n := by
  rcases hn with rfl | rfl | rfl <;> decide

theorem aheadI_length (n : Nat) (xs : List Int) : (aheadI n xs).length = n := by simp [aheadI]

theorem aheadI_small {n t : Nat} (g : NT n t) (xs : List Int) (h : ∀ i, i < n → 0 ≤ xs.getD i 0 ∧ xs.getD i 0 < (t : Int)) : ∀ i, i < n → 0 ≤ (aheadI n xs).getD i 0 ∧ (aheadI n xs).getD i 0 < (t : Int) := by
  intro i hi
  rw [aheadI, getD_range hi]
  exact h _ (aheadN_lt g i hi)

set_option maxHeartbeats 4000000 in
theorem ahead_calls (n : Nat) (t q b : Int) (xs : List Int) (ga ca : Nat) (w : World) (hn : n = 4 ∨ n = 8 ∨ n = 16) (hla : xs.length = n) (ia : IsI w ga xs) :
    Calls Try.prog 55 #[.agg #[.int .i64 n, .int .i64 t, .int .i64 q, .int .i64 b], .slice (some ⟨ga, 0, none⟩) n ca] w fun e w' => ∃ v, e = .returned v ∧ OwnI w' w.heap.size v (aheadI n xs) ∧ Up w w' := by
  have HLA : Hid _ := hla
  have HI : Hid _ := ahead_facts n hn
  have hn16 : n ≤ 16 := by omega
  have hd8 : n / 2 ≤ 8 := by omega
  have hd2 : 2 ≤ n / 2 := by omega
  have HDI : Hid ((n : Int) / 2 = ((n / 2 : Nat) : Int)) := rfl
  have ja := ia.up ((Up.refl _).alloc (.cells #[.int .i64 n, .int .i64 t, .int .i64 q, .int .i64 b] 26))
  have hga : ga < w.heap.size + 1 := Nat.lt_succ_of_lt ia.1
  have hgw : w.heap.size < w.heap.size + 1 := Nat.lt_succ_self _
  have HA : Hid (∀ k, (List.range (k + 1)).map (fun j => xs.getD (aheadN n j) 0) = (List.range k).map (fun j => xs.getD (aheadN n j) 0) ++ [xs.getD (k / (n / 2) * (n / 2) + (k + 1) % (n / 2)) 0]) := fun k => map_range_succ _ _
  have HEnd : Hid ((List.range n).map (fun j => xs.getD (aheadN n j) 0) = aheadI n xs) := rfl
  generalize aheadI n xs = ans at HEnd
  generalize (fun j => xs.getD (aheadN n j) 0) = F at HA HEnd
  clear hla hn
  go_enter Try.func55, Try.ntmps55
  go_wp2_with fail
  rw [HDI.out]
  generalize n / 2 = d at hd8 hd2 HDI HI HA ⊢
  go_loopw [6, 7] (fun v j wr => ∃ k : Nat, k ≤ n ∧ j = .int .i64 (k : Int) ∧ OwnI wr (w.heap.size + 1) v ((List.range k).map F) ∧ Up (w.alloc (.cells #[.int .i64 n, .int .i64 t, .int .i64 q, .int .i64 b] 26)) wr) (fun _ j _ => n - (intOf j).toNat)
  case atStart => exact ⟨0, Nat.zero_le _, rfl, World.ownsRow_nil _ _ _ _, Up.refl _⟩
  case round =>
    obtain ⟨k, hk, rfl, hown, hu⟩ := hrel
    obtain ⟨hc, hf⟩ := bcell hu
    by_cases hlt : k < n
    · have hI := HI.out k hlt
      have hct0 : wr.cell? ⟨w.heap.size, 0, none⟩ = some (.int .i64 (n : Int)) := by rw [hc _ _ (by simp)]; simp
      have hsz : w.heap.size + 1 ≤ wr.heap.size := by have := hu.size; simpa using this
      clear hc hf
      have HAk : Hid _ := HA.out k
      have hq1 : k / d ≤ 16 := Nat.le_trans (Nat.div_le_self _ _) (by omega)
      have hm1 : (k + 1) % d < d := Nat.mod_lt _ (by omega)
      have e1 : IntKind.i64.wrap ((k : Int).tdiv (d : Int)) = ((k / d : Nat) : Int) := by rw [Int.tdiv_eq_ediv_of_nonneg (by omega), ← Int.natCast_ediv]; exact i64_nat _ (by omega)
      have e1' : IntKind.i64.wrap ((k : Int) / (d : Int)) = ((k / d : Nat) : Int) := by rw [← Int.natCast_ediv]; exact i64_nat _ (by omega)
      have e2 : IntKind.i64.wrap ((k : Int) + 1) = (k : Int) + 1 := IntWalk.i64_in _ (by omega)
      have e3 : ((k : Int) + 1).tmod (d : Int) = (((k + 1) % d : Nat) : Int) := by rw [Int.tmod_eq_emod_of_nonneg (by omega), Int.natCast_emod, Int.natCast_add]; rfl
      have hX : k / d * d ≤ 128 := Nat.mul_le_mul hq1 hd8
      have e4 : IntKind.i64.wrap (((k / d : Nat) : Int) * (d : Int)) = ((k / d * d : Nat) : Int) := by rw [← Int.natCast_mul]; exact i64_nat _ (by omega)
      have e5 : IntKind.i64.wrap (((k / d * d : Nat) : Int) + (((k + 1) % d : Nat) : Int)) = ((k / d * d + (k + 1) % d : Nat) : Int) := by rw [← Int.natCast_add]; exact i64_nat _ (by omega)
      have hca := (ja.up hu).2 (k / d * d + (k + 1) % d) (by rw [HLA.out]; exact hI)
      generalize k / d * d + (k + 1) % d = I at e5 hca hI HAk
      generalize k / d * d = X at e4 e5
      generalize (k + 1) % d = M at e3 e5
      generalize k / d = A at e1 e1' e4
      generalize xs.getD I 0 = x at hca HAk
      have hi0 : (0 : Int) ≤ (I : Int) := by omega
      have hi1 : (I : Int) < (n : Int) := by omega
      have ed1 : ¬ (d : Int) = 0 := by omega
      have ed2 : ¬ d = 0 := by omega
      have ed0 : ((d : Int) == 0) = false := beq_eq_false_iff_ne.2 ed1
      have hcn : (wr.alloc (.cells #[.int .i64 x] 3)).drew.cell? ⟨wr.heap.size, 0, none⟩ = some (.int .i64 x) := by simp
      have hbs := Nat.le_trans hsz (Up.drew (Up.alloc (Up.refl wr) (.cells #[.int .i64 x] 3))).size
      go_wp2_with fail
      go_region_held3 (fun w' => w'.cell? ⟨ga, I, none⟩ = some (.int .i64 x))
        (first | go_keep | exact keep1 hb4 hga (by assumption))
        ((first | (refine step_append_int (wr.alloc (.cells #[.int .i64 x] 3)).drew x wr.heap.size rfl (.tmp 17) (.tmp 31) rfl _ u6 ((List.range k).map F) rfl (hown.up (Up.drew (Up.alloc (Up.refl _) _))) rfl hcn (by simp; omega) hbs ?_; intro v4 w4 hown4 hg4 hb4)))
      have hu4 : Up (w.alloc (.cells #[.int .i64 n, .int .i64 t, .int .i64 q, .int .i64 b] 26)) w4 := Below.trans (Up.drew (Below.alloc hu hu.size _)) (by simpa using hb4)
      clear hcn hbs hca hct0
      go_wp2_with fail
      go_roundw
      case rel => exact ⟨k + 1, by omega, by go_num, by rw [HAk.out]; exact hown4, hu4⟩
      case measure => simp [intOf]; omega
    · obtain rfl : k = n := by omega
      rw [HEnd.out] at hown
      go_wp2_with fail
      go_ret
      exact ⟨_, rfl, hown.base (by omega), ((Up.refl _).alloc _).trans hu⟩

end Go.Proofs.Ytjiekfplgmfgiaa
