/-
  Walks: the reference's Cubed.
-/
import Derived.Test.YtfpmonifpddbdaaWalksRc
namespace Go.Proofs.Ytfpmonifpddbdaa
open Go.RowKit
set_option linter.unusedVariables false
set_option maxRecDepth 100000

/-- the place that comes to i when x^3 is put in the place of x -/
def kOf (n i : Nat) : Nat := if n = 16 then 11 * i % n else 3 * i % n

theorem kOf_facts (n : Nat) (hn : n = 4 ∨ n = 8 ∨ n = 16) : ∀ i, i < n → kOf n i < n ∧ (3 * kOf n i % (2 * n) = i ∨ 3 * kOf n i % (2 * n) = i + n) ∧ ∀ k, k < n → k ≠ kOf n i → 3 * k % (2 * n) ≠ i ∧ 3 * k % (2 * n) ≠ i + n := by
  rcases hn with rfl | rfl | rfl <;> decide

/-- coefficient i with x^3 in the place of x -/
def cubC (n : Nat) (xs : List Int) (q : Int) (i : Nat) : Int := if 3 * kOf n i % (2 * n) = i then xs.getD (kOf n i) 0 % q else -(xs.getD (kOf n i) 0) % q
def cubI (n : Nat) (xs : List Int) (q : Int) : List Int := (List.range n).map (cubC n xs q)

set_option maxHeartbeats 4000000 in
theorem Cubed_calls (n : Nat) (xs : List Int) (ga ca : Nat) (q : Int) (w : World) (hn : n = 4 ∨ n = 8 ∨ n = 16) (hla : xs.length = n) (hq : 0 < q) (hq2 : q ≤ 1073741823) (ha : Bnd xs 4294967296) (ia : IsI w ga xs) :
    Calls Try.prog 69 #[.slice (some ⟨ga, 0, none⟩) n ca, .int .i64 q] w fun e w' => ∃ v, e = .returned v ∧ OwnI w' w.heap.size v (cubI n xs q) ∧ Up w w' := by
  have HF : Hid _ := kOf_facts n hn
  have hn2 : n ≤ 16 := by omega
  have hn3 : 4 ≤ n := by omega
  have HA : Hid _ := ha
  have HLA : Hid _ := hla
  clear ha hla hn
  go_enter Try.func69, Try.ntmps69
  go_wp2_with fail
  go_loopw [6, 7] (fun v j wr => ∃ i : Nat, i ≤ n ∧ j = .int .i64 (i : Int) ∧ OwnI wr w.heap.size v ((List.range i).map (cubC n xs q)) ∧ Up w wr) (fun _ j _ => n - (intOf j).toNat)
  case atStart => exact ⟨0, Nat.zero_le _, rfl, World.ownsRow_nil _ _ _ _, Up.refl _⟩
  case round =>
    obtain ⟨i, hi, rfl, hown, hu⟩ := hrel
    by_cases hin : i < n
    · obtain ⟨hk1, hk2, hk3⟩ := HF.out i hin
      have HK2 : Hid _ := hk2
      have HK3 : Hid _ := hk3
      have HR : Hid ((List.range (i + 1)).map (cubC n xs q) = (List.range i).map (cubC n xs q) ++ [cubC n xs q i]) := map_range_succ _ _
      have HCv : Hid (cubC n xs q i = if 3 * kOf n i % (2 * n) = i then xs.getD (kOf n i) 0 % q else -(xs.getD (kOf n i) 0) % q) := rfl
      generalize cubC n xs q i = y at HR HCv
      generalize kOf n i = K at hk1 HK2 HK3 HCv
      clear hk2 hk3
      go_wp2_with fail
      go_loopw [6, 8] (fun v z wx => ∃ k : Nat, k ≤ n ∧ z = .int .i64 (k : Int) ∧ OwnI wx w.heap.size v ((List.range i).map (cubC n xs q) ++ (if K < k then [y] else [])) ∧ Up w wx) (fun _ z _ => n - (intOf z).toNat)
      case atStart => exact ⟨0, Nat.zero_le _, rfl, by rw [if_neg (Nat.not_lt_zero _), List.append_nil]; exact hown, hu⟩
      case round =>
        obtain ⟨k, hk, rfl, hownx, hux⟩ := hrel
        clear hown hu
        by_cases hkn : k < n
        · have e0 : (3 * (k : Int)) % (2 * (n : Int)) = ((3 * k % (2 * n) : Nat) : Int) := by rw [Int.natCast_emod, Int.natCast_mul, Int.natCast_mul]; rfl
          by_cases hkK : k = K
          · subst hkK
            rw [if_neg (Nat.lt_irrefl k), List.append_nil] at hownx
            have hca := (ia.up hux).2 k (by rw [HLA.out]; omega)
            have hba := HA.out k
            by_cases hpos : 3 * k % (2 * n) = i
            · have HY := HCv.out
              rw [if_pos hpos] at HY
              have HY : Hid _ := HY
              have e1 : (3 * (k : Int) % (2 * (n : Int)) == (i : Int)) = true := by rw [e0, hpos]; exact beq_self_eq_true _
              have E0 : Hid _ := e0
              clear e0 hpos HCv
              generalize xs.getD k 0 = x at hca hba HY
              go_wp2_with fail
              refine (Mod_calls _ _ _ hq (by omega)).mono ?_
              rintro e w' ⟨rfl, rfl⟩
              go_wp2_with (at_builtin; refine append_int _ _ rfl _ _ rfl _ _ _ rfl hownx rfl (by simp; omega) hux.size ?_)
              intro v4 w4 hown4 hg4 hb4 _
              clear hownx hg4 hca
              go_wp2_with fail
              go_roundw
              case rel => exact ⟨k + 1, by omega, by go_num, by rw [if_pos (Nat.lt_succ_self k), HY.out]; exact hown4, Below.trans hux hb4⟩
              case measure => simp [intOf]; omega
            · have HY := HCv.out
              rw [if_neg hpos] at HY
              have HY : Hid _ := HY
              have hneg : 3 * k % (2 * n) = i + n := by
                rcases HK2.out with h | h
                · exact absurd h hpos
                · exact h
              have e1 : (3 * (k : Int) % (2 * (n : Int)) == (i : Int)) = false := by rw [e0]; exact beq_eq_false_iff_ne.2 (by omega)
              have e2 : (3 * (k : Int) % (2 * (n : Int)) == (i : Int) + (n : Int)) = true := by rw [e0, hneg]; simp
              have E0 : Hid _ := e0
              clear e0 hpos hneg HCv
              generalize xs.getD k 0 = x at hca hba HY
              go_wp2_with fail
              refine (Mod_calls _ _ _ hq (by omega)).mono ?_
              rintro e w' ⟨rfl, rfl⟩
              go_wp2_with (at_builtin; refine append_int _ _ rfl _ _ rfl _ _ _ rfl hownx rfl (by simp; omega) hux.size ?_)
              intro v4 w4 hown4 hg4 hb4 _
              clear hownx hg4 hca
              go_wp2_with fail
              go_roundw
              case rel => exact ⟨k + 1, by omega, by go_num, by rw [if_pos (Nat.lt_succ_self k), HY.out]; exact hown4, Below.trans hux hb4⟩
              case measure => simp [intOf]; omega
          · obtain ⟨hd1, hd2⟩ := HK3.out k hkn hkK
            have e1 : (3 * (k : Int) % (2 * (n : Int)) == (i : Int)) = false := by rw [e0]; exact beq_eq_false_iff_ne.2 (by omega)
            have e2 : (3 * (k : Int) % (2 * (n : Int)) == (i : Int) + (n : Int)) = false := by rw [e0]; exact beq_eq_false_iff_ne.2 (by omega)
            have E0 : Hid _ := e0
            have HI : Hid ((if K < k + 1 then [y] else []) = (if K < k then [y] else [])) := by
              show _ = _
              by_cases h : K < k
              · rw [if_pos h, if_pos (by omega)]
              · rw [if_neg h, if_neg (by omega)]
            clear e0 hd1 hd2
            go_wp2_with fail
            go_roundw
            case rel => exact ⟨k + 1, by omega, by go_num, by rw [HI.out]; exact hownx, hux⟩
            case measure => simp [intOf]; omega
        · obtain rfl : k = n := by omega
          rw [if_pos hk1, ← HR.out] at hownx
          go_wp2_with fail
          go_roundw
          case rel => exact ⟨i + 1, by omega, by go_num, hownx, hux⟩
          case measure => simp [intOf]; omega
    · obtain rfl : i = n := by omega
      go_wp2_with fail
      go_ret
      exact ⟨_, rfl, hown, hu⟩

end Go.Proofs.Ytfpmonifpddbdaa
