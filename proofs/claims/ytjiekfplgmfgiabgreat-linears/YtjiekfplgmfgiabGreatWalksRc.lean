/-
  Walks: the reference's Secret, Digits.
  Walks: the reference's Cubed.
-/
import Derived.Test.YtjiekfplgmfgiabGreatWalksRa
namespace Go.Proofs.YtjiekfplgmfgiabGreat
open Go.RowKit
set_option linter.unusedVariables false
set_option maxRecDepth 100000

/-- is the text a key? -/
def secB (l : List UInt8) (n : Nat) : Bool := decide (l.length = n + 1) && decide (byteL l 0 = 75) && okL l.tail n 1 3
def secI (l : List UInt8) (n : Nat) : List Int := (List.range n).map fun i => (byteL l (i + 1) : Int) - 1

set_option maxHeartbeats 1000000 in
theorem Digits_calls (L : Nat) (n t q b : Int) (w : World) (hq : 2 ≤ q) (hq2 : q ≤ 1073741823) (hb : 1 ≤ b) (hb2 : b ≤ 8) (h1 : q ≤ 2 ^ (b.toNat * L)) (h2 : ∀ j, j < L → (2 : Int) ^ (b.toNat * j) < q) :
    Calls Tryz.prog 53 #[.agg #[.int .i64 n, .int .i64 t, .int .i64 q, .int .i64 b]] w fun e w' => e = .returned (.int .i64 L) ∧ Up w w' := by
  have H1 : Hid _ := h1
  have H2 : Hid _ := h2
  clear h1 h2
  have hpow : (2 : Int) ^ b.toNat % 1048576 = 2 ^ b.toNat ∧ (2 : Int) ^ b.toNat ≤ 256 ∧ 2 ≤ (2 : Int) ^ b.toNat := by
    obtain ⟨m, rfl⟩ := Int.eq_ofNat_of_zero_le (a := b) (by omega)
    rw [Int.toNat_natCast]
    have h1 : 1 ≤ m := by omega
    have h2 : m ≤ 8 := by omega
    clear hb hb2 H1 H2
    rcases (show m = 1 ∨ m = 2 ∨ m = 3 ∨ m = 4 ∨ m = 5 ∨ m = 6 ∨ m = 7 ∨ m = 8 from by omega) with rfl | rfl | rfl | rfl | rfl | rfl | rfl | rfl <;> decide
  have hL : L ≤ 30 := by
    rcases Nat.lt_or_ge 30 L with h | h
    · exfalso
      have h3 := H2.out 30 h
      have h4 : (2 : Int) ^ (1 * 30) ≤ 2 ^ (b.toNat * 30) := by
        have : (2 : Nat) ^ (1 * 30) ≤ 2 ^ (b.toNat * 30) := Nat.pow_le_pow_right (by omega) (Nat.mul_le_mul_right _ (by omega))
        exact_mod_cast this
      have h5 : (2 : Int) ^ (1 * 30) = 1073741824 := by decide
      omega
    · exact h
  have HP : Hid _ := hpow.1
  have hp2 := hpow.2.1
  have hp3 := hpow.2.2
  have HS : Hid (∀ k : Nat, (2 : Int) ^ (b.toNat * k) * 2 ^ b.toNat = 2 ^ (b.toNat * (k + 1))) := fun k => by
    rw [← Int.pow_add, Nat.mul_succ]
  have HB : Hid (∀ k : Nat, 1 ≤ (2 : Int) ^ (b.toNat * k)) := fun k => by
    have : 1 ≤ (2 : Nat) ^ (b.toNat * k) := Nat.one_le_two_pow
    exact_mod_cast this
  clear hpow
  go_enter Tryz.func53, Tryz.ntmps53
  go_wp2_with fail
  go_loop [3, 4] (fun x y => ∃ k : Nat, k ≤ L ∧ x = .int .i64 (k : Int) ∧ y = .int .i64 (2 ^ (b.toNat * k))) (fun x _ => L - (intOf x).toNat)
  case atStart => exact ⟨0, Nat.zero_le _, rfl, by simp⟩
  case round =>
    obtain ⟨k, hk, rfl, rfl⟩ := hrel
    have hb1 := HB.out k
    by_cases hlt : k < L
    · have hlt2 := H2.out k hlt
      have HS1 : Hid _ := HS.out k
      generalize (2 : Int) ^ (b.toNat * k) = v at hb1 hlt2 HS1
      go_wp2_with fail
      refine (raised_calls _ _ _ _ (by omega) (by omega) (by omega) (by omega) (by omega) (by omega)).mono ?_
      rintro e w' ⟨rfl, rfl⟩
      rw [HP.out]
      generalize (2 : Int) ^ b.toNat = p at hp2 hp3 HS1
      have h3 : 0 ≤ v * p := Int.mul_nonneg (by omega) (by omega)
      have h4 : v * p ≤ 1073741823 * 256 := Int.mul_le_mul (by omega) (by omega) (by omega) (by omega)
      go_wp2_with fail
      go_round
      case rel => exact ⟨k + 1, by omega, by go_num, by rw [← HS1.out]⟩
      case measure => simp [intOf]; omega
    · obtain rfl : k = L := by omega
      have hge := H1.out
      generalize (2 : Int) ^ (b.toNat * k) = v at hb1 hge
      go_wp2_with fail
      go_ret
      exact ⟨rfl, (Up.refl _).alloc _⟩

theorem ext_list (s : ByteArray) (i j : Nat) (hj : j ≤ s.size) : (s.extract i j).data.toList = (s.data.toList.take j).drop i := by
  have e : (s.extract i j).data = s.data.extract i j := by simp
  rw [e, Array.toList_extract, List.extract_eq_take_drop, List.drop_take]

theorem ext_tail (s : ByteArray) : (s.extract 1 s.size).data.toList = s.data.toList.tail := by
  rw [ext_list s 1 s.size (Nat.le_refl _)]
  have : s.data.toList.take s.size = s.data.toList := List.take_of_length_le (by simp)
  rw [this, List.drop_one]

theorem set_range (f h : Nat → Int) (n k : Nat) (hk : k < n) : ((List.range n).map f).set k (h k) = (List.range n).map (fun i => if i = k then h k else f i) := by
  apply List.ext_getElem
  · simp
  · intro i h1 h2
    simp only [List.getElem_set, List.getElem_map, List.getElem_range]
    by_cases e : k = i
    · subst e; simp
    · rw [if_neg e, if_neg (fun c => e c.symm)]

/-- a store into an owned list -/
theorem OwnI.stored {w : World} {base g cap n : Nat} {f : Nat → Int} (h : OwnI w base (.slice (some ⟨g, 0, none⟩) n cap) ((List.range n).map f)) (k : Nat) (hk : k < n) (x : Int) :
    OwnI (w.setCell ⟨g, k, none⟩ (.int .i64 x)) base (.slice (some ⟨g, 0, none⟩) n cap) ((List.range n).map (fun i => if i = k then x else f i)) ∧ Below base w (w.setCell ⟨g, k, none⟩ (.int .i64 x)) := by
  have hlen : ((List.range n).map f).length = n := by simp
  have h' : w.ownsRow base 3 1 (.slice (some ⟨g, 0, none⟩) n cap) n (((List.range n).map f).map (Value.int .i64)) := by
    have := h
    unfold OwnI at this
    rw [hlen] at this
    exact this
  obtain ⟨h1, h2⟩ := World.ownsRow.stored h' k (.int .i64 x)
  refine ⟨?_, ?_⟩
  · have e : (((List.range n).map f).map (Value.int .i64)).set k (.int .i64 x) = ((List.range n).map (fun i => if i = k then x else f i)).map (Value.int .i64) := by
      rw [← List.map_set, set_range f (fun _ => x) n k hk]
    rw [e] at h1
    unfold OwnI
    have hl2 : ((List.range n).map (fun i => if i = k then x else f i)).length = n := by simp
    rw [hl2]
    exact h1
  · exact (Below.refl _ _).setCell (p := ⟨g, k, none⟩) (h.block_lt.1) _

theorem OwnI.cellAt {w : World} {base g cap n : Nat} {f : Nat → Int} (h : OwnI w base (.slice (some ⟨g, 0, none⟩) n cap) ((List.range n).map f)) (k : Nat) (hk : k < n) :
    w.cell? ⟨g, k, none⟩ = some (.int .i64 (f k)) ∧ w.frozen? ⟨g, k, none⟩ = false := by
  have hlen : ((List.range n).map f).length = n := by simp
  have h' : w.ownsRow base 3 1 (.slice (some ⟨g, 0, none⟩) n cap) n (((List.range n).map f).map (Value.int .i64)) := by
    have := h
    unfold OwnI at this
    rw [hlen] at this
    exact this
  refine ⟨?_, World.ownsRow.frozenAt h' k⟩
  rw [World.ownsRow.cellAt h' k (by omega)]
  simp [hk]

theorem numsL_range (l : List UInt8) (size n : Nat) : numsL l size n = (List.range n).map fun i => (numL l (i * size) size : Int) := by
  induction n with
  | zero => rfl
  | succ n ih => rw [numsL, ih, map_range_succ]

theorem byteL_tail (l : List UInt8) (i : Nat) : byteL l.tail i = byteL l (i + 1) := by
  unfold byteL
  cases l <;> simp

theorem secB_iff (l : List UInt8) (n : Nat) : secB l n = true ↔ l.length = n + 1 ∧ byteL l 0 = 75 ∧ okL l.tail n 1 3 = true := by
  unfold secB
  simp [and_assoc]

end Go.Proofs.YtjiekfplgmfgiabGreat

namespace Go.Proofs.YtjiekfplgmfgiabGreat
open Go.RowKit
set_option linter.unusedVariables false
set_option maxRecDepth 100000

/-- the place that comes to i when x^3 is put in the place of x -/
def kOf (n i : Nat) : Nat := if n = 16 then 11 * i % n else 3 * i % n

theorem kOf_facts (n : Nat) (hn : n = 4 ∨ n = 8 ∨ n = 16) : ∀ i, i < n → kOf n i < n ∧ (3 * kOf n i % (2 * n) = i ∨ 3 * kOf n i % (2 * n) = i + n) ∧ ∀ k, k < n → k ≠ kOf n i → 3 * k % (2 * n) ≠ i ∧ 3 * k % (2 * n) ≠ i + n := by
  rcases hn with rfl | rfl | rfl <;> decide

/-- coefficient i with x^3 in the place of x -/
def cubC (n : Nat) (xs : List Int) (q : Int) (i : Nat) : Int := if 3 * kOf n i % (2 * n) = i then xs.getD (kOf n i) 0 % q else -(xs.getD (kOf n i) 0) % q
def cubI (n : Nat) (xs : List Int) (q : Int) : List Int := (List.range n).map (cubC n xs q)

set_option maxHeartbeats 4000000 in
theorem Cubed_calls (n : Nat) (xs : List Int) (ga ca : Nat) (q : Int) (w : World) (hn : n = 4 ∨ n = 8 ∨ n = 16) (hla : xs.length = n) (hq : 0 < q) (hq2 : q ≤ 1073741823) (ha : Bnd xs 4294967296) (ia : IsI w ga xs) :
    Calls Tryz.prog 61 #[.slice (some ⟨ga, 0, none⟩) n ca, .int .i64 q] w fun e w' => ∃ v, e = .returned v ∧ OwnI w' w.heap.size v (cubI n xs q) ∧ Up w w' := by
  have HF : Hid _ := kOf_facts n hn
  have hn2 : n ≤ 16 := by omega
  have hn3 : 4 ≤ n := by omega
  have HA : Hid _ := ha
  have HLA : Hid _ := hla
  clear ha hla hn
  go_enter Tryz.func61, Tryz.ntmps61
  go_wp2_with fail
  go_loopw [6, 7] (fun v j wr => ∃ i : Nat, i ≤ n ∧ j = .int .i64 (i : Int) ∧ OwnI wr w.heap.size v ((List.range i).map (cubC n xs q)) ∧ Up w wr) (fun _ j _ => n - (intOf j).toNat)
  case atStart => exact ⟨0, Nat.zero_le _, rfl, World.ownsRow_nil _ _ _ _, Up.refl _⟩
  case round =>
    obtain ⟨i, hi, rfl, hown, hu⟩ := hrel
    by_cases hin : i < n
    · obtain ⟨hk1, hk2, hk3⟩ := HF.out i hin
      have HK2 : Hid _ := hk2
      have HK3 : Hid _ := hk3
      have HR : Hid ((List.range (i + 1)).map (cubC n xs q) = (List.range i).map (cubC n xs q) ++ [cubC n xs q i]) := map_range_succ _ _
      have HCv : Hid (cubC n xs q i = if 3 * kOf n i % (2 * n) = i then xs.getD (kOf n i) 0 % q else -(xs.getD (kOf n i) 0) % q) := rfl
      generalize cubC n xs q i = y at HR HCv
      generalize kOf n i = K at hk1 HK2 HK3 HCv
      clear hk2 hk3
      go_wp2_with fail
      go_loopw [6, 8] (fun v z wx => ∃ k : Nat, k ≤ n ∧ z = .int .i64 (k : Int) ∧ OwnI wx w.heap.size v ((List.range i).map (cubC n xs q) ++ (if K < k then [y] else [])) ∧ Up w wx) (fun _ z _ => n - (intOf z).toNat)
      case atStart => exact ⟨0, Nat.zero_le _, rfl, by rw [if_neg (Nat.not_lt_zero _), List.append_nil]; exact hown, hu⟩
      case round =>
        obtain ⟨k, hk, rfl, hownx, hux⟩ := hrel
        clear hown hu
        by_cases hkn : k < n
        · have e0 : (3 * (k : Int)) % (2 * (n : Int)) = ((3 * k % (2 * n) : Nat) : Int) := by rw [Int.natCast_emod, Int.natCast_mul, Int.natCast_mul]; rfl
          by_cases hkK : k = K
          · subst hkK
            rw [if_neg (Nat.lt_irrefl k), List.append_nil] at hownx
            have hca := (ia.up hux).2 k (by rw [HLA.out]; omega)
            have hba := HA.out k
            by_cases hpos : 3 * k % (2 * n) = i
            · have HY := HCv.out
              rw [if_pos hpos] at HY
              have HY : Hid _ := HY
              have e1 : (3 * (k : Int) % (2 * (n : Int)) == (i : Int)) = true := by rw [e0, hpos]; exact beq_self_eq_true _
              have E0 : Hid _ := e0
              clear e0 hpos HCv
              generalize xs.getD k 0 = x at hca hba HY
              go_wp2_with fail
              refine (Mod_calls _ _ _ hq (by omega)).mono ?_
              rintro e w' ⟨rfl, rfl⟩
              go_wp2_with (at_builtin; refine append_int _ _ rfl _ _ rfl _ _ _ rfl hownx rfl (by simp; omega) hux.size ?_)
              intro v4 w4 hown4 hg4 hb4 _
              clear hownx hg4 hca
              go_wp2_with fail
              go_roundw
              case rel => exact ⟨k + 1, by omega, by go_num, by rw [if_pos (Nat.lt_succ_self k), HY.out]; exact hown4, Below.trans hux hb4⟩
              case measure => simp [intOf]; omega
            · have HY := HCv.out
              rw [if_neg hpos] at HY
              have HY : Hid _ := HY
              have hneg : 3 * k % (2 * n) = i + n := by
                rcases HK2.out with h | h
                · exact absurd h hpos
                · exact h
              have e1 : (3 * (k : Int) % (2 * (n : Int)) == (i : Int)) = false := by rw [e0]; exact beq_eq_false_iff_ne.2 (by omega)
              have e2 : (3 * (k : Int) % (2 * (n : Int)) == (i : Int) + (n : Int)) = true := by rw [e0, hneg]; simp
              have E0 : Hid _ := e0
              clear e0 hpos hneg HCv
              generalize xs.getD k 0 = x at hca hba HY
              go_wp2_with fail
              refine (Mod_calls _ _ _ hq (by omega)).mono ?_
              rintro e w' ⟨rfl, rfl⟩
              go_wp2_with (at_builtin; refine append_int _ _ rfl _ _ rfl _ _ _ rfl hownx rfl (by simp; omega) hux.size ?_)
              intro v4 w4 hown4 hg4 hb4 _
              clear hownx hg4 hca
              go_wp2_with fail
              go_roundw
              case rel => exact ⟨k + 1, by omega, by go_num, by rw [if_pos (Nat.lt_succ_self k), HY.out]; exact hown4, Below.trans hux hb4⟩
              case measure => simp [intOf]; omega
          · obtain ⟨hd1, hd2⟩ := HK3.out k hkn hkK
            have e1 : (3 * (k : Int) % (2 * (n : Int)) == (i : Int)) = false := by rw [e0]; exact beq_eq_false_iff_ne.2 (by omega)
            have e2 : (3 * (k : Int) % (2 * (n : Int)) == (i : Int) + (n : Int)) = false := by rw [e0]; exact beq_eq_false_iff_ne.2 (by omega)
            have E0 : Hid _ := e0
            have HI : Hid ((if K < k + 1 then [y] else []) = (if K < k then [y] else [])) := by
              show _ = _
              by_cases h : K < k
              · rw [if_pos h, if_pos (by omega)]
              · rw [if_neg h, if_neg (by omega)]
            clear e0 hd1 hd2
            go_wp2_with fail
            go_roundw
            case rel => exact ⟨k + 1, by omega, by go_num, by rw [HI.out]; exact hownx, hux⟩
            case measure => simp [intOf]; omega
        · obtain rfl : k = n := by omega
          rw [if_pos hk1, ← HR.out] at hownx
          go_wp2_with fail
          go_roundw
          case rel => exact ⟨i + 1, by omega, by go_num, hownx, hux⟩
          case measure => simp [intOf]; omega
    · obtain rfl : i = n := by omega
      go_wp2_with fail
      go_ret
      exact ⟨_, rfl, hown, hu⟩

end Go.Proofs.YtjiekfplgmfgiabGreat
