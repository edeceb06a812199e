/-
  Walks: the program's product of polynomials.
-/
import Derived.Test.YtcjhgbljhpflfabGreatCodeR
namespace Go.Proofs.YtcjhgbljhpflfabGreat
open Go.RowKit
set_option linter.unusedVariables false
set_option maxRecDepth 100000

/-- which coefficient of the second comes to k with the i-th of the first -/
def jOf (n i k : Nat) : Nat := if i ≤ k then k - i else n + k - i

/-- what lies at k when the rows up to i, and of row i the places up to j, are done -/
def mulF (n : Nat) (xs ys : List Int) (q : Int) (i j k : Nat) : Int := if jOf n i k < j then sumI (negT n xs ys k) (i + 1) % q else sumI (negT n xs ys k) i % q

theorem mulF_start (n : Nat) (xs ys : List Int) (q : Int) (i : Nat) : (List.range n).map (mulF n xs ys q i 0) = (List.range n).map fun k => sumI (negT n xs ys k) i % q := by
  refine List.map_congr_left fun k _ => ?_
  unfold mulF
  rw [if_neg (Nat.not_lt_zero _)]

theorem mulF_end (n : Nat) (xs ys : List Int) (q : Int) (i : Nat) (hi : i < n) : (List.range n).map (mulF n xs ys q i n) = (List.range n).map fun k => sumI (negT n xs ys k) (i + 1) % q := by
  refine List.map_congr_left fun k hk => ?_
  have hk := List.mem_range.1 hk
  have : jOf n i k < n := by unfold jOf; split <;> omega
  unfold mulF
  rw [if_pos this]

theorem mulF_step (n : Nat) (xs ys : List Int) (q : Int) (i j p : Nat) (hp : p < n) (hi : i < n) (h : jOf n i p = j) (v : Int) (hv : (sumI (negT n xs ys p) i % q + negT n xs ys p i) % q = v) :
    (List.range n).map (fun k => if k = p then v else mulF n xs ys q i j k) = (List.range n).map (mulF n xs ys q i (j + 1)) := by
  refine List.map_congr_left fun k hk => ?_
  have hk := List.mem_range.1 hk
  by_cases e : k = p
  · subst e
    rw [if_pos rfl]
    unfold mulF
    rw [if_pos (by omega), ← hv, add_mod_left]
    rfl
  · rw [if_neg e]
    have hne : jOf n i k ≠ j := by
      rw [← h]
      unfold jOf
      split <;> split <;> omega
    unfold mulF
    by_cases c : jOf n i k < j
    · rw [if_pos c, if_pos (by omega)]
    · rw [if_neg c, if_neg (by omega)]

theorem made_row {w : World} {base g n : Nat} (h : w.ownsRow base 3 1 (.slice (some ⟨g, 0, none⟩) n n) n (madeCells #[Value.int .i64 0] n).toList) (f : Nat → Int) (hf : ∀ k, f k = 0) : OwnI w base (.slice (some ⟨g, 0, none⟩) n n) ((List.range n).map f) := by
  have e : ((List.range n).map f).map (Value.int .i64) = (madeCells #[Value.int .i64 0] n).toList := by
    apply List.ext_getElem
    · simp [size_madeCells]
    · intro i h1 h2
      simp [hf, madeCells, Nat.mod_one]
  unfold OwnI
  rw [e]
  simpa using h

theorem Up.made {w w' : World} (hg : w.grownBy w' none) : Up w w' := (Below.refl _ _).grown hg (Nat.le_refl _) (fun k hk => by cases hk)

set_option maxHeartbeats 4000000 in
theorem ringMul_calls (n : Nat) (xs ys : List Int) (ga gb ca cb : Nat) (q : Int) (w : World) (hn : n ≤ 16) (hla : xs.length = n) (hlb : ys.length = n) (hq : 0 < q) (hq2 : q ≤ 1073741823) (ha : Bnd xs 1073741824) (hb : Bnd ys 1073741824) (ia : IsI w ga xs) (ib : IsI w gb ys) :
    Calls Tryz.prog 131 #[.slice (some ⟨ga, 0, none⟩) n ca, .slice (some ⟨gb, 0, none⟩) n cb, .int .i64 q] w fun e w' => ∃ g, e = .returned (.slice (some ⟨g, 0, none⟩) n n) ∧ OwnI w' w.heap.size (.slice (some ⟨g, 0, none⟩) n n) (timesI n xs ys q) ∧ Up w w' := by
  have HA : Hid _ := ha
  have HB : Hid _ := hb
  have HLA : Hid _ := hla
  have HLB : Hid _ := hlb
  obtain ⟨i0, hi0, hz0, hz1, hz2⟩ := info_parts info_int
  clear ha hb hla hlb
  go_enter Tryz.func131, Tryz.ntmps131
  go_wp2_with (at_make; refine wpList_make_full _ rfl _ _ 54 rfl w.heap.size 3 i0 (.int .i64 0) 1 Tryz.underlying54 hi0 hz0 hz1 .i64 .i64 _ _ n rfl rfl rfl rfl (by rw [hz2]; omega) (by unfold maxLen; omega) (Nat.le_refl _) ?_)
  intro w1 hown1 hg1
  have HM : Hid _ := made_row hown1 (fun k => sumI (negT n xs ys k) 0 % q) (fun k => by simp [sumI])
  have HMU : Hid _ := Up.made hg1
  clear hown1 hg1
  go_wp2_with fail
  go_loopw [25] (fun j wr => ∃ i : Nat, i ≤ n ∧ j = .int .i64 (i : Int) ∧ OwnI wr w.heap.size (.slice (some ⟨w.heap.size, 0, none⟩) n n) ((List.range n).map fun k => sumI (negT n xs ys k) i % q) ∧ Up w wr) (fun j _ => n - (intOf j).toNat)
  case atStart => exact ⟨0, Nat.zero_le _, rfl, HM.out, HMU.out⟩
  case round =>
    obtain ⟨i, hi, rfl, hown, hu⟩ := hrel
    by_cases hin : i < n
    · have hca := (ia.up hu).2 i (by rw [HLA.out]; omega)
      have hba := HA.out i
      have HX : Hid (xs.getD i 0 = xs.getD i 0) := rfl
      generalize hx : xs.getD i 0 = x at hca hba
      replace HX : Hid (xs.getD i 0 = x) := hx
      clear hx
      go_wp2_with fail
      go_loopw [32] (fun z wx => ∃ j : Nat, j ≤ n ∧ z = .int .i64 (j : Int) ∧ OwnI wx w.heap.size (.slice (some ⟨w.heap.size, 0, none⟩) n n) ((List.range n).map (mulF n xs ys q i j)) ∧ Up w wx) (fun z _ => n - (intOf z).toNat)
      case atStart => exact ⟨0, Nat.zero_le _, rfl, by rw [mulF_start]; exact hown, hu⟩
      case round =>
        clear hown hu hca
        obtain ⟨j, hj, rfl, hown, hu⟩ := hrel
        by_cases hjn : j < n
        · have hcb := (ib.up hu).2 j (by rw [HLB.out]; omega)
          have hbb := HB.out j
          have HY : Hid (ys.getD j 0 = ys.getD j 0) := rfl
          generalize hy : ys.getD j 0 = y at hcb hbb
          replace HY : Hid (ys.getD j 0 = y) := hy
          clear hy
          have hmul := mul_in2 x y 1073741824 1073741824 hba.1 hba.2 hbb.1 hbb.2
          by_cases hw : i + j < n
          · have hJ : jOf n i (i + j) = j := by unfold jOf; rw [if_pos (by omega)]; omega
            obtain ⟨hck, hfk⟩ := hown.cellAt (i + j) hw
            have eS : mulF n xs ys q i j (i + j) = sumI (negT n xs ys (i + j)) i % q := by unfold mulF; rw [hJ, if_neg (Nat.lt_irrefl _)]
            rw [eS] at hck
            have hSb := mod_bounds hq (sumI (negT n xs ys (i + j)) i)
            have eN : negT n xs ys (i + j) i = x * y := by unfold negT; rw [if_pos (by omega), HX.out, show i + j - i = j by omega, HY.out]
            have hst := hown.stored (i + j) hw ((sumI (negT n xs ys (i + j)) i % q + x * y) % q)
            rw [mulF_step n xs ys q i j (i + j) hw hin hJ _ (by rw [eN])] at hst
            have HST : Hid _ := hst
            clear hst eS eN hown
            generalize sumI (negT n xs ys (i + j)) i % q = S at hck hSb HST
            have hk0 : ¬ (n : Int) ≤ (i : Int) + (j : Int) := by omega
            go_wp2_with (first | (go_at_call 127; refine (modulo_calls _ _ _ (by omega) (by omega)).mono ?_; rintro e w' ⟨rfl, rfl⟩))
            go_roundw
            case rel => exact ⟨j + 1, by omega, by go_num, HST.out.1, Below.trans hu HST.out.2⟩
            case measure => simp [intOf]; omega
          · have hpn : i + j - n < n := by omega
            have hJ : jOf n i (i + j - n) = j := by unfold jOf; rw [if_neg (by omega)]; omega
            obtain ⟨hck, hfk⟩ := hown.cellAt (i + j - n) hpn
            have eS : mulF n xs ys q i j (i + j - n) = sumI (negT n xs ys (i + j - n)) i % q := by unfold mulF; rw [hJ, if_neg (Nat.lt_irrefl _)]
            rw [eS] at hck
            have hSb := mod_bounds hq (sumI (negT n xs ys (i + j - n)) i)
            have eN : negT n xs ys (i + j - n) i = -(x * y) := by unfold negT; rw [if_neg (by omega), HX.out, show n + (i + j - n) - i = j by omega, HY.out]
            have hst := hown.stored (i + j - n) hpn ((sumI (negT n xs ys (i + j - n)) i % q + -(x * y)) % q)
            rw [mulF_step n xs ys q i j (i + j - n) hpn hin hJ _ (by rw [eN])] at hst
            have HST : Hid _ := hst
            clear hst eS eN hown
            generalize sumI (negT n xs ys (i + j - n)) i % q = S at hck hSb HST
            have hk0 : (n : Int) ≤ (i : Int) + (j : Int) := by omega
            have hP : (i : Int) + (j : Int) - (n : Int) = ((i + j - n : Nat) : Int) := by omega
            generalize i + j - n = P at hck hfk HST hP hpn hJ
            go_wp2_with (first | (go_at_call 127; refine (modulo_calls _ _ _ (by omega) (by omega)).mono ?_; rintro e w' ⟨rfl, rfl⟩))
            go_roundw
            case rel => exact ⟨j + 1, by omega, by go_num, HST.out.1, Below.trans hu HST.out.2⟩
            case measure => simp [intOf]; omega
        · obtain rfl : j = n := by omega
          rw [mulF_end _ xs ys q i hin] at hown
          go_wp2_with fail
          go_roundw
          case rel => exact ⟨i + 1, by omega, by go_num, hown, hu⟩
          case measure => simp [intOf]; omega
    · obtain rfl : i = n := by omega
      go_wp2_with fail
      go_ret
      exact ⟨_, rfl, hown, hu⟩

end Go.Proofs.YtcjhgbljhpflfabGreat
