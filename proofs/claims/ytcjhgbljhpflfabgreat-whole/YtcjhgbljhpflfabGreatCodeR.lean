/-
  Walks: the program's polynomials: modulo, sums, multiples, centring.
  Walks: the program's product of polynomials.
-/
import Derived.Test.YtcjhgbljhpflfabGreatCodeT
import Derived.Test.YtcjhgbljhpflfabGreatWalksY
namespace Go.Proofs.YtcjhgbljhpflfabGreat
open Go.RowKit
set_option linter.unusedVariables false
set_option maxRecDepth 100000

set_option maxHeartbeats 400000 in
theorem modulo_calls (v m : Int) (w : World) (hm : 0 < m) (hm2 : m ≤ 4611686018427387904) :
    Calls Tryz.prog 127 #[.int .i64 v, .int .i64 m] w fun e w' => e = .returned (.int .i64 (v % m)) ∧ w' = w := by
  have h1 := Int.emod_nonneg v (b := m) (by omega)
  have h2 := Int.emod_lt_of_pos v hm
  by_cases hv : 0 ≤ v
  · go_enter Tryz.func127, Tryz.ntmps127
    go_wp2
    go_ret
    exact ⟨rfl, rfl⟩
  · have H : Hid _ := tmod_two v m hm
    have h3 : -4611686018427387904 ≤ v.tmod m := by have := H.out; omega
    have h4 : v.tmod m ≤ 4611686018427387904 := by have := H.out; omega
    go_enter Tryz.func127, Tryz.ntmps127
    go_wp2
    · go_ret
      refine ⟨ret_int ?_, rfl⟩
      have := H.out
      omega
    · go_ret
      refine ⟨ret_int ?_, rfl⟩
      have := H.out
      omega

set_option maxHeartbeats 2000000 in
theorem ringAdd_calls (n : Nat) (xs ys : List Int) (ga gb ca cb : Nat) (q : Int) (w : World) (hn : n ≤ 16) (hla : xs.length = n) (hlb : ys.length = n) (hq : 0 < q) (hq2 : q ≤ 1073741823) (ha : Bnd xs 4294967296) (hb : Bnd ys 4294967296) (ia : IsI w ga xs) (ib : IsI w gb ys) :
    Calls Tryz.prog 77 #[.slice (some ⟨ga, 0, none⟩) n ca, .slice (some ⟨gb, 0, none⟩) n cb, .int .i64 q] w fun e w' => ∃ v, e = .returned v ∧ OwnI w' w.heap.size v (plusI n xs ys q) ∧ Up w w' := by
  have HA : Hid _ := ha
  have HB : Hid _ := hb
  have HLA : Hid _ := hla
  have HLB : Hid _ := hlb
  have hga := ia.1
  have hgb := ib.1
  clear ha hb hla hlb
  go_enter Tryz.func77, Tryz.ntmps77
  go_wp2_with fail
  go_loopw [7, 17] (fun v j wr => ∃ k : Nat, k ≤ n ∧ j = .int .i64 (k : Int) ∧ OwnI wr w.heap.size v ((List.range k).map (plusC xs ys q)) ∧ Up w wr) (fun _ j _ => n - (intOf j).toNat)
  case atStart => exact ⟨0, Nat.zero_le _, rfl, World.ownsRow_nil _ _ _ _, Up.refl _⟩
  case round =>
    obtain ⟨k, hk, rfl, hown, hu⟩ := hrel
    by_cases hlt : k < n
    · have hca := (ia.up hu).2 k (by rw [HLA.out]; omega)
      have hcb := (ib.up hu).2 k (by rw [HLB.out]; omega)
      have hba := HA.out k
      have hbb := HB.out k
      have HR : Hid ((List.range (k + 1)).map (plusC xs ys q) = (List.range k).map (plusC xs ys q) ++ [(xs.getD k 0 + ys.getD k 0) % q]) := map_range_succ _ _
      generalize xs.getD k 0 = x at hca hba HR
      generalize ys.getD k 0 = y at hcb hbb HR
      go_wp2_with (first | (go_at_call 127; refine (modulo_calls _ _ _ (by omega) (by omega)).mono ?_; rintro e w' ⟨rfl, rfl⟩) | (at_builtin; refine append_int _ _ rfl _ _ rfl _ _ _ rfl hown rfl (by simp; omega) hu.size ?_))
      intro v4 w4 hown4 hg4 hb4 _
      clear hown hca hcb
      go_wp2_with fail
      go_roundw
      case rel => exact ⟨k + 1, by omega, by go_num, by rw [HR.out]; exact hown4, Below.trans hu hb4⟩
      case measure => simp [intOf]; omega
    · obtain rfl : k = n := by omega
      go_wp2_with fail
      go_ret
      exact ⟨_, rfl, hown, hu⟩

theorem mul_in2 (a y m k : Int) (ha1 : -m ≤ a) (ha2 : a ≤ m) (hy1 : -k ≤ y) (hy2 : y ≤ k) : -(m * k) ≤ a * y ∧ a * y ≤ m * k := by
  rcases Int.le_total 0 a with h | h
  · have h1 : a * y ≤ a * k := Int.mul_le_mul_of_nonneg_left hy2 h
    have h2 : a * (-k) ≤ a * y := Int.mul_le_mul_of_nonneg_left hy1 h
    have h3 : a * k ≤ m * k := Int.mul_le_mul_of_nonneg_right ha2 (by omega)
    rw [Int.mul_neg] at h2
    omega
  · have h1 : a * k ≤ a * y := Int.mul_le_mul_of_nonpos_left h hy2
    have h2 : a * y ≤ a * (-k) := Int.mul_le_mul_of_nonpos_left h hy1
    have h3 : (-m) * k ≤ a * k := Int.mul_le_mul_of_nonneg_right ha1 (by omega)
    rw [Int.mul_neg] at h2
    rw [Int.neg_mul] at h3
    omega

set_option maxHeartbeats 2000000 in
theorem ringScale_calls (n : Nat) (xs : List Int) (ga ca : Nat) (s q : Int) (w : World) (hn : n ≤ 16) (hla : xs.length = n) (hq : 0 < q) (hq2 : q ≤ 1073741823) (hs1 : -1073741824 ≤ s) (hs2 : s ≤ 1073741824) (ha : Bnd xs 1073741824) (ia : IsI w ga xs) :
    Calls Tryz.prog 121 #[.int .i64 s, .slice (some ⟨ga, 0, none⟩) n ca, .int .i64 q] w fun e w' => ∃ v, e = .returned v ∧ OwnI w' w.heap.size v (scaledI n xs s q) ∧ Up w w' := by
  have HA : Hid _ := ha
  have HLA : Hid _ := hla
  clear ha hla
  go_enter Tryz.func121, Tryz.ntmps121
  go_wp2_with fail
  go_loopw [7, 12] (fun v j wr => ∃ k : Nat, k ≤ n ∧ j = .int .i64 (k : Int) ∧ OwnI wr w.heap.size v ((List.range k).map (scaledC xs s q)) ∧ Up w wr) (fun _ j _ => n - (intOf j).toNat)
  case atStart => exact ⟨0, Nat.zero_le _, rfl, World.ownsRow_nil _ _ _ _, Up.refl _⟩
  case round =>
    obtain ⟨k, hk, rfl, hown, hu⟩ := hrel
    by_cases hlt : k < n
    · have hca := (ia.up hu).2 k (by rw [HLA.out]; omega)
      have hba := HA.out k
      have HR : Hid ((List.range (k + 1)).map (scaledC xs s q) = (List.range k).map (scaledC xs s q) ++ [s * xs.getD k 0 % q]) := map_range_succ _ _
      generalize xs.getD k 0 = x at hca hba HR
      have hmul := mul_in2 s x 1073741824 1073741824 (by omega) hs2 hba.1 hba.2
      go_wp2_with (first | (go_at_call 127; refine (modulo_calls _ _ _ (by omega) (by omega)).mono ?_; rintro e w' ⟨rfl, rfl⟩) | (at_builtin; refine append_int _ _ rfl _ _ rfl _ _ _ rfl hown rfl (by simp; omega) hu.size ?_))
      intro v4 w4 hown4 hg4 hb4 _
      clear hown hca
      go_wp2_with fail
      go_roundw
      case rel => exact ⟨k + 1, by omega, by go_num, by rw [HR.out]; exact hown4, Below.trans hu hb4⟩
      case measure => simp [intOf]; omega
    · obtain rfl : k = n := by omega
      go_wp2_with fail
      go_ret
      exact ⟨_, rfl, hown, hu⟩

set_option maxHeartbeats 1000000 in
theorem ringSub_calls (n : Nat) (xs ys : List Int) (ga gb ca cb : Nat) (q : Int) (w : World) (hn : n ≤ 16) (hn1 : 1 ≤ n) (hla : xs.length = n) (hlb : ys.length = n) (hq : 0 < q) (hq2 : q ≤ 1073741823) (ha : Bnd xs 4294967296) (hb : Bnd ys 1073741824) (ia : IsI w ga xs) (ib : IsI w gb ys) :
    Calls Tryz.prog 93 #[.slice (some ⟨ga, 0, none⟩) n ca, .slice (some ⟨gb, 0, none⟩) n cb, .int .i64 q] w fun e w' => ∃ v, e = .returned v ∧ OwnI w' w.heap.size v (plusI n xs (scaledI n ys (-1) q) q) ∧ Up w w' := by
  have HA : Hid _ := ha
  have HB : Hid _ := hb
  have HLA : Hid _ := hla
  have HLB : Hid _ := hlb
  clear ha hb hla hlb
  go_enter Tryz.func93, Tryz.ntmps93
  go_wp2_with fail
  refine (ringScale_calls n ys gb cb (-1) q _ hn HLB.out hq hq2 (by omega) (by omega) HB.out ib).mono ?_
  rintro e w1 ⟨v1, rfl, ho1, hu1⟩
  obtain ⟨g1, c1, rfl, _, i1⟩ := ho1.is (ne_nil_of_length (scaledI_length _ _ _ _) (by omega))
  rw [scaledI_length]
  go_wp2_with fail
  refine (ringAdd_calls n xs (scaledI n ys (-1) q) ga g1 ca c1 q _ hn HLA.out (scaledI_length _ _ _ _) hq hq2 HA.out (Bnd_mod hq (by omega) fun i => ⟨_, rfl⟩) (ia.up hu1) i1).mono ?_
  rintro e w2 ⟨v2, rfl, ho2, hu2⟩
  have hsz : w.heap.size ≤ w1.heap.size := Below.size hu1
  go_wp2_with fail
  go_ret
  exact ⟨_, rfl, ho2.base hsz, hu1.trans hu2⟩

set_option maxHeartbeats 400000 in
theorem Centre_calls (x t : Int) (w : World) (hx : 0 ≤ x) (hx2 : x < t) (ht : t ≤ 1048576) (hodd : t % 2 = 1) :
    Calls Tryz.prog 149 #[.int .i64 x, .int .i64 t] w fun e w' => e = .returned (.int .i64 (cenC t x)) ∧ w' = w := by
  by_cases h : t < 2 * x
  · have H : Hid (cenC t x = x - t) := if_pos h
    go_enter Tryz.func149, Tryz.ntmps149
    go_wp2
    go_ret
    exact ⟨ret_int H.out.symm, rfl⟩
  · have H : Hid (cenC t x = x) := if_neg h
    go_enter Tryz.func149, Tryz.ntmps149
    go_wp2
    go_ret
    exact ⟨ret_int H.out.symm, rfl⟩

end Go.Proofs.YtcjhgbljhpflfabGreat

namespace Go.Proofs.YtcjhgbljhpflfabGreat
open Go.RowKit
set_option linter.unusedVariables false
set_option maxRecDepth 100000

/-- which coefficient of the second comes to k with the i-th of the first -/
def jOf (n i k : Nat) : Nat := if i ≤ k then k - i else n + k - i

/-- what lies at k when the rows up to i, and of row i the places up to j, are done -/
def mulF (n : Nat) (xs ys : List Int) (q : Int) (i j k : Nat) : Int := if jOf n i k < j then sumI (negT n xs ys k) (i + 1) % q else sumI (negT n xs ys k) i % q

theorem mulF_start (n : Nat) (xs ys : List Int) (q : Int) (i : Nat) : (List.range n).map (mulF n xs ys q i 0) = (List.range n).map fun k => sumI (negT n xs ys k) i % q := by
  refine List.map_congr_left fun k _ => ?_
  unfold mulF
  rw [if_neg (Nat.not_lt_zero _)]

theorem mulF_end (n : Nat) (xs ys : List Int) (q : Int) (i : Nat) (hi : i < n) : (List.range n).map (mulF n xs ys q i n) = (List.range n).map fun k => sumI (negT n xs ys k) (i + 1) % q := by
  refine List.map_congr_left fun k hk => ?_
  have hk := List.mem_range.1 hk
  have : jOf n i k < n := by unfold jOf; split <;> omega
  unfold mulF
  rw [if_pos this]

theorem mulF_step (n : Nat) (xs ys : List Int) (q : Int) (i j p : Nat) (hp : p < n) (hi : i < n) (h : jOf n i p = j) (v : Int) (hv : (sumI (negT n xs ys p) i % q + negT n xs ys p i) % q = v) :
    (List.range n).map (fun k => if k = p then v else mulF n xs ys q i j k) = (List.range n).map (mulF n xs ys q i (j + 1)) := by
  refine List.map_congr_left fun k hk => ?_
  have hk := List.mem_range.1 hk
  by_cases e : k = p
  · subst e
    rw [if_pos rfl]
    unfold mulF
    rw [if_pos (by omega), ← hv, add_mod_left]
    rfl
  · rw [if_neg e]
    have hne : jOf n i k ≠ j := by
      rw [← h]
      unfold jOf
      split <;> split <;> omega
    unfold mulF
    by_cases c : jOf n i k < j
    · rw [if_pos c, if_pos (by omega)]
    · rw [if_neg c, if_neg (by omega)]

theorem made_row {w : World} {base g n : Nat} (h : w.ownsRow base 3 1 (.slice (some ⟨g, 0, none⟩) n n) n (madeCells #[Value.int .i64 0] n).toList) (f : Nat → Int) (hf : ∀ k, f k = 0) : OwnI w base (.slice (some ⟨g, 0, none⟩) n n) ((List.range n).map f) := by
  have e : ((List.range n).map f).map (Value.int .i64) = (madeCells #[Value.int .i64 0] n).toList := by
    apply List.ext_getElem
    · simp [size_madeCells]
    · intro i h1 h2
      simp [hf, madeCells, Nat.mod_one]
  unfold OwnI
  rw [e]
  simpa using h

theorem Up.made {w w' : World} (hg : w.grownBy w' none) : Up w w' := (Below.refl _ _).grown hg (Nat.le_refl _) (fun k hk => by cases hk)

set_option maxHeartbeats 4000000 in
theorem ringMul_calls (n : Nat) (xs ys : List Int) (ga gb ca cb : Nat) (q : Int) (w : World) (hn : n ≤ 16) (hla : xs.length = n) (hlb : ys.length = n) (hq : 0 < q) (hq2 : q ≤ 1073741823) (ha : Bnd xs 1073741824) (hb : Bnd ys 1073741824) (ia : IsI w ga xs) (ib : IsI w gb ys) :
    Calls Tryz.prog 131 #[.slice (some ⟨ga, 0, none⟩) n ca, .slice (some ⟨gb, 0, none⟩) n cb, .int .i64 q] w fun e w' => ∃ g, e = .returned (.slice (some ⟨g, 0, none⟩) n n) ∧ OwnI w' w.heap.size (.slice (some ⟨g, 0, none⟩) n n) (timesI n xs ys q) ∧ Up w w' := by
  have HA : Hid _ := ha
  have HB : Hid _ := hb
  have HLA : Hid _ := hla
  have HLB : Hid _ := hlb
  obtain ⟨i0, hi0, hz0, hz1, hz2⟩ := info_parts info_int
  clear ha hb hla hlb
  go_enter Tryz.func131, Tryz.ntmps131
  go_wp2_with (at_make; refine wpList_make_full _ rfl _ _ 54 rfl w.heap.size 3 i0 (.int .i64 0) 1 Tryz.underlying54 hi0 hz0 hz1 .i64 .i64 _ _ n rfl rfl rfl rfl (by rw [hz2]; omega) (by unfold maxLen; omega) (Nat.le_refl _) ?_)
  intro w1 hown1 hg1
  have HM : Hid _ := made_row hown1 (fun k => sumI (negT n xs ys k) 0 % q) (fun k => by simp [sumI])
  have HMU : Hid _ := Up.made hg1
  clear hown1 hg1
  go_wp2_with fail
  go_loopw [25] (fun j wr => ∃ i : Nat, i ≤ n ∧ j = .int .i64 (i : Int) ∧ OwnI wr w.heap.size (.slice (some ⟨w.heap.size, 0, none⟩) n n) ((List.range n).map fun k => sumI (negT n xs ys k) i % q) ∧ Up w wr) (fun j _ => n - (intOf j).toNat)
  case atStart => exact ⟨0, Nat.zero_le _, rfl, HM.out, HMU.out⟩
  case round =>
    obtain ⟨i, hi, rfl, hown, hu⟩ := hrel
    by_cases hin : i < n
    · have hca := (ia.up hu).2 i (by rw [HLA.out]; omega)
      have hba := HA.out i
      have HX : Hid (xs.getD i 0 = xs.getD i 0) := rfl
      generalize hx : xs.getD i 0 = x at hca hba
      replace HX : Hid (xs.getD i 0 = x) := hx
      clear hx
      go_wp2_with fail
      go_loopw [32] (fun z wx => ∃ j : Nat, j ≤ n ∧ z = .int .i64 (j : Int) ∧ OwnI wx w.heap.size (.slice (some ⟨w.heap.size, 0, none⟩) n n) ((List.range n).map (mulF n xs ys q i j)) ∧ Up w wx) (fun z _ => n - (intOf z).toNat)
      case atStart => exact ⟨0, Nat.zero_le _, rfl, by rw [mulF_start]; exact hown, hu⟩
      case round =>
        clear hown hu hca
        obtain ⟨j, hj, rfl, hown, hu⟩ := hrel
        by_cases hjn : j < n
        · have hcb := (ib.up hu).2 j (by rw [HLB.out]; omega)
          have hbb := HB.out j
          have HY : Hid (ys.getD j 0 = ys.getD j 0) := rfl
          generalize hy : ys.getD j 0 = y at hcb hbb
          replace HY : Hid (ys.getD j 0 = y) := hy
          clear hy
          have hmul := mul_in2 x y 1073741824 1073741824 hba.1 hba.2 hbb.1 hbb.2
          by_cases hw : i + j < n
          · have hJ : jOf n i (i + j) = j := by unfold jOf; rw [if_pos (by omega)]; omega
            obtain ⟨hck, hfk⟩ := hown.cellAt (i + j) hw
            have eS : mulF n xs ys q i j (i + j) = sumI (negT n xs ys (i + j)) i % q := by unfold mulF; rw [hJ, if_neg (Nat.lt_irrefl _)]
            rw [eS] at hck
            have hSb := mod_bounds hq (sumI (negT n xs ys (i + j)) i)
            have eN : negT n xs ys (i + j) i = x * y := by unfold negT; rw [if_pos (by omega), HX.out, show i + j - i = j by omega, HY.out]
            have hst := hown.stored (i + j) hw ((sumI (negT n xs ys (i + j)) i % q + x * y) % q)
            rw [mulF_step n xs ys q i j (i + j) hw hin hJ _ (by rw [eN])] at hst
            have HST : Hid _ := hst
            clear hst eS eN hown
            generalize sumI (negT n xs ys (i + j)) i % q = S at hck hSb HST
            have hk0 : ¬ (n : Int) ≤ (i : Int) + (j : Int) := by omega
            go_wp2_with (first | (go_at_call 127; refine (modulo_calls _ _ _ (by omega) (by omega)).mono ?_; rintro e w' ⟨rfl, rfl⟩))
            go_roundw
            case rel => exact ⟨j + 1, by omega, by go_num, HST.out.1, Below.trans hu HST.out.2⟩
            case measure => simp [intOf]; omega
          · have hpn : i + j - n < n := by omega
            have hJ : jOf n i (i + j - n) = j := by unfold jOf; rw [if_neg (by omega)]; omega
            obtain ⟨hck, hfk⟩ := hown.cellAt (i + j - n) hpn
            have eS : mulF n xs ys q i j (i + j - n) = sumI (negT n xs ys (i + j - n)) i % q := by unfold mulF; rw [hJ, if_neg (Nat.lt_irrefl _)]
            rw [eS] at hck
            have hSb := mod_bounds hq (sumI (negT n xs ys (i + j - n)) i)
            have eN : negT n xs ys (i + j - n) i = -(x * y) := by unfold negT; rw [if_neg (by omega), HX.out, show n + (i + j - n) - i = j by omega, HY.out]
            have hst := hown.stored (i + j - n) hpn ((sumI (negT n xs ys (i + j - n)) i % q + -(x * y)) % q)
            rw [mulF_step n xs ys q i j (i + j - n) hpn hin hJ _ (by rw [eN])] at hst
            have HST : Hid _ := hst
            clear hst eS eN hown
            generalize sumI (negT n xs ys (i + j - n)) i % q = S at hck hSb HST
            have hk0 : (n : Int) ≤ (i : Int) + (j : Int) := by omega
            have hP : (i : Int) + (j : Int) - (n : Int) = ((i + j - n : Nat) : Int) := by omega
            generalize i + j - n = P at hck hfk HST hP hpn hJ
            go_wp2_with (first | (go_at_call 127; refine (modulo_calls _ _ _ (by omega) (by omega)).mono ?_; rintro e w' ⟨rfl, rfl⟩))
            go_roundw
            case rel => exact ⟨j + 1, by omega, by go_num, HST.out.1, Below.trans hu HST.out.2⟩
            case measure => simp [intOf]; omega
        · obtain rfl : j = n := by omega
          rw [mulF_end _ xs ys q i hin] at hown
          go_wp2_with fail
          go_roundw
          case rel => exact ⟨i + 1, by omega, by go_num, hown, hu⟩
          case measure => simp [intOf]; omega
    · obtain rfl : i = n := by omega
      go_wp2_with fail
      go_ret
      exact ⟨_, rfl, hown, hu⟩

end Go.Proofs.YtcjhgbljhpflfabGreat
