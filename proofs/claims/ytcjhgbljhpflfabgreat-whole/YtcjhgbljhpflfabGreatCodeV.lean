/-
  Walks: the program's turned polynomial, its base and digits; what the turning key's rows are.
  Walks: pairs of polynomials in memory; the program's turning key.
-/
import Derived.Test.YtcjhgbljhpflfabGreatCodeU
import Derived.Test.YtcjhgbljhpflfabGreatCodeG
import Derived.Test.YtcjhgbljhpflfabGreatMathK
import Derived.Test.YtcjhgbljhpflfabGreatWalksY
namespace Go.Proofs.YtcjhgbljhpflfabGreat
open Go.RowKit
set_option linter.unusedVariables false
set_option maxRecDepth 100000

theorem timesI_comm (n : Nat) (hn : 0 < n) (xs ys : List Int) (q : Int) : timesI n xs ys q = timesI n ys xs q := by
  refine List.map_congr_left fun k hk => ?_
  have hk := List.mem_range.1 hk
  rw [timesC_eq _ _ _ _ _ hk, timesC_eq _ _ _ _ _ hk, conv_comm n _ _ (ringF_anti n hn xs) (ringF_anti n hn ys)]

theorem scaledI_again (n : Nat) (m : List Int) (k c q : Int) : scaledI n (scaledI n m k q) c q = scaledI n m (c * k) q := by
  refine List.map_congr_left fun i hi => ?_
  have hi := List.mem_range.1 hi
  show c * (scaledI n m k q).getD i 0 % q = c * k * m.getD i 0 % q
  rw [show (scaledI n m k q).getD i 0 = k * m.getD i 0 % q from getD_range hi, Int.mul_assoc, Int.mul_emod c (k * m.getD i 0 % q) q, Int.emod_emod_of_dvd _ (Int.dvd_refl q), ← Int.mul_emod]

theorem scaledI_cub (n : Nat) (ss : List Int) (q : Int) : scaledI n (cubI n ss q) 1 q = cubI n ss q := by
  refine List.map_congr_left fun i hi => ?_
  have hi := List.mem_range.1 hi
  show 1 * (cubI n ss q).getD i 0 % q = cubC n ss q i
  rw [show (cubI n ss q).getD i 0 = cubC n ss q i from getD_range hi, Int.one_mul]
  unfold cubC
  split <;> exact Int.emod_emod_of_dvd _ (Int.dvd_refl q)

/-- the rows of a turning key -/
def tkR (n : Nat) (ss : List Int) (q b : Int) (l : List UInt8) (k : Nat) : List Int :=
  if k % 2 = 0 then hidI n ss (cubI n ss q) (2 ^ (b.toNat * (k / 2))) q l (5 * n * (k / 2)) else pairA l q n (5 * n * (k / 2))

theorem tkR_length (n : Nat) (ss : List Int) (q b : Int) (l : List UInt8) (k : Nat) : (tkR n ss q b l k).length = n := by
  unfold tkR
  split
  · exact hidI_length _ _ _ _ _ _ _
  · exact pairA_length _ _ _ _

/-- a turning key's text by its rows -/
def wtL (P : Nat → List Int) : Nat → List UInt8
  | 0 => [82]
  | i + 1 => wtL P i ++ textsL 4 (P (2 * i)) ++ textsL 4 (P (2 * i + 1))

theorem tkL_wt (n : Nat) (ss : List Int) (q b : Int) (l : List UInt8) (i : Nat) : tkL n ss q b l i = wtL (tkR n ss q b l) i := by
  induction i with
  | zero => rfl
  | succ i ih =>
    have e0 : tkR n ss q b l (2 * i) = hidI n ss (cubI n ss q) (2 ^ (b.toNat * i)) q l (5 * n * i) := by
      unfold tkR
      rw [if_pos (by omega), show 2 * i / 2 = i by omega]
    have e1 : tkR n ss q b l (2 * i + 1) = pairA l q n (5 * n * i) := by
      unfold tkR
      rw [if_neg (by omega), show (2 * i + 1) / 2 = i by omega]
    show tkL n ss q b l i ++ _ ++ _ = wtL _ i ++ textsL 4 (tkR n ss q b l (2 * i)) ++ textsL 4 (tkR n ss q b l (2 * i + 1))
    rw [ih, e0, e1]

theorem wtL_length (P : Nat → List Int) (n : Nat) (h : ∀ k, (P k).length = n) (i : Nat) : (wtL P i).length = 1 + 8 * n * i := by
  induction i with
  | zero => rfl
  | succ i ih =>
    show (wtL P i ++ textsL 4 (P (2 * i)) ++ textsL 4 (P (2 * i + 1))).length = _
    rw [List.length_append, List.length_append, ih, textsL_length, textsL_length, h, h, Nat.mul_succ]
    omega

/-- what is hidden in pair i -/
theorem cover_hid (n : Nat) (ss : List Int) (q b : Int) (l : List UInt8) (i at0 : Nat) : coverI n ss (scaledI n (cubI n ss q) (2 ^ (b.toNat * i)) q) q l at0 = hidI n ss (cubI n ss q) (2 ^ (b.toNat * i)) q l at0 := rfl

theorem scale_next (n : Nat) (ss : List Int) (q b : Int) (i : Nat) : scaledI n (scaledI n (cubI n ss q) (2 ^ (b.toNat * i)) q) (2 ^ b.toNat) q = scaledI n (cubI n ss q) (2 ^ (b.toNat * (i + 1))) q := by
  rw [scaledI_again, ← Int.pow_add, Nat.mul_succ, Nat.add_comm]

/-- where coefficient i goes when x^3 is put in the place of x -/
theorem turn_facts (n : Nat) (hn : n = 4 ∨ n = 8 ∨ n = 16) : ∀ i, i < n →
    (3 * i < n → kOf n (3 * i) = i ∧ 3 * i % (2 * n) = 3 * i) ∧ (n ≤ 3 * i → 3 * i < 2 * n → kOf n (3 * i - n) = i ∧ 3 * i % (2 * n) ≠ 3 * i - n) ∧ (2 * n ≤ 3 * i → kOf n (3 * i - n - n) = i ∧ 3 * i % (2 * n) = 3 * i - n - n) := by
  rcases hn with rfl | rfl | rfl <;> decide

theorem kOf_inj (n : Nat) (hn : n = 4 ∨ n = 8 ∨ n = 16) : ∀ i, i < n → ∀ k, k < n → kOf n i = kOf n k → i = k := by
  rcases hn with rfl | rfl | rfl <;> decide

/-- what lies at k when the first i are done -/
def crF (n : Nat) (xs : List Int) (q : Int) (i k : Nat) : Int := if kOf n k < i then cubC n xs q k else 0

theorem crF_step (n : Nat) (hn : n = 4 ∨ n = 8 ∨ n = 16) (xs : List Int) (q : Int) (i p : Nat) (hp : p < n) (h : kOf n p = i) (v : Int) (hv : v = cubC n xs q p) :
    (List.range n).map (fun k => if k = p then v else crF n xs q i k) = (List.range n).map (crF n xs q (i + 1)) := by
  refine List.map_congr_left fun k hk => ?_
  have hk := List.mem_range.1 hk
  by_cases e : k = p
  · subst e
    rw [if_pos rfl]
    unfold crF
    rw [if_pos (by omega), hv]
  · rw [if_neg e]
    have hne : kOf n k ≠ i := fun c => e (kOf_inj n hn k hk p hp (by rw [c, h]))
    unfold crF
    by_cases c : kOf n k < i
    · rw [if_pos c, if_pos (by omega)]
    · rw [if_neg c, if_neg (by omega)]

theorem crF_end (n : Nat) (hn : n = 4 ∨ n = 8 ∨ n = 16) (xs : List Int) (q : Int) : (List.range n).map (crF n xs q n) = cubI n xs q := by
  refine List.map_congr_left fun k hk => ?_
  unfold crF
  rw [if_pos (kOf_facts n hn k (List.mem_range.1 hk)).1]


set_option maxHeartbeats 400000 in
theorem Base_calls (n t q b : Int) (w : World) (hb : 1 ≤ b) (hb2 : b ≤ 8) :
    Calls Tryz.prog 122 #[.agg #[.int .i64 n, .int .i64 t, .int .i64 q, .int .i64 b]] w fun e w' => e = .returned (.int .i64 (2 ^ b.toNat)) ∧ Up w w' := by
  have hs : b = 1 ∨ b = 2 ∨ b = 3 ∨ b = 4 ∨ b = 5 ∨ b = 6 ∨ b = 7 ∨ b = 8 := by omega
  clear hb hb2
  rcases hs with rfl | rfl | rfl | rfl | rfl | rfl | rfl | rfl
  all_goals
    go_enter Tryz.func122, Tryz.ntmps122
    go_wp2
    go_ret
    exact ⟨rfl, (Up.refl _).alloc _⟩

theorem pow_base (b : Int) (k : Nat) : ((2 : Int) ^ b.toNat) ^ k = 2 ^ (b.toNat * k) := Int.pow_mul.symm

set_option maxHeartbeats 1000000 in
theorem pDigits_calls (n t q b : Int) (L : Nat) (w : World) (hq : 2 ≤ q) (hq2 : q ≤ 1073741823) (hb : 1 ≤ b) (hb2 : b ≤ 8) (hL : DigOf q b L) :
    Calls Tryz.prog 90 #[.agg #[.int .i64 n, .int .i64 t, .int .i64 q, .int .i64 b]] w fun e w' => e = .returned (.int .i64 (L : Int)) ∧ Up w w' := by
  obtain ⟨_, hB1, hB2⟩ := pow_b b hb hb2
  have hL30 := hL.le hb hq2
  have HB : Hid _ := Base_calls n t q b
  have HS : Hid (∀ k, k < L → 0 < (q - 1) / (2 ^ b.toNat) ^ k) := fun k hk => by
    have h1 := hL.low k hk
    rw [← pow_base] at h1
    have h2 : (0 : Int) < (2 ^ b.toNat) ^ k := Int.pow_pos (by omega)
    have h3 : (1 : Int) ≤ (q - 1) / (2 ^ b.toNat) ^ k := (Int.le_ediv_iff_mul_le h2).2 (by omega)
    omega
  have HT : Hid ((q - 1) / (2 ^ b.toNat) ^ L = 0) := by
    have h1 := hL.top
    rw [← pow_base] at h1
    exact Int.ediv_eq_zero_of_lt (by omega) (by omega)
  have HV : Hid (∀ k : Nat, (q - 1) / (2 ^ b.toNat) ^ k / 2 ^ b.toNat = (q - 1) / (2 ^ b.toNat) ^ (k + 1)) := fun k => by
    have h2 : (0 : Int) ≤ (2 ^ b.toNat) ^ k := Int.le_of_lt (Int.pow_pos (by omega))
    rw [Int.ediv_ediv_of_nonneg h2, Int.pow_succ]
  have HN : Hid (∀ k : Nat, 0 ≤ (q - 1) / (2 ^ b.toNat) ^ k ∧ (q - 1) / (2 ^ b.toNat) ^ k ≤ q - 1) := fun k => by
    have h2 : (0 : Int) ≤ (2 ^ b.toNat) ^ k := Int.le_of_lt (Int.pow_pos (by omega))
    exact ⟨Int.ediv_nonneg (by omega) h2, Int.ediv_le_self _ (by omega)⟩
  have HE : Hid ((q - 1) / (2 ^ b.toNat) ^ 0 = q - 1) := show _ = _ by
    rw [show ((2 : Int) ^ b.toNat) ^ 0 = 1 from Int.pow_zero _, Int.ediv_one]
  generalize (2 : Int) ^ b.toNat = B at HB HS HT HV HN HE hB1 hB2
  have hd0 : (B == 0) = false := beq_eq_false_iff_ne.2 (by omega)
  have hd1 : ¬ B = 0 := by omega
  clear hL
  go_enter Tryz.func90, Tryz.ntmps90
  go_wp2_with fail
  refine Calls.mono (HB.out _ hb hb2) ?_
  rintro e w1 ⟨rfl, hu1⟩
  obtain ⟨hc, hf⟩ := bcell hu1
  go_wp2_with fail
  go_loop [4, 5] (fun c v => ∃ k : Nat, k ≤ L ∧ c = .int .i64 (k : Int) ∧ v = .int .i64 ((q - 1) / B ^ k)) (fun c _ => L - (intOf c).toNat)
  case atStart => exact ⟨0, Nat.zero_le _, rfl, by rw [HE.out]⟩
  case round =>
    clear hc hf
    obtain ⟨k, hk, rfl, rfl⟩ := hrel
    by_cases hlt : k < L
    · have h1 := HS.out k hlt
      have h2 := HN.out k
      have HX : Hid _ := HV.out k
      generalize (q - 1) / B ^ k = V at h1 h2 HX
      have e1 : V.tdiv B = V / B := Int.tdiv_eq_ediv_of_nonneg (by omega)
      have h3 : V / B ≤ V := Int.ediv_le_self _ (by omega)
      have h4 : 0 ≤ V / B := Int.ediv_nonneg (by omega) (by omega)
      have e2 : IntKind.i64.wrap (V.tdiv B) = V / B := by rw [e1]; exact IntWalk.i64_in _ (by omega)
      have e3 : IntKind.i64.wrap (V / B) = V / B := IntWalk.i64_in _ (by omega)
      go_wp2
      go_round
      case rel => exact ⟨k + 1, by omega, by go_num, by rw [HX.out]⟩
      case measure => simp [intOf]; omega
    · obtain rfl : k = L := by omega
      rw [HT.out]
      go_wp2
      go_ret
      exact ⟨rfl, ((Up.refl _).alloc _).trans hu1⟩

set_option maxHeartbeats 4000000 in
theorem ringTurn_calls (n : Nat) (xs : List Int) (ga ca : Nat) (q : Int) (w : World) (hn : n = 4 ∨ n = 8 ∨ n = 16) (hla : xs.length = n) (hq : 0 < q) (hq2 : q ≤ 1073741823) (ha : Bnd xs 4294967296) (ia : IsI w ga xs) :
    Calls Tryz.prog 119 #[.slice (some ⟨ga, 0, none⟩) n ca, .int .i64 q] w fun e w' => ∃ g, e = .returned (.slice (some ⟨g, 0, none⟩) n n) ∧ OwnI w' w.heap.size (.slice (some ⟨g, 0, none⟩) n n) (cubI n xs q) ∧ Up w w' := by
  have HF : Hid _ := turn_facts n hn
  have HN : Hid _ := hn
  have hn2 : n ≤ 16 := by omega
  have hn3 : 4 ≤ n := by omega
  have HA : Hid _ := ha
  have HLA : Hid _ := hla
  have HEnd : Hid _ := crF_end n hn xs q
  obtain ⟨i0, hi0, hz0, hz1, hz2⟩ := info_parts info_int
  clear ha hla hn
  go_enter Tryz.func119, Tryz.ntmps119
  go_wp2_with (at_make; refine wpList_make_full _ rfl _ _ 54 rfl w.heap.size 3 i0 (.int .i64 0) 1 Tryz.underlying54 hi0 hz0 hz1 .i64 .i64 _ _ n rfl rfl rfl rfl (by rw [hz2]; omega) (by unfold maxLen; omega) (Nat.le_refl _) ?_)
  intro w1 hown1 hg1
  have HM : Hid _ := made_row hown1 (crF n xs q 0) (fun k => if_neg (Nat.not_lt_zero _))
  have HMU : Hid _ := Up.made hg1
  clear hown1 hg1
  go_wp2_with fail
  go_loopw [16] (fun j wr => ∃ i : Nat, i ≤ n ∧ j = .int .i64 (i : Int) ∧ OwnI wr w.heap.size (.slice (some ⟨w.heap.size, 0, none⟩) n n) ((List.range n).map (crF n xs q i)) ∧ Up w wr) (fun j _ => n - (intOf j).toNat)
  case atStart => exact ⟨0, Nat.zero_le _, rfl, HM.out, HMU.out⟩
  case round =>
    obtain ⟨i, hi, rfl, hown, hu⟩ := hrel
    by_cases hin : i < n
    · have hca := (ia.up hu).2 i (by rw [HLA.out]; omega)
      have hba := HA.out i
      obtain ⟨f0, f1, f2⟩ := HF.out i hin
      by_cases c1 : 3 * i < n
      · obtain ⟨hK, hS⟩ := f0 c1
        have hv : xs.getD i 0 % q = cubC n xs q (3 * i) := by
          unfold cubC
          rw [hK, if_pos hS]
        obtain ⟨hck, hfk⟩ := hown.cellAt (3 * i) c1
        rw [show crF n xs q i (3 * i) = 0 from if_neg (by rw [hK]; exact Nat.lt_irrefl _)] at hck
        have hst := hown.stored (3 * i) c1 (xs.getD i 0 % q)
        rw [crF_step n HN.out xs q i (3 * i) c1 hK _ hv] at hst
        have HST : Hid _ := hst
        clear hst hv hown f0 f1 f2 hK hS
        generalize xs.getD i 0 = x at hca hba HST
        have hP : 3 * (i : Int) = ((3 * i : Nat) : Int) := by omega
        generalize 3 * i = P at hck hfk HST hP c1
        go_wp2_with fail
        refine wp_loop_rounds 1 ?_
        rw [rounds_succ]
        go_wp2_with (first | (go_at_call 127; refine (modulo_calls _ _ _ (by omega) (by omega)).mono ?_; rintro e w' ⟨rfl, rfl⟩))
        go_roundw
        case rel => exact ⟨i + 1, by omega, by go_num, HST.out.1, Below.trans hu HST.out.2⟩
        case measure => simp [intOf]; omega
      · by_cases c2 : 3 * i < 2 * n
        · obtain ⟨hK, hS⟩ := f1 (by omega) c2
          have hpn : 3 * i - n < n := by omega
          have hv : -(xs.getD i 0) % q = cubC n xs q (3 * i - n) := by
            unfold cubC
            rw [hK, if_neg hS]
          obtain ⟨hck, hfk⟩ := hown.cellAt (3 * i - n) hpn
          rw [show crF n xs q i (3 * i - n) = 0 from if_neg (by rw [hK]; exact Nat.lt_irrefl _)] at hck
          have hst := hown.stored (3 * i - n) hpn (-(xs.getD i 0) % q)
          rw [crF_step n HN.out xs q i (3 * i - n) hpn hK _ hv] at hst
          have HST : Hid _ := hst
          clear hst hv hown f0 f1 f2 hK hS
          generalize xs.getD i 0 = x at hca hba HST
          have hP : 3 * (i : Int) - (n : Int) = ((3 * i - n : Nat) : Int) := by omega
          generalize 3 * i - n = P at hck hfk HST hP hpn
          go_wp2_with fail
          refine wp_loop_rounds 2 ?_
          rw [rounds_succ]
          go_wp2_with fail
          rw [rounds_succ]
          go_wp2_with (first | (go_at_call 127; refine (modulo_calls _ _ _ (by omega) (by omega)).mono ?_; rintro e w' ⟨rfl, rfl⟩))
          go_roundw
          case rel => exact ⟨i + 1, by omega, by go_num, HST.out.1, Below.trans hu HST.out.2⟩
          case measure => simp [intOf]; omega
        · obtain ⟨hK, hS⟩ := f2 (by omega)
          have hpn : 3 * i - n - n < n := by omega
          have hv : xs.getD i 0 % q = cubC n xs q (3 * i - n - n) := by
            unfold cubC
            rw [hK, if_pos hS]
          obtain ⟨hck, hfk⟩ := hown.cellAt (3 * i - n - n) hpn
          rw [show crF n xs q i (3 * i - n - n) = 0 from if_neg (by rw [hK]; exact Nat.lt_irrefl _)] at hck
          have hst := hown.stored (3 * i - n - n) hpn (xs.getD i 0 % q)
          rw [crF_step n HN.out xs q i (3 * i - n - n) hpn hK _ hv] at hst
          have HST : Hid _ := hst
          clear hst hv hown f0 f1 f2 hK hS
          generalize xs.getD i 0 = x at hca hba HST
          have hP : 3 * (i : Int) - (n : Int) - (n : Int) = ((3 * i - n - n : Nat) : Int) := by omega
          generalize 3 * i - n - n = P at hck hfk HST hP hpn
          go_wp2_with fail
          refine wp_loop_rounds 3 ?_
          rw [rounds_succ]
          go_wp2_with fail
          rw [rounds_succ]
          go_wp2_with fail
          rw [rounds_succ]
          go_wp2_with (first | (go_at_call 127; refine (modulo_calls _ _ _ (by omega) (by omega)).mono ?_; rintro e w' ⟨rfl, rfl⟩))
          go_roundw
          case rel => exact ⟨i + 1, by omega, by go_num, HST.out.1, Below.trans hu HST.out.2⟩
          case measure => simp [intOf]; omega
    · obtain rfl : i = n := by omega
      rw [HEnd.out] at hown
      go_wp2_with fail
      go_ret
      exact ⟨_, rfl, hown, hu⟩

end Go.Proofs.YtcjhgbljhpflfabGreat

namespace Go.Proofs.YtcjhgbljhpflfabGreat
open Go.RowKit
set_option linter.unusedVariables false
set_option maxRecDepth 100000

theorem info_pair : (Tryz.prog.info? 146).map (fun i => (i.zero, i.size, i.bytes)) = some (some (.agg #[.slice none 0 0, .slice none 0 0]), 2, 48) := by kernel_rfl

/-- k pairs that the call owns -/
structure OwnP (w : World) (B n : Nat) (v : Value) (gs caps : Nat → Nat) (P : Nat → List Int) (k : Nat) : Prop where
  hdr : w.ownsRow B 146 2 v k (hdL n gs caps (2 * k))
  row : ∀ j, j < 2 * k → OwnI w B (.slice (some ⟨gs j, 0, none⟩) n (caps j)) (P j)

theorem row_up {w w' : World} {base size k : Nat} {e : TypeId} {v : Value} {xs : List Value} (h : w.ownsRow base e size v k xs) (hu : Up w w') : w'.ownsRow base e size v k xs := by
  refine ⟨h.1, ?_⟩
  rcases h.2 with h2 | ⟨g, cap, cur, h3, h4, h5, h6⟩
  · exact Or.inl h2
  · exact Or.inr ⟨g, cap, cur, h3, h4, by rw [hu.block g (Array.getElem?_eq_some_iff.1 h5).1]; exact h5, h6⟩

theorem OwnP.up {w w' : World} {B n : Nat} {v : Value} {gs caps : Nat → Nat} {P : Nat → List Int} {k : Nat} (h : OwnP w B n v gs caps P k) (hu : Up w w') : OwnP w' B n v gs caps P k :=
  ⟨row_up h.hdr hu, fun j hj => (h.row j hj).up hu⟩

theorem OwnP.nil (w : World) (B n : Nat) (P : Nat → List Int) : OwnP w B n (.slice none 0 0) (fun _ => 0) (fun _ => 0) P 0 := ⟨World.ownsRow_nil _ _ _ _, fun j hj => absurd hj (by omega)⟩

/-- pairs and numbers lie in different blocks -/
theorem pair_types {w : World} {base base' k : Nat} {v u : Value} {hs : List Value} {xs : List Int} (h : w.ownsRow base 146 2 v k hs) (i : OwnI w base' u xs) : u.ownBlock = none ∨ u.ownBlock ≠ v.ownBlock := by
  rcases h.2 with ⟨rfl, _⟩ | ⟨g, cap, cur, rfl, _, h5, _⟩
  · rcases i.2 with ⟨rfl, _⟩ | ⟨g', cap', cur', rfl, _, _⟩
    · exact Or.inl rfl
    · exact Or.inr (by simp [Value.ownBlock])
  · rcases i.2 with ⟨rfl, _⟩ | ⟨g', cap', cur', rfl, _, k5, _⟩
    · exact Or.inl rfl
    · refine Or.inr fun c => ?_
      simp only [Value.ownBlock, Option.some.injEq] at c
      rw [c, h5] at k5
      injection k5 with k5
      injection k5 with _ k6
      exact absurd k6 (by decide)

/-- turn = append(turn, Pair{..}) -/
theorem append_pair {ops : Array Oper} {rest : List Oper} {o : Oper} {a : Act} {Q : Exit → Act → World → Prop} (w : World) (y0 y1 : Value) (hy0 : y0.oneCell' = true) (hy1 : y1.oneCell' = true) (hgd : o.guard = none) (s x : Operand)
    (ho : o.op = .call { callee := .builtin .append, args := #[s, x], argTypes := #[89, 89] })
    (base : Nat) (v : Value) (k : Nat) (xs : List Value) (hs : a.eval s = v) (hown : w.ownsRow base 146 2 v k xs) (hx : a.eval x = .slice (some ⟨w.heap.size, 0, none⟩) 1 1)
    (hlen : k ≤ 1048576) (hbase : base ≤ w.heap.size)
    (h : ∀ v' w', w'.ownsRow base 146 2 v' (k + 1) (xs ++ [y0, y1]) → w.grownBy w' v.ownBlock → Below base w w' → wpList Tryz.prog ops Q rest (a.put o.dst v') w') :
    wpList Tryz.prog ops Q (o :: rest) a (w.alloc (.cells #[y0, y1] 146)) := by
  obtain ⟨i0, hi, hz0, hz1, hz2⟩ := info_parts info_pair
  refine wpList_append_own_at _ hgd s x 89 ho base 146 i0 (.agg #[.slice none 0 0, .slice none 0 0]) 2 48 Tryz.underlying89 hi hz0 hz1 hz2 rfl (by decide) v k xs hs (World.ownsRow.alloc hown _)
    ⟨w.heap.size, 0, none⟩ 1 1 [y0, y1] hx rfl ?_ ?_ ?_ ?_ ?_ ?_
  · intro j u hj
    match j, hj with
    | 0, hj => simp at hj; subst hj; simp [Addr.add]
    | 1, hj => simp at hj; subst hj; simp [Addr.add]
  · intro u hu
    simp at hu
    rcases hu with rfl | rfl
    · exact hy0
    · exact hy1
  · unfold maxLen; omega
  · omega
  · simp; omega
  · intro v' w' h1 h2 h3 h4
    have hg : w.grownBy w' v.ownBlock := ⟨h2.os, h2.tape, h2.output, Nat.le_trans (by simp) h2.size, fun k hk hne => (h2.block k (by simp; omega) hne).trans (heap_alloc_old w _ hk)⟩
    refine h v' w' h1 hg ?_
    exact (Below.refl _ _).grown hg hbase (fun k hk => (World.ownsRow.lt hown k hk).1)

theorem hdL_two (m : Nat) (gs caps : Nat → Nat) (k : Nat) : hdL m gs caps (2 * (k + 1)) = hdL m gs caps (2 * k) ++ [Value.slice (some ⟨gs (2 * k), 0, none⟩) m (caps (2 * k)), Value.slice (some ⟨gs (2 * k + 1), 0, none⟩) m (caps (2 * k + 1))] := by
  rw [show 2 * (k + 1) = 2 * k + 1 + 1 by omega, hdL_succ, hdL_succ, List.append_assoc]
  rfl

/-- one pair more -/
theorem OwnP.next {wx w' : World} {B n : Nat} {v v' : Value} {gs caps : Nat → Nat} {P : Nat → List Int} {k g0 c0 g1 c1 : Nat} (hx : OwnP wx B n v gs caps P k)
    (hr0 : OwnI wx B (.slice (some ⟨g0, 0, none⟩) n c0) (P (2 * k))) (hr1 : OwnI wx B (.slice (some ⟨g1, 0, none⟩) n c1) (P (2 * k + 1)))
    (ho : w'.ownsRow B 146 2 v' (k + 1) (hdL n gs caps (2 * k) ++ [.slice (some ⟨g0, 0, none⟩) n c0, .slice (some ⟨g1, 0, none⟩) n c1])) (hg : wx.grownBy w' v.ownBlock) :
    OwnP w' B n v' (fun j => if j = 2 * k then g0 else if j = 2 * k + 1 then g1 else gs j) (fun j => if j = 2 * k then c0 else if j = 2 * k + 1 then c1 else caps j) P (k + 1) := by
  refine ⟨?_, ?_⟩
  · rw [hdL_two, if_pos rfl, if_pos rfl, if_neg (by omega), if_pos rfl, if_neg (by omega), if_pos rfl, hdL_congr (gs' := gs) (caps' := caps) (fun j hj => by rw [if_neg (by omega), if_neg (by omega), if_neg (by omega), if_neg (by omega)]; exact ⟨rfl, rfl⟩)]
    exact ho
  · intro j hj
    by_cases e : j = 2 * k
    · subst e
      rw [if_pos rfl, if_pos rfl]
      exact hr0.kept hg (pair_types hx.hdr hr0)
    · rw [if_neg e, if_neg e]
      by_cases e2 : j = 2 * k + 1
      · subst e2
        rw [if_pos rfl, if_pos rfl]
        exact hr1.kept hg (pair_types hx.hdr hr1)
      · rw [if_neg e2, if_neg e2]
        exact (hx.row j (by omega)).kept hg (pair_types hx.hdr (hx.row j (by omega)))

theorem OwnP.rows {w : World} {B n : Nat} {v : Value} {gs caps : Nat → Nat} {P : Nat → List Int} {k : Nat} (h : OwnP w B n v gs caps P k) (hk : 0 < k) :
    ∃ H cap, v = .slice (some ⟨H, 0, none⟩) k cap ∧ B ≤ H ∧ RowsAt w H (2 * k) n gs caps P := by
  have hh := h.hdr
  rcases hh.2 with ⟨_, h0⟩ | ⟨H, hcap, cur, rfl, hB, h5, _⟩
  · omega
  · refine ⟨H, hcap, rfl, hB, (Array.getElem?_eq_some_iff.1 h5).1, fun j hj => ?_, fun j hj => OwnI.isI (h.row j hj)⟩
    rw [World.ownsRow.cellAt hh j (by omega)]
    simp [hdL, hj]

theorem Bnd.le {xs : List Int} {m m' : Int} (h : Bnd xs m) (hm : m ≤ m') : Bnd xs m' := fun i => by have := h i; omega

theorem DigOf.pos {q b : Int} {L : Nat} (h : DigOf q b L) (hq : 2 ≤ q) : 1 ≤ L := by
  rcases Nat.eq_zero_or_pos L with e | e
  · subst e
    have := h.top
    simp at this
    omega
  · exact e

set_option maxHeartbeats 4000000 in
theorem cipherTurnKey_calls (n L : Nat) (t q b : Int) (ss : List Int) (gs cs : Nat) (d : ByteArray) (w : World) (hd : d.size ≤ maxLen) (hn : n = 4 ∨ n = 8 ∨ n = 16) (hq : 2 ≤ q) (hq2 : q ≤ 1073741823) (hb : 1 ≤ b) (hb2 : b ≤ 8) (hL : DigOf q b L) (hls : ss.length = n) (hbs : Bnd ss 1073741824) (is : IsI w gs ss) :
    Calls Tryz.prog 66 #[.agg #[.int .i64 n, .int .i64 t, .int .i64 q, .int .i64 b], .slice (some ⟨gs, 0, none⟩) n cs, .string d] w fun e w' => ∃ H cap g' c', e = .returned (.slice (some ⟨H, 0, none⟩) L cap) ∧ RowsAt w' H (2 * L) n g' c' (tkR n ss q b d.data.toList) ∧ Up w w' := by
  have hL30 := hL.le hb hq2
  have hL1 := hL.pos hq
  have hn2 : n ≤ 16 := by omega
  have hn3 : 4 ≤ n := by omega
  obtain ⟨_, hB1, hB2⟩ := pow_b b hb hb2
  have HB : Hid _ := Base_calls n t q b
  have HDg : Hid (∀ W, Calls Tryz.prog 90 #[.agg #[.int .i64 n, .int .i64 t, .int .i64 q, .int .i64 b]] W fun e w' => e = .returned (.int .i64 (L : Int)) ∧ Up W w') := fun W => pDigits_calls n t q b L W hq hq2 hb hb2 hL
  have HLS : Hid _ := hls
  have HBS : Hid _ := hbs
  have HN : Hid _ := hn
  have HX0 : Hid (cubI n ss q = scaledI n (cubI n ss q) (2 ^ (b.toNat * 0)) q) := show _ = _ by
    rw [Nat.mul_zero, Int.pow_zero, scaledI_cub]
  have HXs : Hid (∀ i, scaledI n (scaledI n (cubI n ss q) (2 ^ (b.toNat * i)) q) (2 ^ b.toNat) q = scaledI n (cubI n ss q) (2 ^ (b.toNat * (i + 1))) q) := scale_next n ss q b
  have HR0 : Hid (∀ i, tkR n ss q b d.data.toList (2 * i) = coverI n ss (scaledI n (cubI n ss q) (2 ^ (b.toNat * i)) q) q d.data.toList (5 * n * i)) := fun i => by
    unfold tkR
    rw [if_pos (by omega), show 2 * i / 2 = i by omega]
    exact (cover_hid n ss q b d.data.toList i (5 * n * i)).symm
  have HR1 : Hid (∀ i, tkR n ss q b d.data.toList (2 * i + 1) = pairA d.data.toList q n (5 * n * i)) := fun i => by
    unfold tkR
    rw [if_neg (by omega), show (2 * i + 1) / 2 = i by omega]
  have HXb : Hid (∀ i : Nat, Bnd (scaledI n (cubI n ss q) (2 ^ (b.toNat * i)) q) 1073741824) := fun i => scaledI_bnd _ _ _ _ _ (by omega) (by omega)
  have HXl : Hid (∀ i : Nat, (scaledI n (cubI n ss q) (2 ^ (b.toNat * i)) q).length = n) := fun i => scaledI_length _ _ _ _
  have HAt : Hid (∀ i, i < L → 5 * n * i ≤ 65536) := fun i hi => Nat.le_trans (Nat.mul_le_mul (Nat.mul_le_mul_left 5 hn2) (show i ≤ 30 by omega)) (by decide)
  generalize tkR n ss q b d.data.toList = TR at HR0 HR1
  obtain ⟨X, hX⟩ : ∃ X : Nat → List Int, X = fun i => scaledI n (cubI n ss q) (2 ^ (b.toNat * i)) q := ⟨_, rfl⟩
  have hXi : ∀ i, scaledI n (cubI n ss q) (2 ^ (b.toNat * i)) q = X i := fun i => by rw [hX]
  simp only [hXi] at HX0 HXs HR0 HXb HXl
  generalize (2 : Int) ^ b.toNat = Bs at HB HXs hB1 hB2
  clear hls hbs hn hL hX hXi
  go_enter Tryz.func66, Tryz.ntmps66
  go_wp2_with fail
  refine (ringTurn_calls n ss gs cs q _ HN.out HLS.out (by omega) hq2 (Bnd.le HBS.out (by omega)) (is.up ((Up.refl _).alloc _))).mono ?_
  rintro e w1 ⟨gx, rfl, hox, hu1⟩
  rw [HX0.out] at hox
  have isA := is.up ((Up.refl _).alloc (.cells #[.int .i64 n, .int .i64 t, .int .i64 q, .int .i64 b] 28))
  obtain ⟨hc, hf⟩ := bcell hu1
  go_wp2_with fail
  refine Calls.mono (HDg.out _) ?_
  rintro e w2 ⟨rfl, hu2⟩
  have hu12 := hu1.trans hu2
  have hox2 := hox.up hu2
  clear hc hf hox hu1 hu2 is
  go_wp2_with fail
  go_loopw [7, 9, 10] (fun x v j wr => ∃ (i : Nat) (g' c' : Nat → Nat), i ≤ L ∧ j = .int .i64 (i : Int) ∧ OwnI wr (w.heap.size + 1) x (X i) ∧ OwnP wr (w.heap.size + 1) n v g' c' TR i ∧ Up (w.alloc (.cells #[.int .i64 n, .int .i64 t, .int .i64 q, .int .i64 b] 28)) wr) (fun _ _ j _ => L - (intOf j).toNat)
  case atStart => exact ⟨0, _, _, Nat.zero_le _, rfl, hox2.base (by simp), OwnP.nil _ _ _ _, hu12⟩
  case round =>
    obtain ⟨i, g', c', hi, rfl, hox, hop, hu⟩ := hrel
    clear hox2 hu12
    obtain ⟨hc, hf⟩ := bcell hu
    by_cases hlt : i < L
    · obtain ⟨gx, cx, rfl, _, ix⟩ := hox.is (ne_nil_of_length (HXl.out i) (by omega))
      rw [HXl.out] at hox ⊢
      have isr := isA.up hu
      go_wp2_with fail
      refine (hide_calls n i (5 * n * i) t q b ss (X i) gs cs gx cx d _ hd hn2 (by omega) (by omega) hq2 HLS.out (HXl.out i) HBS.out (Bnd.le (HXb.out i) (by omega)) rfl (HAt.out i hlt) isr ix).mono ?_
      rintro e w3 ⟨g0, c0, g1, c1, rfl, ho0, ho1, hu3⟩
      rw [← HR0.out i] at ho0
      rw [← HR1.out i] at ho1
      have hu03 := hu.trans hu3
      have hsz : w.heap.size + 1 ≤ wr.heap.size := by simpa using hu.size
      have ho0 := ho0.base hsz
      have ho1 := ho1.base hsz
      have hop3 := hop.up hu3
      have hox3 := hox.up hu3
      have hsz3 : w.heap.size + 1 ≤ w3.heap.size := by simpa using hu03.size
      clear hc hf hop hox isr ix
      go_wp2_with (at_builtin; refine append_pair w3 _ _ rfl rfl rfl (.tmp 33) (.tmp 37) rfl (w.heap.size + 1) _ i _ rfl hop3.hdr rfl (by omega) hsz3 ?_)
      intro v4 w4 hown4 hg4 hb4
      have hN := hop3.next ho0 ho1 hown4 hg4
      have hox4 := hox3.kept hg4 (pair_types hop3.hdr hox3)
      have hu04 : Up (w.alloc (.cells #[.int .i64 n, .int .i64 t, .int .i64 q, .int .i64 b] 28)) w4 := Below.trans hu03 (by simpa using hb4)
      have ix4 := OwnI.isI hox4
      clear hop3 hox3 ho0 ho1 hown4 hg4 hb4 hu03 hu3
      obtain ⟨hc, hf⟩ := bcell hu04
      have hS0 : w4.cell? ⟨w.heap.size, 0, none⟩ = some (.int .i64 (n : Int)) := by rw [hc _ _ (by simp)]; simp
      have hS1 : w4.cell? ⟨w.heap.size, 1, none⟩ = some (.int .i64 t) := by rw [hc _ _ (by simp)]; simp
      have hS2 : w4.cell? ⟨w.heap.size, 2, none⟩ = some (.int .i64 q) := by rw [hc _ _ (by simp)]; simp
      have hS3 : w4.cell? ⟨w.heap.size, 3, none⟩ = some (.int .i64 b) := by rw [hc _ _ (by simp)]; simp
      clear hc hf
      have HXbi : Hid _ := HXb.out i
      have HXli : Hid _ := HXl.out i
      have HXsi : Hid _ := HXs.out i
      generalize X i = xs at ix4 HXbi HXli HXsi hox4
      go_wp2_with fail
      go_region_held3 (fun w' => w'.cell? ⟨w.heap.size, 0, none⟩ = some (.int .i64 (n : Int)) ∧ w'.cell? ⟨w.heap.size, 1, none⟩ = some (.int .i64 t) ∧ w'.cell? ⟨w.heap.size, 2, none⟩ = some (.int .i64 q) ∧ w'.cell? ⟨w.heap.size, 3, none⟩ = some (.int .i64 b))
        (first | go_keep | exact keepC4 hu6 (by assumption) | exact keepC4 hu5 (by assumption))
        ((first | (go_at_call 122; refine Calls.mono (HB.out _ hb hb2) ?_; rintro e w5 ⟨rfl, hu5⟩) | (go_at_call 121; refine (ringScale_calls n xs gx cx Bs q _ hn2 HXli.out (by omega) hq2 (by omega) (by omega) HXbi.out (by exact (ix4.up (Up.drew (Up.refl _))).up hu5)).mono ?_; rintro e w6 ⟨v6, rfl, ho6, hu6⟩)))
      have hu46 : Up w4 w6 := Up.trans (Up.trans (Up.drew (Up.refl _)) hu5) hu6
      have hsz5 : w.heap.size + 1 ≤ w5.heap.size := Nat.le_trans (by simpa using hu04.size) (Up.le (Up.trans (Up.drew (Up.refl _)) hu5))
      go_wp2_with fail
      go_roundw
      case rel => exact ⟨i + 1, _, _, by omega, by go_num, by rw [← HXsi.out]; exact ho6.base hsz5, hN.up hu46, hu04.trans hu46⟩
      case measure => simp [intOf]; omega
    · obtain rfl : i = L := by omega
      obtain ⟨H, cap, rfl, hH, hR⟩ := hop.rows (by omega)
      go_wp2_with fail
      go_ret
      exact ⟨H, cap, g', c', rfl, hR, ((Up.refl _).alloc _).trans hu⟩

set_option maxHeartbeats 4000000 in
theorem WriteTurnKey_calls (n L H cap : Nat) (gs caps : Nat → Nat) (P : Nat → List Int) (w : World) (hn : n ≤ 16) (hL : L ≤ 30) (hPl : ∀ k, (P k).length = n) (hPb : ∀ k i, i < (P k).length → 0 ≤ (P k).getD i 0 ∧ (P k).getD i 0 ≤ 4611686018427387904) (hR : RowsAt w H (2 * L) n gs caps P) :
    Calls Tryz.prog 67 #[.slice (some ⟨H, 0, none⟩) L cap] w fun e w' => e = .returned (.string ⟨(wtL P L).toArray⟩) ∧ Up w w' := by
  have HW : Hid (∀ W k, k < 2 * L → Up w W → Calls Tryz.prog 123 #[.slice (some ⟨gs k, 0, none⟩) n (caps k), .int .i64 4] W fun r w' => r = .returned (.string ⟨(textsL 4 (P k)).toArray⟩) ∧ Up W w') := fun W k hk hu => by
    have := Write_calls (P k) (gs k) (caps k) 4 W (by omega) (by omega) (by rw [hPl]; omega) (hPb k) ((hR.row k hk).up hu)
    rw [hPl] at this
    exact this
  have HLn : Hid _ := wtL_length P n hPl
  have HTl : Hid (∀ k, (textsL 4 (P k)).length ≤ 64) := fun k => by rw [textsL_length, hPl]; omega
  have hM : 8 * n * L ≤ 3840 := Nat.le_trans (Nat.mul_le_mul (Nat.mul_le_mul_left 8 hn) hL) (by decide)
  have HLb : Hid (∀ i, i ≤ L → (wtL P i).length ≤ 4000) := fun i hi => by
    rw [HLn.out]
    have := Nat.mul_le_mul_left (8 * n) hi
    omega
  have HR : Hid _ := hR
  have HS : Hid (∀ i, wtL P (i + 1) = wtL P i ++ textsL 4 (P (2 * i)) ++ textsL 4 (P (2 * i + 1))) := fun i => rfl
  have HZ : Hid (wtL P 0 = [82]) := rfl
  clear hPl hPb hR hM HLn
  go_enter Tryz.func67, Tryz.ntmps67
  go_wp2_with fail
  go_loopw [3, 8] (fun o j wr => ∃ i : Nat, i ≤ L ∧ j = .int .i64 (i : Int) ∧ o = .string ⟨(wtL P i).toArray⟩ ∧ Up w wr) (fun _ j _ => L - (intOf j).toNat)
  case atStart => exact ⟨0, Nat.zero_le _, rfl, rfl, Up.refl _⟩
  case round =>
    obtain ⟨i, hi, rfl, rfl, hu⟩ := hrel
    by_cases hlt : i < L
    · have hb0 := HLb.out i hi
      have hT0 := HTl.out (2 * i)
      have hT1 := HTl.out (2 * i + 1)
      have hc0 : wr.cell? ⟨H, i * 2, none⟩ = some (.slice (some ⟨gs (2 * i), 0, none⟩) n (caps (2 * i))) := by rw [Nat.mul_comm i 2]; exact (HR.out.up hu).head (2 * i) (by omega)
      have hc1 : wr.cell? ⟨H, i * 2 + 1, none⟩ = some (.slice (some ⟨gs (2 * i + 1), 0, none⟩) n (caps (2 * i + 1))) := by rw [Nat.mul_comm i 2]; exact (HR.out.up hu).head (2 * i + 1) (by omega)
      have HSi : Hid _ := HS.out i
      have HW0 : Hid _ := fun W => HW.out W (2 * i) (by omega)
      have HW1 : Hid _ := fun W => HW.out W (2 * i + 1) (by omega)
      have ea : ∀ W, (Op.stringOp .add ⟨(wtL P i).toArray⟩ ⟨(textsL 4 (P (2 * i))).toArray⟩).run Tryz.prog W = .ok (.string ⟨(wtL P i ++ textsL 4 (P (2 * i))).toArray⟩) W := add_str _ _ (by omega) (by omega)
      have eb : ∀ W, (Op.stringOp .add ⟨(wtL P i ++ textsL 4 (P (2 * i))).toArray⟩ ⟨(textsL 4 (P (2 * i + 1))).toArray⟩).run Tryz.prog W = .ok (.string ⟨(wtL P i ++ textsL 4 (P (2 * i)) ++ textsL 4 (P (2 * i + 1))).toArray⟩) W := add_str _ _ (by rw [List.length_append]; omega) (by omega)
      generalize wtL P i ++ textsL 4 (P (2 * i)) ++ textsL 4 (P (2 * i + 1)) = t2 at eb HSi
      generalize wtL P i ++ textsL 4 (P (2 * i)) = t1 at ea eb
      generalize wtL P i = t0 at ea hb0
      generalize textsL 4 (P (2 * i)) = y0 at ea HW0 hT0
      generalize textsL 4 (P (2 * i + 1)) = y1 at eb HW1 hT1
      go_wp2_with fail
      refine Calls.mono (HW0.out _ (Up.alloc hu _)) ?_
      rintro r w1 ⟨rfl, hu1⟩
      clear hc0 hc1
      obtain ⟨hc, hf⟩ := bcell hu1
      go_wp2_with fail
      refine Calls.mono (HW1.out _ ((Up.alloc hu _).trans hu1)) ?_
      rintro r w2 ⟨rfl, hu2⟩
      clear hc hf
      go_wp2_with fail
      go_roundw
      case rel => exact ⟨i + 1, by omega, by go_num, by rw [HSi.out], ((Up.alloc hu _).trans hu1).trans hu2⟩
      case measure => simp [intOf]; omega
    · obtain rfl : i = L := by omega
      go_wp2_with fail
      go_ret
      exact ⟨rfl, hu⟩

theorem tkR_bounds (n : Nat) (ss : List Int) (q b : Int) (l : List UInt8) (hq : 0 < q) (hq2 : q ≤ 1073741823) (k i : Nat) (hi : i < (tkR n ss q b l k).length) : 0 ≤ (tkR n ss q b l k).getD i 0 ∧ (tkR n ss q b l k).getD i 0 ≤ 4611686018427387904 := by
  unfold tkR at hi ⊢
  split
  · rename_i h
    rw [if_pos h] at hi
    have := hidI_bounds n ss (cubI n ss q) (2 ^ (b.toNat * (k / 2))) q l (5 * n * (k / 2)) hq i hi
    omega
  · rename_i h
    rw [if_neg h] at hi
    have := pairA_bounds l q n (5 * n * (k / 2)) hq i hi
    omega

set_option maxHeartbeats 2000000 in
theorem TurnKey_ok (n L : Nat) (t q b : Int) (k s : ByteArray) (w : World) (hk : k.size ≤ maxLen) (hs : s.size ≤ maxLen) (hn : n = 4 ∨ n = 8 ∨ n = 16) (hq : 2 ≤ q) (hq2 : q ≤ 1073741823) (hb : 1 ≤ b) (hb2 : b ≤ 8) (hL : DigOf q b L) (hg : goodB n t q b = true) (h : secB k.data.toList n = true) :
    Calls Tryz.prog 18 #[.agg #[.int .i64 n, .int .i64 t, .int .i64 q, .int .i64 b], .string k, .string s] w fun e w' => e = .returned (.tuple #[.string ⟨(tkL n (secI k.data.toList n) q b s.data.toList L).toArray⟩, .int .i64 0]) ∧ Up w w' := by
  have hL30 := hL.le hb hq2
  have HSB : Hid _ := secI_bnd2 k.data.toList n 1073741824 (by omega)
  have HSL : Hid _ := secI_length k.data.toList n
  have HA : Hid _ := tkL_wt n (secI k.data.toList n) q b s.data.toList L
  have HTl : Hid _ := tkR_length n (secI k.data.toList n) q b s.data.toList
  have HTb : Hid _ := tkR_bounds n (secI k.data.toList n) q b s.data.toList (by omega) hq2
  generalize tkL n (secI k.data.toList n) q b s.data.toList L = ans at HA
  have HN : Hid _ := hn
  have HD : Hid _ := hL
  have hn2 : n ≤ 16 := by omega
  have hn3 : 4 ≤ n := by omega
  clear hn hL
  go_enter Tryz.func18, Tryz.ntmps18
  go_wp2_with fail
  refine (Good_calls _ _ _ _ _).mono ?_
  rintro e w1 ⟨rfl, hu1⟩
  obtain ⟨hc, hf⟩ := bcell hu1
  go_wp2_with fail
  refine (keysRead_ok n k _ hk hn2 h).mono ?_
  rintro e w2 ⟨v2, rfl, ho2, hu2⟩
  obtain ⟨gs, cs, rfl, _, is2⟩ := ho2.is (ne_nil_of_length (secI_length _ _) (by omega))
  rw [secI_length]
  clear hc hf ho2
  have hu12 := hu1.trans hu2
  obtain ⟨hc, hf⟩ := bcell hu12
  go_wp2_with fail
  refine (cipherTurnKey_calls n L t q b (secI k.data.toList n) gs cs s _ hs HN.out hq hq2 hb hb2 HD.out HSL.out HSB.out is2).mono ?_
  rintro e w3 ⟨H, cap, g', c', rfl, hR, hu3⟩
  clear hc hf
  go_wp2_with fail
  refine (WriteTurnKey_calls n L H cap g' c' _ _ hn2 hL30 HTl.out HTb.out hR).mono ?_
  rintro e w4 ⟨rfl, hu4⟩
  rw [← HA.out]
  go_wp2_with fail
  go_ret2
  exact ⟨rfl, ((((Up.refl _).alloc _).trans hu12).trans hu3).trans hu4⟩

end Go.Proofs.YtcjhgbljhpflfabGreat
