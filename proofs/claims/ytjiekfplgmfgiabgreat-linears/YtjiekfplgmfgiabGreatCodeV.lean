/-
  Walks: the program's turned polynomial, its base and digits; what the turning key's rows are.
  Walks: pairs of polynomials in memory; the program's turning key.
-/
import Derived.Test.YtjiekfplgmfgiabGreatCodeU
import Derived.Test.YtjiekfplgmfgiabGreatCodeG
import Derived.Test.YtjiekfplgmfgiabGreatMathK
import Derived.Test.YtjiekfplgmfgiabGreatWalksTa
namespace Go.Proofs.YtjiekfplgmfgiabGreat
open Go.RowKit
set_option linter.unusedVariables false
set_option maxRecDepth 100000

theorem timesI_comm (n : Nat) (hn : 0 < n) (xs ys : List Int) (q : Int) : timesI n xs ys q = timesI n ys xs q := by
  refine List.map_congr_left fun k hk => ?_
  have hk := List.mem_range.1 hk
  rw [timesC_eq _ _ _ _ _ hk, timesC_eq _ _ _ _ _ hk, conv_comm n _ _ (ringF_anti n hn xs) (ringF_anti n hn ys)]

theorem scaledI_again (n : Nat) (m : List Int) (k c q : Int) : scaledI n (scaledI n m k q) c q = scaledI n m (c * k) q := by
  refine List.map_congr_left fun i hi => ?_
  have hi := List.mem_range.1 hi
  show c * (scaledI n m k q).getD i 0 % q = c * k * m.getD i 0 % q
  rw [show (scaledI n m k q).getD i 0 = k * m.getD i 0 % q from getD_range hi, Int.mul_assoc, Int.mul_emod c (k * m.getD i 0 % q) q, Int.emod_emod_of_dvd _ (Int.dvd_refl q), ← Int.mul_emod]

theorem scaledI_cub (n : Nat) (ss : List Int) (q : Int) : scaledI n (cubI n ss q) 1 q = cubI n ss q := by
  refine List.map_congr_left fun i hi => ?_
  have hi := List.mem_range.1 hi
  show 1 * (cubI n ss q).getD i 0 % q = cubC n ss q i
  rw [show (cubI n ss q).getD i 0 = cubC n ss q i from getD_range hi, Int.one_mul]
  unfold cubC
  split <;> exact Int.emod_emod_of_dvd _ (Int.dvd_refl q)

/-- the rows of a turning key -/
def tkR (n : Nat) (ss : List Int) (q b : Int) (l : List UInt8) (k : Nat) : List Int :=
  if k % 2 = 0 then hidI n ss (cubI n ss q) (2 ^ (b.toNat * (k / 2))) q l (5 * n * (k / 2)) else pairA l q n (5 * n * (k / 2))

theorem tkR_length (n : Nat) (ss : List Int) (q b : Int) (l : List UInt8) (k : Nat) : (tkR n ss q b l k).length = n := by
  unfold tkR
  split
  · exact hidI_length _ _ _ _ _ _ _
  · exact pairA_length _ _ _ _

/-- a turning key's text by its rows -/
def wtL (P : Nat → List Int) : Nat → List UInt8
  | 0 => [82]
  | i + 1 => wtL P i ++ textsL 4 (P (2 * i)) ++ textsL 4 (P (2 * i + 1))

theorem tkL_wt (n : Nat) (ss : List Int) (q b : Int) (l : List UInt8) (i : Nat) : tkL n ss q b l i = wtL (tkR n ss q b l) i := by
  induction i with
  | zero => rfl
  | succ i ih =>
    have e0 : tkR n ss q b l (2 * i) = hidI n ss (cubI n ss q) (2 ^ (b.toNat * i)) q l (5 * n * i) := by
      unfold tkR
      rw [if_pos (by omega), show 2 * i / 2 = i by omega]
    have e1 : tkR n ss q b l (2 * i + 1) = pairA l q n (5 * n * i) := by
      unfold tkR
      rw [if_neg (by omega), show (2 * i + 1) / 2 = i by omega]
    show tkL n ss q b l i ++ _ ++ _ = wtL _ i ++ textsL 4 (tkR n ss q b l (2 * i)) ++ textsL 4 (tkR n ss q b l (2 * i + 1))
    rw [ih, e0, e1]

theorem wtL_length (P : Nat → List Int) (n : Nat) (h : ∀ k, (P k).length = n) (i : Nat) : (wtL P i).length = 1 + 8 * n * i := by
  induction i with
  | zero => rfl
  | succ i ih =>
    show (wtL P i ++ textsL 4 (P (2 * i)) ++ textsL 4 (P (2 * i + 1))).length = _
    rw [List.length_append, List.length_append, ih, textsL_length, textsL_length, h, h, Nat.mul_succ]
    omega

/-- what is hidden in pair i -/
theorem cover_hid (n : Nat) (ss : List Int) (q b : Int) (l : List UInt8) (i at0 : Nat) : coverI n ss (scaledI n (cubI n ss q) (2 ^ (b.toNat * i)) q) q l at0 = hidI n ss (cubI n ss q) (2 ^ (b.toNat * i)) q l at0 := rfl

theorem scale_next (n : Nat) (ss : List Int) (q b : Int) (i : Nat) : scaledI n (scaledI n (cubI n ss q) (2 ^ (b.toNat * i)) q) (2 ^ b.toNat) q = scaledI n (cubI n ss q) (2 ^ (b.toNat * (i + 1))) q := by
  rw [scaledI_again, ← Int.pow_add, Nat.mul_succ, Nat.add_comm]

/-- where coefficient i goes when x^3 is put in the place of x -/
theorem turn_facts (n : Nat) (hn : n = 4 ∨ n = 8 ∨ n = 16) : ∀ i, i < n →
    (3 * i < n → kOf n (3 * i) = i ∧ 3 * i % (2 * n) = 3 * i) ∧ (n ≤ 3 * i → 3 * i < 2 * n → kOf n (3 * i - n) = i ∧ 3 * i % (2 * n) ≠ 3 * i - n) ∧ (2 * n ≤ 3 * i → kOf n (3 * i - n - n) = i ∧ 3 * i % (2 * n) = 3 * i - n - n) := by
  rcases hn with rfl | rfl | rfl <;> decide

theorem kOf_inj (n : Nat) (hn : n = 4 ∨ n = 8 ∨ n = 16) : ∀ i, i < n → ∀ k, k < n → kOf n i = kOf n k → i = k := by
  rcases hn with rfl | rfl | rfl <;> decide

/-- what lies at k when the first i are done -/
def crF (n : Nat) (xs : List Int) (q : Int) (i k : Nat) : Int := if kOf n k < i then cubC n xs q k else 0

theorem crF_step (n : Nat) (hn : n = 4 ∨ n = 8 ∨ n = 16) (xs : List Int) (q : Int) (i p : Nat) (hp : p < n) (h : kOf n p = i) (v : Int) (hv : v = cubC n xs q p) :
    (List.range n).map (fun k => if k = p then v else crF n xs q i k) = (List.range n).map (crF n xs q (i + 1)) := by
  refine List.map_congr_left fun k hk => ?_
  have hk := List.mem_range.1 hk
  by_cases e : k = p
  · subst e
    rw [if_pos rfl]
    unfold crF
    rw [if_pos (by omega), hv]
  · rw [if_neg e]
    have hne : kOf n k ≠ i := fun c => e (kOf_inj n hn k hk p hp (by rw [c, h]))
    unfold crF
    by_cases c : kOf n k < i
    · rw [if_pos c, if_pos (by omega)]
    · rw [if_neg c, if_neg (by omega)]

theorem crF_end (n : Nat) (hn : n = 4 ∨ n = 8 ∨ n = 16) (xs : List Int) (q : Int) : (List.range n).map (crF n xs q n) = cubI n xs q := by
  refine List.map_congr_left fun k hk => ?_
  unfold crF
  rw [if_pos (kOf_facts n hn k (List.mem_range.1 hk)).1]


set_option maxHeartbeats 400000 in
theorem Base_calls (n t q b : Int) (w : World) (hb : 1 ≤ b) (hb2 : b ≤ 8) :
    Calls Tryz.prog 73 #[.agg #[.int .i64 n, .int .i64 t, .int .i64 q, .int .i64 b]] w fun e w' => e = .returned (.int .i64 (2 ^ b.toNat)) ∧ Up w w' := by
  have hs : b = 1 ∨ b = 2 ∨ b = 3 ∨ b = 4 ∨ b = 5 ∨ b = 6 ∨ b = 7 ∨ b = 8 := by omega
  clear hb hb2
  rcases hs with rfl | rfl | rfl | rfl | rfl | rfl | rfl | rfl
  all_goals
    go_enter Tryz.func73, Tryz.ntmps73
    go_wp2
    go_ret
    exact ⟨rfl, (Up.refl _).alloc _⟩

theorem pow_base (b : Int) (k : Nat) : ((2 : Int) ^ b.toNat) ^ k = 2 ^ (b.toNat * k) := Int.pow_mul.symm

set_option maxHeartbeats 1000000 in
theorem pDigits_calls (n t q b : Int) (L : Nat) (w : World) (hq : 2 ≤ q) (hq2 : q ≤ 1073741823) (hb : 1 ≤ b) (hb2 : b ≤ 8) (hL : DigOf q b L) :
    Calls Tryz.prog 42 #[.agg #[.int .i64 n, .int .i64 t, .int .i64 q, .int .i64 b]] w fun e w' => e = .returned (.int .i64 (L : Int)) ∧ Up w w' := by
  obtain ⟨_, hB1, hB2⟩ := pow_b b hb hb2
  have hL30 := hL.le hb hq2
  have HB : Hid _ := Base_calls n t q b
  have HS : Hid (∀ k, k < L → 0 < (q - 1) / (2 ^ b.toNat) ^ k) := fun k hk => by
    have h1 := hL.low k hk
    rw [← pow_base] at h1
    have h2 : (0 : Int) < (2 ^ b.toNat) ^ k := Int.pow_pos (by omega)
    have h3 : (1 : Int) ≤ (q - 1) / (2 ^ b.toNat) ^ k := (Int.le_ediv_iff_mul_le h2).2 (by omega)
    omega
  have HT : Hid ((q - 1) / (2 ^ b.toNat) ^ L = 0) := by
    have h1 := hL.top
    rw [← pow_base] at h1
    exact Int.ediv_eq_zero_of_lt (by omega) (by omega)
  have HV : Hid (∀ k : Nat, (q - 1) / (2 ^ b.toNat) ^ k / 2 ^ b.toNat = (q - 1) / (2 ^ b.toNat) ^ (k + 1)) := fun k => by
    have h2 : (0 : Int) ≤ (2 ^ b.toNat) ^ k := Int.le_of_lt (Int.pow_pos (by omega))
    rw [Int.ediv_ediv_of_nonneg h2, Int.pow_succ]
  have HN : Hid (∀ k : Nat, 0 ≤ (q - 1) / (2 ^ b.toNat) ^ k ∧ (q - 1) / (2 ^ b.toNat) ^ k ≤ q - 1) := fun k => by
    have h2 : (0 : Int) ≤ (2 ^ b.toNat) ^ k := Int.le_of_lt (Int.pow_pos (by omega))
    exact ⟨Int.ediv_nonneg (by omega) h2, Int.ediv_le_self _ (by omega)⟩
  have HE : Hid ((q - 1) / (2 ^ b.toNat) ^ 0 = q - 1) := show _ = _ by
    rw [show ((2 : Int) ^ b.toNat) ^ 0 = 1 from Int.pow_zero _, Int.ediv_one]
  generalize (2 : Int) ^ b.toNat = B at HB HS HT HV HN HE hB1 hB2
  have hd0 : (B == 0) = false := beq_eq_false_iff_ne.2 (by omega)
  have hd1 : ¬ B = 0 := by omega
  clear hL
  go_enter Tryz.func42, Tryz.ntmps42
  go_wp2_with fail
  refine Calls.mono (HB.out _ hb hb2) ?_
  rintro e w1 ⟨rfl, hu1⟩
  obtain ⟨hc, hf⟩ := bcell hu1
  go_wp2_with fail
  go_loop [4, 5] (fun c v => ∃ k : Nat, k ≤ L ∧ c = .int .i64 (k : Int) ∧ v = .int .i64 ((q - 1) / B ^ k)) (fun c _ => L - (intOf c).toNat)
  case atStart => exact ⟨0, Nat.zero_le _, rfl, by rw [HE.out]⟩
  case round =>
    clear hc hf
    obtain ⟨k, hk, rfl, rfl⟩ := hrel
    by_cases hlt : k < L
    · have h1 := HS.out k hlt
      have h2 := HN.out k
      have HX : Hid _ := HV.out k
      generalize (q - 1) / B ^ k = V at h1 h2 HX
      have e1 : V.tdiv B = V / B := Int.tdiv_eq_ediv_of_nonneg (by omega)
      have h3 : V / B ≤ V := Int.ediv_le_self _ (by omega)
      have h4 : 0 ≤ V / B := Int.ediv_nonneg (by omega) (by omega)
      have e2 : IntKind.i64.wrap (V.tdiv B) = V / B := by rw [e1]; exact IntWalk.i64_in _ (by omega)
      have e3 : IntKind.i64.wrap (V / B) = V / B := IntWalk.i64_in _ (by omega)
      go_wp2
      go_round
      case rel => exact ⟨k + 1, by omega, by go_num, by rw [HX.out]⟩
      case measure => simp [intOf]; omega
    · obtain rfl : k = L := by omega
      rw [HT.out]
      go_wp2
      go_ret
      exact ⟨rfl, ((Up.refl _).alloc _).trans hu1⟩

set_option maxHeartbeats 4000000 in
theorem ringTurn_calls (n : Nat) (xs : List Int) (ga ca : Nat) (q : Int) (w : World) (hn : n = 4 ∨ n = 8 ∨ n = 16) (hla : xs.length = n) (hq : 0 < q) (hq2 : q ≤ 1073741823) (ha : Bnd xs 4294967296) (ia : IsI w ga xs) :
    Calls Tryz.prog 91 #[.slice (some ⟨ga, 0, none⟩) n ca, .int .i64 q] w fun e w' => ∃ g, e = .returned (.slice (some ⟨g, 0, none⟩) n n) ∧ OwnI w' w.heap.size (.slice (some ⟨g, 0, none⟩) n n) (cubI n xs q) ∧ Up w w' := by
  have HF : Hid _ := turn_facts n hn
  have HN : Hid _ := hn
  have hn2 : n ≤ 16 := by omega
  have hn3 : 4 ≤ n := by omega
  have HA : Hid _ := ha
  have HLA : Hid _ := hla
  have HEnd : Hid _ := crF_end n hn xs q
  obtain ⟨i0, hi0, hz0, hz1, hz2⟩ := info_parts info_int
  clear ha hla hn
  go_enter Tryz.func91, Tryz.ntmps91
  go_wp2_with (at_make; refine wpList_make_full _ rfl _ _ 39 rfl w.heap.size 3 i0 (.int .i64 0) 1 Tryz.underlying39 hi0 hz0 hz1 .i64 .i64 _ _ n rfl rfl rfl rfl (by rw [hz2]; omega) (by unfold maxLen; omega) (Nat.le_refl _) ?_)
  intro w1 hown1 hg1
  have HM : Hid _ := made_row hown1 (crF n xs q 0) (fun k => if_neg (Nat.not_lt_zero _))
  have HMU : Hid _ := Up.made hg1
  clear hown1 hg1
  go_wp2_with fail
  go_loopw [16] (fun j wr => ∃ i : Nat, i ≤ n ∧ j = .int .i64 (i : Int) ∧ OwnI wr w.heap.size (.slice (some ⟨w.heap.size, 0, none⟩) n n) ((List.range n).map (crF n xs q i)) ∧ Up w wr) (fun j _ => n - (intOf j).toNat)
  case atStart => exact ⟨0, Nat.zero_le _, rfl, HM.out, HMU.out⟩
  case round =>
    obtain ⟨i, hi, rfl, hown, hu⟩ := hrel
    by_cases hin : i < n
    · have hca := (ia.up hu).2 i (by rw [HLA.out]; omega)
      have hba := HA.out i
      obtain ⟨f0, f1, f2⟩ := HF.out i hin
      by_cases c1 : 3 * i < n
      · obtain ⟨hK, hS⟩ := f0 c1
        have hv : xs.getD i 0 % q = cubC n xs q (3 * i) := by
          unfold cubC
          rw [hK, if_pos hS]
        obtain ⟨hck, hfk⟩ := hown.cellAt (3 * i) c1
        rw [show crF n xs q i (3 * i) = 0 from if_neg (by rw [hK]; exact Nat.lt_irrefl _)] at hck
        have hst := hown.stored (3 * i) c1 (xs.getD i 0 % q)
        rw [crF_step n HN.out xs q i (3 * i) c1 hK _ hv] at hst
        have HST : Hid _ := hst
        clear hst hv hown f0 f1 f2 hK hS
        generalize xs.getD i 0 = x at hca hba HST
        have hP : 3 * (i : Int) = ((3 * i : Nat) : Int) := by omega
        generalize 3 * i = P at hck hfk HST hP c1
        go_wp2_with fail
        refine wp_loop_rounds 1 ?_
        rw [rounds_succ]
        go_wp2_with (first | (go_at_call 79; refine (modulo_calls _ _ _ (by omega) (by omega)).mono ?_; rintro e w' ⟨rfl, rfl⟩))
        go_roundw
        case rel => exact ⟨i + 1, by omega, by go_num, HST.out.1, Below.trans hu HST.out.2⟩
        case measure => simp [intOf]; omega
      · by_cases c2 : 3 * i < 2 * n
        · obtain ⟨hK, hS⟩ := f1 (by omega) c2
          have hpn : 3 * i - n < n := by omega
          have hv : -(xs.getD i 0) % q = cubC n xs q (3 * i - n) := by
            unfold cubC
            rw [hK, if_neg hS]
          obtain ⟨hck, hfk⟩ := hown.cellAt (3 * i - n) hpn
          rw [show crF n xs q i (3 * i - n) = 0 from if_neg (by rw [hK]; exact Nat.lt_irrefl _)] at hck
          have hst := hown.stored (3 * i - n) hpn (-(xs.getD i 0) % q)
          rw [crF_step n HN.out xs q i (3 * i - n) hpn hK _ hv] at hst
          have HST : Hid _ := hst
          clear hst hv hown f0 f1 f2 hK hS
          generalize xs.getD i 0 = x at hca hba HST
          have hP : 3 * (i : Int) - (n : Int) = ((3 * i - n : Nat) : Int) := by omega
          generalize 3 * i - n = P at hck hfk HST hP hpn
          go_wp2_with fail
          refine wp_loop_rounds 2 ?_
          rw [rounds_succ]
          go_wp2_with fail
          rw [rounds_succ]
          go_wp2_with (first | (go_at_call 79; refine (modulo_calls _ _ _ (by omega) (by omega)).mono ?_; rintro e w' ⟨rfl, rfl⟩))
          go_roundw
          case rel => exact ⟨i + 1, by omega, by go_num, HST.out.1, Below.trans hu HST.out.2⟩
          case measure => simp [intOf]; omega
        · obtain ⟨hK, hS⟩ := f2 (by omega)
          have hpn : 3 * i - n - n < n := by omega
          have hv : xs.getD i 0 % q = cubC n xs q (3 * i - n - n) := by
            unfold cubC
            rw [hK, if_pos hS]
          obtain ⟨hck, hfk⟩ := hown.cellAt (3 * i - n - n) hpn
          rw [show crF n xs q i (3 * i - n - n) = 0 from if_neg (by rw [hK]; exact Nat.lt_irrefl _)] at hck
          have hst := hown.stored (3 * i - n - n) hpn (xs.getD i 0 % q)
          rw [crF_step n HN.out xs q i (3 * i - n - n) hpn hK _ hv] at hst
          have HST : Hid _ := hst
          clear hst hv hown f0 f1 f2 hK hS
          generalize xs.getD i 0 = x at hca hba HST
          have hP : 3 * (i : Int) - (n : Int) - (n : Int) = ((3 * i - n - n : Nat) : Int) := by omega
          generalize 3 * i - n - n = P at hck hfk HST hP hpn
          go_wp2_with fail
          refine wp_loop_rounds 3 ?_
          rw [rounds_succ]
          go_wp2_with fail
          rw [rounds_succ]
          go_wp2_with fail
          rw [rounds_succ]
          go_wp2_with (first | (go_at_call 79; refine (modulo_calls _ _ _ (by omega) (by omega)).mono ?_; rintro e w' ⟨rfl, rfl⟩))
          go_roundw
          case rel => exact ⟨i + 1, by omega, by go_num, HST.out.1, Below.trans hu HST.out.2⟩
          case measure => simp [intOf]; omega
    · obtain rfl : i = n := by omega
      rw [HEnd.out] at hown
      go_wp2_with fail
      go_ret
      exact ⟨_, rfl, hown, hu⟩

end Go.Proofs.YtjiekfplgmfgiabGreat

namespace Go.Proofs.YtjiekfplgmfgiabGreat
open Go.RowKit
set_option linter.unusedVariables false
set_option maxRecDepth 100000

theorem info_pair : (Tryz.prog.info? 81).map (fun i => (i.zero, i.size, i.bytes)) = some (some (.agg #[.slice none 0 0, .slice none 0 0]), 2, 48) := by kernel_rfl

/-- k pairs that the call owns -/
structure OwnP (w : World) (B n : Nat) (v : Value) (gs caps : Nat → Nat) (P : Nat → List Int) (k : Nat) : Prop where
  hdr : w.ownsRow B 81 2 v k (hdL n gs caps (2 * k))
  row : ∀ j, j < 2 * k → OwnI w B (.slice (some ⟨gs j, 0, none⟩) n (caps j)) (P j)

theorem row_up {w w' : World} {base size k : Nat} {e : TypeId} {v : Value} {xs : List Value} (h : w.ownsRow base e size v k xs) (hu : Up w w') : w'.ownsRow base e size v k xs := by
  refine ⟨h.1, ?_⟩
  rcases h.2 with h2 | ⟨g, cap, cur, h3, h4, h5, h6⟩
  · exact Or.inl h2
  · exact Or.inr ⟨g, cap, cur, h3, h4, by rw [hu.block g (Array.getElem?_eq_some_iff.1 h5).1]; exact h5, h6⟩

theorem OwnP.up {w w' : World} {B n : Nat} {v : Value} {gs caps : Nat → Nat} {P : Nat → List Int} {k : Nat} (h : OwnP w B n v gs caps P k) (hu : Up w w') : OwnP w' B n v gs caps P k :=
  ⟨row_up h.hdr hu, fun j hj => (h.row j hj).up hu⟩

theorem OwnP.nil (w : World) (B n : Nat) (P : Nat → List Int) : OwnP w B n (.slice none 0 0) (fun _ => 0) (fun _ => 0) P 0 := ⟨World.ownsRow_nil _ _ _ _, fun j hj => absurd hj (by omega)⟩

/-- pairs and numbers lie in different blocks -/
theorem pair_types {w : World} {base base' k : Nat} {v u : Value} {hs : List Value} {xs : List Int} (h : w.ownsRow base 81 2 v k hs) (i : OwnI w base' u xs) : u.ownBlock = none ∨ u.ownBlock ≠ v.ownBlock := by
  rcases h.2 with ⟨rfl, _⟩ | ⟨g, cap, cur, rfl, _, h5, _⟩
  · rcases i.2 with ⟨rfl, _⟩ | ⟨g', cap', cur', rfl, _, _⟩
    · exact Or.inl rfl
    · exact Or.inr (by simp [Value.ownBlock])
  · rcases i.2 with ⟨rfl, _⟩ | ⟨g', cap', cur', rfl, _, k5, _⟩
    · exact Or.inl rfl
    · refine Or.inr fun c => ?_
      simp only [Value.ownBlock, Option.some.injEq] at c
      rw [c, h5] at k5
      injection k5 with k5
      injection k5 with _ k6
      exact absurd k6 (by decide)

/-- turn = append(turn, Pair{..}) -/
theorem append_pair {ops : Array Oper} {rest : List Oper} {o : Oper} {a : Act} {Q : Exit → Act → World → Prop} (w : World) (y0 y1 : Value) (hy0 : y0.oneCell' = true) (hy1 : y1.oneCell' = true) (hgd : o.guard = none) (s x : Operand)
    (ho : o.op = .call { callee := .builtin .append, args := #[s, x], argTypes := #[50, 50] })
    (base : Nat) (v : Value) (k : Nat) (xs : List Value) (hs : a.eval s = v) (hown : w.ownsRow base 81 2 v k xs) (hx : a.eval x = .slice (some ⟨w.heap.size, 0, none⟩) 1 1)
    (hlen : k ≤ 1048576) (hbase : base ≤ w.heap.size)
    (h : ∀ v' w', w'.ownsRow base 81 2 v' (k + 1) (xs ++ [y0, y1]) → w.grownBy w' v.ownBlock → Below base w w' → wpList Tryz.prog ops Q rest (a.put o.dst v') w') :
    wpList Tryz.prog ops Q (o :: rest) a (w.alloc (.cells #[y0, y1] 81)) := by
  obtain ⟨i0, hi, hz0, hz1, hz2⟩ := info_parts info_pair
  refine wpList_append_own_at _ hgd s x 50 ho base 81 i0 (.agg #[.slice none 0 0, .slice none 0 0]) 2 48 Tryz.underlying50 hi hz0 hz1 hz2 rfl (by decide) v k xs hs (World.ownsRow.alloc hown _)
    ⟨w.heap.size, 0, none⟩ 1 1 [y0, y1] hx rfl ?_ ?_ ?_ ?_ ?_ ?_
  · intro j u hj
    match j, hj with
    | 0, hj => simp at hj; subst hj; simp [Addr.add]
    | 1, hj => simp at hj; subst hj; simp [Addr.add]
  · intro u hu
    simp at hu
    rcases hu with rfl | rfl
    · exact hy0
    · exact hy1
  · unfold maxLen; omega
  · omega
  · simp; omega
  · intro v' w' h1 h2 h3 h4
    have hg : w.grownBy w' v.ownBlock := ⟨h2.os, h2.tape, h2.output, Nat.le_trans (by simp) h2.size, fun k hk hne => (h2.block k (by simp; omega) hne).trans (heap_alloc_old w _ hk)⟩
    refine h v' w' h1 hg ?_
    exact (Below.refl _ _).grown hg hbase (fun k hk => (World.ownsRow.lt hown k hk).1)

theorem hdL_two (m : Nat) (gs caps : Nat → Nat) (k : Nat) : hdL m gs caps (2 * (k + 1)) = hdL m gs caps (2 * k) ++ [Value.slice (some ⟨gs (2 * k), 0, none⟩) m (caps (2 * k)), Value.slice (some ⟨gs (2 * k + 1), 0, none⟩) m (caps (2 * k + 1))] := by
  rw [show 2 * (k + 1) = 2 * k + 1 + 1 by omega, hdL_succ, hdL_succ, List.append_assoc]
  rfl

/-- one pair more -/
theorem OwnP.next {wx w' : World} {B n : Nat} {v v' : Value} {gs caps : Nat → Nat} {P : Nat → List Int} {k g0 c0 g1 c1 : Nat} (hx : OwnP wx B n v gs caps P k)
    (hr0 : OwnI wx B (.slice (some ⟨g0, 0, none⟩) n c0) (P (2 * k))) (hr1 : OwnI wx B (.slice (some ⟨g1, 0, none⟩) n c1) (P (2 * k + 1)))
    (ho : w'.ownsRow B 81 2 v' (k + 1) (hdL n gs caps (2 * k) ++ [.slice (some ⟨g0, 0, none⟩) n c0, .slice (some ⟨g1, 0, none⟩) n c1])) (hg : wx.grownBy w' v.ownBlock) :
    OwnP w' B n v' (fun j => if j = 2 * k then g0 else if j = 2 * k + 1 then g1 else gs j) (fun j => if j = 2 * k then c0 else if j = 2 * k + 1 then c1 else caps j) P (k + 1) := by
  refine ⟨?_, ?_⟩
  · rw [hdL_two, if_pos rfl, if_pos rfl, if_neg (by omega), if_pos rfl, if_neg (by omega), if_pos rfl, hdL_congr (gs' := gs) (caps' := caps) (fun j hj => by rw [if_neg (by omega), if_neg (by omega), if_neg (by omega), if_neg (by omega)]; exact ⟨rfl, rfl⟩)]
    exact ho
  · intro j hj
    by_cases e : j = 2 * k
    · subst e
      rw [if_pos rfl, if_pos rfl]
      exact hr0.kept hg (pair_types hx.hdr hr0)
    · rw [if_neg e, if_neg e]
      by_cases e2 : j = 2 * k + 1
      · subst e2
        rw [if_pos rfl, if_pos rfl]
        exact hr1.kept hg (pair_types hx.hdr hr1)
      · rw [if_neg e2, if_neg e2]
        exact (hx.row j (by omega)).kept hg (pair_types hx.hdr (hx.row j (by omega)))

theorem OwnP.rows {w : World} {B n : Nat} {v : Value} {gs caps : Nat → Nat} {P : Nat → List Int} {k : Nat} (h : OwnP w B n v gs caps P k) (hk : 0 < k) :
    ∃ H cap, v = .slice (some ⟨H, 0, none⟩) k cap ∧ B ≤ H ∧ RowsAt w H (2 * k) n gs caps P := by
  have hh := h.hdr
  rcases hh.2 with ⟨_, h0⟩ | ⟨H, hcap, cur, rfl, hB, h5, _⟩
  · omega
  · refine ⟨H, hcap, rfl, hB, (Array.getElem?_eq_some_iff.1 h5).1, fun j hj => ?_, fun j hj => OwnI.isI (h.row j hj)⟩
    rw [World.ownsRow.cellAt hh j (by omega)]
    simp [hdL, hj]

theorem Bnd.le {xs : List Int} {m m' : Int} (h : Bnd xs m) (hm : m ≤ m') : Bnd xs m' := fun i => by have := h i; omega

theorem DigOf.pos {q b : Int} {L : Nat} (h : DigOf q b L) (hq : 2 ≤ q) : 1 ≤ L := by
  rcases Nat.eq_zero_or_pos L with e | e
  · subst e
    have := h.top
    simp at this
    omega
  · exact e

theorem tkR_bounds (n : Nat) (ss : List Int) (q b : Int) (l : List UInt8) (hq : 0 < q) (hq2 : q ≤ 1073741823) (k i : Nat) (hi : i < (tkR n ss q b l k).length) : 0 ≤ (tkR n ss q b l k).getD i 0 ∧ (tkR n ss q b l k).getD i 0 ≤ 4611686018427387904 := by
  unfold tkR at hi ⊢
  split
  · rename_i h
    rw [if_pos h] at hi
    have := hidI_bounds n ss (cubI n ss q) (2 ^ (b.toNat * (k / 2))) q l (5 * n * (k / 2)) hq i hi
    omega
  · rename_i h
    rw [if_neg h] at hi
    have := pairA_bounds l q n (5 * n * (k / 2)) hq i hi
    omega

end Go.Proofs.YtjiekfplgmfgiabGreat
