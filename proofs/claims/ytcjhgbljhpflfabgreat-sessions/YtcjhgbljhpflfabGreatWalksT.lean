/-
  Walks: the reference's Turner, pairOf.
  Walks: the reference's Turn.
  Walks: the reference's Turn, where it goes through.
-/
import Derived.Test.YtcjhgbljhpflfabGreatWalksRk
import Derived.OwnWalk
namespace Go.Proofs.YtcjhgbljhpflfabGreat
open Go.RowKit
set_option linter.unusedVariables false
set_option maxRecDepth 100000

theorem pow2_le {b : Nat} {j k : Nat} (h : j ≤ k) : (2 : Int) ^ (b * j) ≤ 2 ^ (b * k) := by
  have : (2 : Nat) ^ (b * j) ≤ 2 ^ (b * k) := Nat.pow_le_pow_right (by omega) (Nat.mul_le_mul_left _ h)
  exact_mod_cast this

theorem dig_up (q b : Int) (hq : 2 ≤ q) : ∀ k : Nat, q ≤ 2 ^ (b.toNat * k) → ∃ L, DigOf q b L := by
  intro k
  induction k with
  | zero => intro h; simp at h; omega
  | succ k ih =>
    intro h
    by_cases c : q ≤ 2 ^ (b.toNat * k)
    · exact ih c
    · refine ⟨k + 1, h, fun j hj => ?_⟩
      have := pow2_le (b := b.toNat) (show j ≤ k by omega)
      omega

/-- the digits -/
theorem dig_ex (q b : Int) (hq : 2 ≤ q) (hq2 : q ≤ 1073741823) (hb : 1 ≤ b) : ∃ L, DigOf q b L := by
  refine dig_up q b hq 30 ?_
  have h4 : (2 : Int) ^ (1 * 30) ≤ 2 ^ (b.toNat * 30) := by
    have : (2 : Nat) ^ (1 * 30) ≤ 2 ^ (b.toNat * 30) := Nat.pow_le_pow_right (by omega) (Nat.mul_le_mul_right _ (by omega))
    exact_mod_cast this
  have h5 : (2 : Int) ^ (1 * 30) = 1073741824 := by decide
  omega

/-- is the text a turning key of m numbers? -/
def tnB (l : List UInt8) (m : Nat) (q : Int) : Bool := decide (l.length = 1 + 4 * m) && decide (byteL l 0 = 82) && okL l.tail m 4 q

theorem tnB_iff (l : List UInt8) (m : Nat) (q : Int) : tnB l m q = true ↔ l.length = 1 + 4 * m ∧ byteL l 0 = 82 ∧ okL l.tail m 4 q = true := by
  unfold tnB
  simp [and_assoc]

/-- polynomial k of a turning key -/
def tkP (l : List UInt8) (n k : Nat) : List Int := (List.range n).map fun i => (numL l (1 + 4 * (n * k) + 4 * i) 4 : Int)

theorem tkP_length (l : List UInt8) (n k : Nat) : (tkP l n k).length = n := by simp [tkP]

set_option maxHeartbeats 2000000 in
theorem Turner_calls (n L : Nat) (t q b : Int) (s : ByteArray) (w : World) (hs : s.size ≤ maxLen) (hn : n ≤ 16) (hq : 2 ≤ q) (hq2 : q ≤ 1073741823) (hb : 1 ≤ b) (hb2 : b ≤ 8) (hL : DigOf q b L) :
    Calls Tryz.prog 44 #[.agg #[.int .i64 n, .int .i64 t, .int .i64 q, .int .i64 b], .string s] w fun e w' => e = .returned (.bool (tnB s.data.toList (2 * n * L) q)) ∧ Up w w' := by
  have hL30 := hL.le hb hq2
  have HLo : Hid _ := hL.low
  have HTop : Hid _ := hL.top
  have hs2 : (s.size : Int) ≤ 9223372036854775807 := by unfold maxLen at hs; omega
  have hm : 2 * n * L ≤ 2 * 16 * 30 := Nat.mul_le_mul (Nat.mul_le_mul (Nat.le_refl _) hn) hL30
  have hmI : 2 * (n : Int) * (L : Int) = ((2 * n * L : Nat) : Int) := by rw [Int.natCast_mul, Int.natCast_mul]; rfl
  have e1 : IntKind.i64.wrap (2 * (n : Int)) = 2 * (n : Int) := IntWalk.i64_in _ (by omega)
  have e2 : IntKind.i64.wrap (2 * (n : Int) * (L : Int)) = ((2 * n * L : Nat) : Int) := by rw [hmI]; exact IntWalk.i64_in _ (by omega)
  have HA : Hid (tnB s.data.toList (2 * n * L) q = (decide (s.data.toList.length = 1 + 4 * (2 * n * L)) && decide (byteL s.data.toList 0 = 82) && okL s.data.toList.tail (2 * n * L) 4 q)) := rfl
  generalize hans : tnB s.data.toList (2 * n * L) q = ans at HA
  clear hans
  generalize 2 * n * L = M at hm hmI e2 HA
  have hA : (w.alloc (.cells #[.int .i64 n, .int .i64 t, .int .i64 q, .int .i64 b] 23)).cell? ⟨w.heap.size, 0, none⟩ = some (.int .i64 n) := by simp
  have hB : (w.alloc (.cells #[.int .i64 n, .int .i64 t, .int .i64 q, .int .i64 b] 23)).cell? ⟨w.heap.size, 1, none⟩ = some (.int .i64 t) := by simp
  have hC : (w.alloc (.cells #[.int .i64 n, .int .i64 t, .int .i64 q, .int .i64 b] 23)).cell? ⟨w.heap.size, 2, none⟩ = some (.int .i64 q) := by simp
  have hD : (w.alloc (.cells #[.int .i64 n, .int .i64 t, .int .i64 q, .int .i64 b] 23)).cell? ⟨w.heap.size, 3, none⟩ = some (.int .i64 b) := by simp
  clear hL hmI
  go_enter Tryz.func44, Tryz.ntmps44
  go_wp2_with fail
  go_region_held3 (fun w' => w'.cell? ⟨w.heap.size, 0, none⟩ = some (.int .i64 (n : Int)) ∧ w'.cell? ⟨w.heap.size, 1, none⟩ = some (.int .i64 t) ∧ w'.cell? ⟨w.heap.size, 2, none⟩ = some (.int .i64 q) ∧ w'.cell? ⟨w.heap.size, 3, none⟩ = some (.int .i64 b))
    (first | go_keep | exact keep4 hu2 (by assumption))
    ((first | (go_at_call 100; refine (Digits_calls L _ _ _ _ _ hq hq2 hb hb2 HTop.out HLo.out).mono ?_; rintro e w2 ⟨rfl, hu2⟩)))
  have hu02 : Up (w.alloc (.cells #[.int .i64 n, .int .i64 t, .int .i64 q, .int .i64 b] 23)) w2 := Up.trans (Up.drew (Up.refl _)) hu2
  clear hu2 e1 e2
  have hC2 := keepU hu02 hC
  clear hA hB hC hD
  by_cases hl : s.size = 1 + 4 * M
  · have hne : ((s.size : Int) != 1 + 4 * (M : Int)) = false := by rw [hl]; simp
    have h0 : 0 < s.size := by omega
    by_cases h82 : byteL s.data.toList 0 = 82
    · have HA2 : Hid (ans = okL (s.extract 1 s.size).data.toList M 4 q) := show _ = _ by
        rw [HA.out, ext_tail, h82]; simp [hl]
      rw [byteL_in s 0 h0] at h82
      have hne2 : (((s[0]'h0).toNat : Int) != 82) = false := by rw [h82]; rfl
      have hb1 : (1 : Int) ≤ (s.size : Int) := by omega
      have HLi : Hid (∀ W, Calls Tryz.prog 98 #[.string (s.extract 1 s.size), .int .i64 M, .int .i64 4, .int .i64 q] W fun e w' => ∃ a x y, e = .returned (.tuple #[.slice a x y, .bool ans]) ∧ Up W w') := fun W => by
        rw [HA2.out]
        exact List_any (s.extract 1 s.size) M 4 q W (by simp; omega) (by omega) (by omega)
      clear h82 hl
      go_wp2_with fail
      go_region_held3 (fun w' => w'.cell? ⟨w.heap.size, 2, none⟩ = some (.int .i64 q))
        (first | go_keep | exact keepU hu3 (by assumption))
        ((first | (go_at_call 98; refine Calls.mono (HLi.out _) ?_; rintro e w3 ⟨a, x, y, rfl, hu3⟩)))
      go_wp2_with fail
      go_ret
      exact ⟨rfl, (((Up.refl _).alloc _).trans hu02).trans (Up.trans (Up.drew (Up.refl _)) hu3)⟩
    · have HA2 : Hid (ans = false) := show _ = _ by rw [HA.out]; simp [h82]
      rw [byteL_in s 0 h0] at h82
      have hne2 : (((s[0]'h0).toNat : Int) != 82) = true := by rw [bne_iff_ne]; omega
      clear h82 hl
      go_wp2_with fail
      go_ret
      exact ⟨ret_bool HA2.out.symm, ((Up.refl _).alloc _).trans hu02⟩
  · have HA2 : Hid (ans = false) := show _ = _ by rw [HA.out]; simp [hl]
    have hne : ((s.size : Int) != 1 + 4 * (M : Int)) = true := by rw [bne_iff_ne]; omega
    clear hl
    go_wp2_with fail
    go_ret
    exact ⟨ret_bool HA2.out.symm, ((Up.refl _).alloc _).trans hu02⟩

theorem tk_ok (l : List UInt8) (n k m : Nat) (q : Int) (h : tnB l m q = true) (hk : n * (k + 1) ≤ m) : okL ((l.take (1 + 4 * (n * k) + 4 * n)).drop (1 + 4 * (n * k))) n 4 q = true := by
  obtain ⟨h1, _, h3⟩ := (tnB_iff _ _ _).1 h
  obtain ⟨_, h5⟩ := (okL_iff _ _ _ _).1 h3
  rw [Nat.mul_succ] at hk
  rw [okL_iff]
  refine ⟨by simp; omega, fun i hi => ?_⟩
  rw [numL_drop, numL_take _ _ _ _ (by omega)]
  have := h5 (n * k + i) (by omega)
  rw [← List.drop_one, numL_drop, show 1 + (n * k + i) * 4 = 1 + 4 * (n * k) + i * 4 by omega] at this
  exact this

theorem tk_nums (l : List UInt8) (n k : Nat) : numsL ((l.take (1 + 4 * (n * k) + 4 * n)).drop (1 + 4 * (n * k))) 4 n = tkP l n k := by
  rw [numsL_range]
  unfold tkP
  refine List.map_congr_left fun i hi => ?_
  have hi := List.mem_range.1 hi
  rw [numL_drop, numL_take _ _ _ _ (by omega), Nat.mul_comm i 4]

theorem tkP_bounds (l : List UInt8) (n k m : Nat) (q : Int) (h : tnB l m q = true) (hk : n * (k + 1) ≤ m) : ∀ i, i < n → 0 ≤ (tkP l n k).getD i 0 ∧ (tkP l n k).getD i 0 < q := by
  have h1 := tk_ok l n k m q h hk
  have h2 := numsL_lt _ 4 n q h1
  rw [tk_nums] at h2
  exact h2

set_option maxHeartbeats 2000000 in
theorem pairOf_calls (n m k : Nat) (t q b : Int) (s : ByteArray) (w : World) (hs : s.size ≤ maxLen) (hn : n ≤ 16) (hn1 : 1 ≤ n) (hm : m ≤ 1024) (h : tnB s.data.toList m q = true) (hk : n * (k + 1) ≤ m) :
    Calls Tryz.prog 110 #[.agg #[.int .i64 n, .int .i64 t, .int .i64 q, .int .i64 b], .string s, .int .i64 k] w fun e w' => ∃ g c, e = .returned (.slice (some ⟨g, 0, none⟩) n c) ∧ OwnI w' w.heap.size (.slice (some ⟨g, 0, none⟩) n c) (tkP s.data.toList n k) ∧ Up w w' := by
  have hlen : s.size = 1 + 4 * m := by have := ((tnB_iff _ _ _).1 h).1; simpa using this
  have hkm : k ≤ 1024 := by
    have : k + 1 ≤ n * (k + 1) := Nat.le_mul_of_pos_left _ (by omega)
    omega
  have hok := tk_ok s.data.toList n k m q h hk
  have hnk : n * k + n ≤ m := by rw [Nat.mul_succ] at hk; exact hk
  have hsl : 1 + 4 * (n * k) + 4 * n ≤ s.size := by omega
  have HL1 : Hid (∀ W, Calls Tryz.prog 98 #[.string (s.extract (1 + 4 * (n * k)) (1 + 4 * (n * k) + 4 * n)), .int .i64 n, .int .i64 4, .int .i64 q] W fun e w' => ∃ g cap, e = .returned (.tuple #[.slice (some ⟨g, 0, none⟩) n cap, .bool true]) ∧ OwnI w' W.heap.size (.slice (some ⟨g, 0, none⟩) n cap) (tkP s.data.toList n k) ∧ Up W w') := fun W => by
    refine (List_ok (s.extract (1 + 4 * (n * k)) (1 + 4 * (n * k) + 4 * n)) n 4 q W (by simp; omega) (by omega) (by omega) (by rw [ext_list s _ _ hsl]; exact hok)).mono ?_
    rintro e w' ⟨v, rfl, hown, hu⟩
    rw [ext_list s _ _ hsl, tk_nums] at hown
    obtain ⟨g, cap, rfl, _, _⟩ := hown.is (ne_nil_of_length (tkP_length _ _ _) (by omega))
    rw [tkP_length] at hown ⊢
    exact ⟨g, cap, rfl, hown, hu⟩
  have hP : 4 * (n : Int) * (k : Int) = ((4 * (n * k) : Nat) : Int) := by rw [Int.natCast_mul, Int.natCast_mul, Int.mul_assoc]; rfl
  obtain ⟨A, hA⟩ : ∃ A, A = 1 + 4 * (n * k) := ⟨_, rfl⟩
  have e0 : IntKind.i64.wrap (4 * (n : Int)) = 4 * (n : Int) := IntWalk.i64_in _ (by omega)
  have e1 : IntKind.i64.wrap (4 * (n : Int) * (k : Int)) = 4 * (n : Int) * (k : Int) := IntWalk.i64_in _ (by omega)
  have e2 : 1 + 4 * (n : Int) * (k : Int) = (A : Int) := by omega
  have b1 : (0 : Int) ≤ (A : Int) := by omega
  have b2 : (A : Int) ≤ (A : Int) + 4 * (n : Int) := by omega
  have b3 : (A : Int) + 4 * (n : Int) ≤ (s.size : Int) := by omega
  have e3 : IntKind.i64.wrap ((A : Int) + 4 * (n : Int)) = (A : Int) + 4 * (n : Int) := IntWalk.i64_in _ (by omega)
  have e4 : ((A : Int) + 4 * (n : Int)).toNat = A + 4 * n := by omega
  have b4 : 4 * (n : Int) * (k : Int) ≤ 4096 := by omega
  have b5 : 0 ≤ 4 * (n : Int) * (k : Int) := by omega
  rw [← hA] at HL1
  have HE2 : Hid _ := e2
  clear hok hk h hlen hP hA hnk hsl e2
  clear e1
  go_enter Tryz.func110, Tryz.ntmps110
  go_wp2_with fail
  rw [HE2.out]
  go_region_held3 (fun w' => w'.cell? ⟨w.heap.size, 0, none⟩ = some (.int .i64 (n : Int)) ∧ w'.cell? ⟨w.heap.size, 2, none⟩ = some (.int .i64 q))
    (first | go_keep | exact ⟨keepU hu2 (And.left (by assumption)), keepU hu2 (And.right (by assumption))⟩)
    ((first | (go_at_call 98; refine Calls.mono (HL1.out _) ?_; rintro e w2 ⟨g0, c0, rfl, ho0, hu2⟩)))
  go_wp2_with fail
  go_ret
  exact ⟨g0, c0, rfl, ho0.base (by simp), Up.trans (Up.drew ((Up.refl _).alloc _)) hu2⟩

end Go.Proofs.YtcjhgbljhpflfabGreat

namespace Go.Proofs.YtcjhgbljhpflfabGreat
open Go.RowKit
set_option linter.unusedVariables false
set_option maxRecDepth 100000

/-- the i-th digits -/
def digC (X : List Int) (B : Int) (i j : Nat) : Int := X.getD j 0 / B ^ i % B
def digI (n : Nat) (X : List Int) (B : Int) (i : Nat) : List Int := (List.range n).map (digC X B i)
def restC (X : List Int) (B : Int) (i j : Nat) : Int := X.getD j 0 / B ^ i

/-- c0 behind the first i digits -/
def turn0 (n : Nat) (q B : Int) (a X : List Int) (l : List UInt8) : Nat → List Int
  | 0 => a
  | i + 1 => plusI n (turn0 n q B a X l i) (timesI n (tkP l n (2 * i)) (digI n X B i) q) q
/-- c1 behind the first i digits -/
def turn1 (n : Nat) (q B : Int) (X : List Int) (l : List UInt8) : Nat → List Int
  | 0 => (List.range n).map fun _ => 0
  | i + 1 => plusI n (turn1 n q B X l i) (timesI n (tkP l n (2 * i + 1)) (digI n X B i) q) q

/-- what Turn answers -/
def turnL (n t : Nat) (q b : Int) (L : Nat) (x l : List UInt8) : List UInt8 × Int :=
  tellL t q (ctE x + (q % (t : Int)).toNat + L * n * ((2 : Int) ^ b.toNat - 1).toNat * 2) (turn0 n q (2 ^ b.toNat) (cubI n (ct0 x n) q) (cubI n (ct1 x n) q) l L) (turn1 n q (2 ^ b.toNat) (cubI n (ct1 x n) q) l L)

theorem digI_length (n : Nat) (X : List Int) (B : Int) (i : Nat) : (digI n X B i).length = n := by simp [digI]
theorem turn0_length (n : Nat) (q B : Int) (a X : List Int) (l : List UInt8) (i : Nat) (h : a.length = n) : (turn0 n q B a X l i).length = n := by
  cases i with
  | zero => exact h
  | succ i => exact plusI_length _ _ _ _
theorem turn1_length (n : Nat) (q B : Int) (X : List Int) (l : List UInt8) (i : Nat) : (turn1 n q B X l i).length = n := by
  cases i with
  | zero => simp [turn1]
  | succ i => exact plusI_length _ _ _ _
theorem turn0_bounds (n : Nat) (q B : Int) (a X : List Int) (l : List UInt8) (i : Nat) (hq : 0 < q) (h : ∀ j, j < n → 0 ≤ a.getD j 0 ∧ a.getD j 0 < q) : ∀ j, j < n → 0 ≤ (turn0 n q B a X l i).getD j 0 ∧ (turn0 n q B a X l i).getD j 0 < q := by
  cases i with
  | zero => exact h
  | succ i => exact fun j hj => plusI_bounds _ _ _ _ hq j (by rw [plusI_length]; exact hj)
theorem turn1_bounds (n : Nat) (q B : Int) (X : List Int) (l : List UInt8) (i : Nat) (hq : 0 < q) : ∀ j, j < n → 0 ≤ (turn1 n q B X l i).getD j 0 ∧ (turn1 n q B X l i).getD j 0 < q := by
  cases i with
  | zero => intro j hj; simp only [turn1]; rw [getD_range hj]; omega
  | succ i => exact fun j hj => plusI_bounds _ _ _ _ hq j (by rw [plusI_length]; exact hj)

theorem cubI_bounds (n : Nat) (xs : List Int) (q : Int) (hq : 0 < q) : ∀ i, i < n → 0 ≤ (cubI n xs q).getD i 0 ∧ (cubI n xs q).getD i 0 < q := by
  intro i hi
  unfold cubI
  rw [getD_range hi]
  unfold cubC
  split <;> exact mod_bounds hq _

theorem bnd_of (xs : List Int) (n : Nat) (q m : Int) (hl : xs.length = n) (hm : q ≤ m) (hq : 0 ≤ q) (h : ∀ i, i < n → 0 ≤ xs.getD i 0 ∧ xs.getD i 0 < q) : Bnd xs m := by
  intro i
  rcases Nat.lt_or_ge i n with c | c
  · have := h i c; omega
  · rw [getD_out _ _ (by omega)]; omega

theorem rest_next (X : List Int) (B : Int) (i j : Nat) (hB : 0 < B) : restC X B i j / B = restC X B (i + 1) j := by
  unfold restC
  rw [Int.pow_succ, Int.ediv_ediv_of_nonneg (Int.le_of_lt (Int.pow_pos hB))]

theorem IsI.ne' {W : World} {base g r n c : Nat} {xs : List Int} (h : OwnI W base (.slice (some ⟨g, 0, none⟩) n c) xs) (hr : r < base) : g ≠ r := by
  have := h.lt g rfl
  omega

set_option maxHeartbeats 400000 in
theorem refTurn_bad (n t q b : Int) (x y : ByteArray) (w : World) (hg : goodB n t q b = false) :
    Calls Tryz.prog 47 #[.agg #[.int .i64 n, .int .i64 t, .int .i64 q, .int .i64 b], .string x, .string y] w fun e w' => e = .returned (.tuple #[.string ⟨#[]⟩, .int .i64 1]) ∧ Up w w' := by
  go_enter Tryz.func47, Tryz.ntmps47
  go_wp2_with (go_at_call 40; refine (refGood_calls _ _ _ _ _).mono ?_; rintro e w' ⟨rfl, hu⟩)
  go_ret2
  exact ⟨rfl, ((Up.refl _).alloc _).trans hu⟩

set_option maxHeartbeats 2000000 in
theorem refTurn_form (n t L : Nat) (q b : Int) (x y : ByteArray) (w : World) (hx : x.size ≤ maxLen) (hy : y.size ≤ maxLen) (g : NT n t) (hq : 2 ≤ q) (hq2 : q ≤ 1073741823) (hb : 1 ≤ b) (hb2 : b ≤ 8) (hL : DigOf q b L) (hg : goodB n t q b = true) (o0 o1 : Bool) (h0 : ctB x.data.toList n t q = o0) (h1 : tnB y.data.toList (2 * n * L) q = o1) (h : o0 = false ∨ (o0 = true ∧ o1 = false)) :
    Calls Tryz.prog 47 #[.agg #[.int .i64 n, .int .i64 t, .int .i64 q, .int .i64 b], .string x, .string y] w fun e w' => e = .returned (.tuple #[.string ⟨#[]⟩, .int .i64 2]) ∧ Up w w' := by
  have ht := g.t3
  have ht2 := g.ht
  obtain ⟨hd1, hd2, hd3⟩ := g.half
  have HR0 : Hid (∀ W, Calls Tryz.prog 42 #[.agg #[.int .i64 n, .int .i64 t, .int .i64 q, .int .i64 b], .string x] W fun e w' => ∃ (z : Int) (p0 : Option Addr) (x0 y0 : Nat) (p1 : Option Addr) (x1 y1 : Nat), e = .returned (.tuple #[.agg #[.int .i64 z, .slice p0 x0 y0, .slice p1 x1 y1], .bool o0]) ∧ Up W w') := fun W => by
    rw [← h0]
    exact Read_any n t q b x W hx (by omega) (by omega) (by omega) (by omega) (by omega) hq2
  have HR1 : Hid (∀ W, Calls Tryz.prog 44 #[.agg #[.int .i64 n, .int .i64 t, .int .i64 q, .int .i64 b], .string y] W fun e w' => e = .returned (.bool o1) ∧ Up W w') := fun W => by
    rw [← h1]
    exact Turner_calls n L t q b y W hy (by omega) hq hq2 hb hb2 hL
  clear h0 h1 hL
  rcases h with rfl | ⟨rfl, rfl⟩
  all_goals
    go_enter Tryz.func47, Tryz.ntmps47
    go_wp2_with fail
    refine (refGood_calls _ _ _ _ _).mono ?_
    rintro e w1 ⟨rfl, hu1⟩
    obtain ⟨hc, hf⟩ := bcell hu1
    go_wp2_with fail
    refine Calls.mono (HR0.out _) ?_
    rintro e w2 ⟨z, p0, x0, y0, p1, x1, y1, rfl, hu2⟩
    clear hc hf
    obtain ⟨hc, hf⟩ := bcell ((hu1.trans hu2).trans ((Up.refl _).alloc (.cells #[.int .i64 z, .slice p0 x0 y0, .slice p1 x1 y1] 98)))
    go_wp2_with fail
    refine Calls.mono (HR1.out _) ?_
    rintro e w3 ⟨rfl, hu3⟩
    clear hc hf
    go_wp2_with fail
    go_ret2
    exact ⟨rfl, ((((((Up.refl _).alloc _).trans hu1).trans hu2).alloc _).trans hu3)⟩

end Go.Proofs.YtcjhgbljhpflfabGreat

namespace Go.Proofs.YtcjhgbljhpflfabGreat
open Go.RowKit
set_option linter.unusedVariables false
set_option maxRecDepth 100000

theorem OwnI.keepB {w w' : World} {base B g n c : Nat} {xs : List Int} (h : OwnI w base (.slice (some ⟨g, 0, none⟩) n c) xs) (hb : Below B w w') (hg : g < B) : OwnI w' base (.slice (some ⟨g, 0, none⟩) n c) xs := by
  refine ⟨h.1, ?_⟩
  rcases h.2 with h2 | ⟨g', cap, cur, h3, h4, h5, h6⟩
  · exact Or.inl h2
  · have e : g' = g := by injection h3 with h3; injection h3 with h3; injection h3 with h3; exact h3.symm
    exact Or.inr ⟨g', cap, cur, h3, h4, by rw [hb.block g' (by omega)]; exact h5, h6⟩

theorem IsI.keepB {w w' : World} {B g : Nat} {xs : List Int} (h : IsI w g xs) (hb : Below B w w') (hg : g < B) : IsI w' g xs :=
  ⟨Nat.lt_of_lt_of_le h.1 hb.size, fun i hi => (hb.cell (p := ⟨g, i, none⟩) hg).trans (h.2 i hi)⟩

theorem IsI.setOther {W : World} {g r : Nat} {xs : List Int} (h : IsI W g xs) (hne : g ≠ r) (o : Nat) (v : Value) : IsI (W.setCell ⟨r, o, none⟩ v) g xs := by
  refine ⟨by have := h.1; simpa using this, fun i hi => ?_⟩
  rw [World.cell?_setCell_far W ⟨r, o, none⟩ ⟨g, i, none⟩ v (fun c => hne c.symm)]
  exact h.2 i hi

theorem made_zero {w : World} {base g n : Nat} (h : w.ownsRow base 3 1 (.slice (some ⟨g, 0, none⟩) n n) n (madeCells #[Value.int .i64 0] n).toList) : OwnI w base (.slice (some ⟨g, 0, none⟩) n n) ((List.range n).map fun _ => 0) := by
  have e : ((List.range n).map fun _ => (0 : Int)).map (Value.int .i64) = (madeCells #[Value.int .i64 0] n).toList := by
    apply List.ext_getElem
    · simp [size_madeCells]
    · intro i h1 h2
      simp [madeCells, Nat.mod_one]
  unfold OwnI
  rw [e]
  simpa using h

theorem Up.madeN {w w' : World} (hg : w.grownBy w' none) : Up w w' := (Below.refl _ _).grown hg (Nat.le_refl _) (fun k hk => by cases hk)

set_option maxHeartbeats 8000000 in
theorem refTurn_ok (n t L : Nat) (q b : Int) (x y : ByteArray) (w : World) (hx : x.size ≤ maxLen) (hy : y.size ≤ maxLen) (g : NT n t) (hq : 2 ≤ q) (hq2 : q ≤ 1073741823) (hb : 1 ≤ b) (hb2 : b ≤ 8) (hL : DigOf q b L) (hg : goodB n t q b = true) (h0 : ctB x.data.toList n t q = true) (h1 : tnB y.data.toList (2 * n * L) q = true) :
    Calls Tryz.prog 47 #[.agg #[.int .i64 n, .int .i64 t, .int .i64 q, .int .i64 b], .string x, .string y] w fun e w' => e = .returned (.tuple #[.string ⟨(turnL n t q b L x.data.toList y.data.toList).1.toArray⟩, .int .i64 (turnL n t q b L x.data.toList y.data.toList).2]) ∧ Up w w' := by
  have ht := g.t3
  have ht2 := g.ht
  have HN : Hid _ := g.hn
  obtain ⟨hd1, hd2, hd3⟩ := g.half
  have hL30 := hL.le hb hq2
  have HLo : Hid _ := hL.low
  have HTop : Hid _ := hL.top
  have HTn : Hid (∀ W, Calls Tryz.prog 44 #[.agg #[.int .i64 n, .int .i64 t, .int .i64 q, .int .i64 b], .string y] W fun e w' => e = .returned (.bool true) ∧ Up W w') := fun W => by
    rw [← h1]
    exact Turner_calls n L t q b y W hy (by omega) hq hq2 hb hb2 hL
  have HPo : Hid (∀ k, k < 2 * L → ∀ W, Calls Tryz.prog 110 #[.agg #[.int .i64 n, .int .i64 t, .int .i64 q, .int .i64 b], .string y, .int .i64 (k : Int)] W fun e w' => ∃ g c, e = .returned (.slice (some ⟨g, 0, none⟩) n c) ∧ OwnI w' W.heap.size (.slice (some ⟨g, 0, none⟩) n c) (tkP y.data.toList n k) ∧ Up W w') := fun k hk W => by
    have hm : 2 * n * L ≤ 2 * 16 * 30 := Nat.mul_le_mul (Nat.mul_le_mul (Nat.le_refl _) (by omega)) hL30
    exact pairOf_calls n (2 * n * L) k t q b y W hy (by omega) (by omega) (by omega) h1 (by rw [show 2 * n * L = n * (2 * L) by rw [Nat.mul_comm 2 n, Nat.mul_assoc]]; exact Nat.mul_le_mul_left _ hk)
  have HPb : Hid (∀ k, k < 2 * L → Bnd (tkP y.data.toList n k) 1073741824) := fun k hk => by
    refine bnd_of _ n q _ (tkP_length _ _ _) (by omega) (by omega) (tkP_bounds _ n k (2 * n * L) q h1 (by rw [show 2 * n * L = n * (2 * L) by rw [Nat.mul_comm 2 n, Nat.mul_assoc]]; exact Nat.mul_le_mul_left _ hk))
  obtain ⟨hp1, hp2, hp3⟩ := pow_b b hb hb2
  have HRa : Hid (∀ W, Calls Tryz.prog 107 #[.int .i64 2, .int .i64 b, .int .i64 1048576] W fun e w' => e = .returned (.int .i64 ((2 : Int) ^ b.toNat)) ∧ w' = W) := fun W => by
    have := raised_calls 2 b 1048576 W (by omega) (by omega) (by omega) (by omega) (by omega) (by omega)
    rw [hp1] at this
    exact this
  have hE0 := ctE_lt _ _ _ _ (by omega) (by omega) h0
  have HX0 : Hid _ := ct0_bnd x.data.toList n t q h0 hq2 4294967296 (by omega)
  have HX1 : Hid _ := ct1_bnd x.data.toList n t q h0 hq2 4294967296 (by omega)
  have L0 : Hid _ := ct0_length x.data.toList n
  have L1 : Hid _ := ct1_length x.data.toList n
  have HA : Hid (turnL n t q b L x.data.toList y.data.toList = tellL t q (ctE x.data.toList + (q % (t : Int)).toNat + L * n * ((2 : Int) ^ b.toNat - 1).toNat * 2) (turn0 n q (2 ^ b.toNat) (cubI n (ct0 x.data.toList n) q) (cubI n (ct1 x.data.toList n) q) y.data.toList L) (turn1 n q (2 ^ b.toNat) (cubI n (ct1 x.data.toList n) q) y.data.toList L)) := rfl
  generalize turnL n t q b L x.data.toList y.data.toList = ans at HA
  generalize (2 : Int) ^ b.toNat = B at HRa HA hp1 hp2 hp3
  clear hp1 h1
  go_enter Tryz.func47, Tryz.ntmps47
  go_wp2_with fail
  refine (refGood_calls _ _ _ _ _).mono ?_
  rintro e w1 ⟨rfl, hu1⟩
  obtain ⟨hc, hf⟩ := bcell hu1
  go_wp2_with fail
  refine (Read_ok n t q b x _ hx (by omega) (by omega) (by omega) (by omega) (by omega) hq2 h0).mono ?_
  rintro e w2 ⟨g0, c0, g1, c1, rfl, ho0, ho1, hu2⟩
  have i0 := ho0.isI
  have i1 := ho1.isI
  clear hc hf ho0 ho1
  generalize ct0 x.data.toList n = A0 at i0 HX0 HA L0
  generalize ct1 x.data.toList n = A1 at i1 HX1 HA L1
  generalize ctE x.data.toList = E0 at hE0 HA ⊢
  obtain ⟨W2, hW2⟩ : ∃ W, W = w2.alloc (.cells #[.int .i64 E0, .slice (some ⟨g0, 0, none⟩) n c0, .slice (some ⟨g1, 0, none⟩) n c1] 98) := ⟨_, rfl⟩
  have huA : Up w2 W2 := by rw [hW2]; exact (Up.refl _).alloc _
  have KE : Hid (W2.cell? ⟨w2.heap.size, 0, none⟩ = some (.int .i64 E0)) := show _ = _ by rw [hW2]; simp
  have KC0 : Hid (W2.cell? ⟨w2.heap.size, 1, none⟩ = some (.slice (some ⟨g0, 0, none⟩) n c0)) := show _ = _ by rw [hW2]; simp
  have KC1 : Hid (W2.cell? ⟨w2.heap.size, 2, none⟩ = some (.slice (some ⟨g1, 0, none⟩) n c1)) := show _ = _ by rw [hW2]; simp
  have hu12 := (hu1.trans hu2).trans huA
  obtain ⟨hc, hf⟩ := bcell hu12
  have KP0 : Hid (W2.cell? ⟨w.heap.size, 0, none⟩ = some (.int .i64 n)) := show _ = _ by rw [hc _ _ (by simp)]; simp
  have KP1 : Hid (W2.cell? ⟨w.heap.size, 1, none⟩ = some (.int .i64 t)) := show _ = _ by rw [hc _ _ (by simp)]; simp
  have KP2 : Hid (W2.cell? ⟨w.heap.size, 2, none⟩ = some (.int .i64 q)) := show _ = _ by rw [hc _ _ (by simp)]; simp
  have KP3 : Hid (W2.cell? ⟨w.heap.size, 3, none⟩ = some (.int .i64 b)) := show _ = _ by rw [hc _ _ (by simp)]; simp
  subst hW2
  go_wp2_with fail
  refine Calls.mono (HTn.out _) ?_
  rintro e w3 ⟨rfl, hu3⟩
  clear hc hf
  have hc3 := keepU hu3 KP3.out
  go_wp2_with fail
  refine Calls.mono (HRa.out _) ?_
  rintro e w3' ⟨rfl, rfl⟩
  have hc0 := keepU hu3 KP0.out
  have hc1 := keepU hu3 KP1.out
  have hc2 := keepU hu3 KP2.out
  go_wp2_with fail
  refine (Digits_calls L _ _ _ _ _ hq hq2 hb hb2 HTop.out HLo.out).mono ?_
  rintro e w4 ⟨rfl, hu4⟩
  have hu34 := hu3.trans hu4
  clear hc0 hc1 hc2 hc3
  have hc2 := keepU hu34 KP2.out
  have hx1 := keepU hu34 KC0.out
  go_wp2_with fail
  refine (Cubed_calls n A0 g0 c0 q _ HN.out L0.out (by omega) hq2 HX0.out (i0.up (huA.trans hu34))).mono ?_
  rintro e w5 ⟨v5, rfl, ho5, hu5⟩
  obtain ⟨a0, k0, rfl, _, ia0⟩ := ho5.is (ne_nil_of_length (cubI_length _ _ _) (by omega))
  rw [cubI_length]
  have hu35 := hu34.trans hu5
  clear hc2 hx1 ho5
  have hc0 := keepU hu35 KP0.out
  obtain ⟨z0, hi0, hz0, hz1, hz2⟩ := info_parts info_int
  go_wp2_with (at_make; refine wpList_make_full _ rfl _ _ 54 rfl w5.heap.size 3 z0 (.int .i64 0) 1 Tryz.underlying54 hi0 hz0 hz1 .i64 .i64 _ _ n rfl rfl rfl rfl (by rw [hz2]; omega) (by unfold maxLen; omega) (Nat.le_refl _) ?_)
  intro wk hown6 hg6
  have ia1 := (made_zero hown6).isI
  have hu6 := Up.madeN hg6
  have hu36 := hu35.trans hu6
  clear hown6 hg6 hc0
  have hc2 := keepU hu36 KP2.out
  have hx2 := keepU hu36 KC1.out
  go_wp2_with fail
  refine (Cubed_calls n A1 g1 c1 q _ HN.out L1.out (by omega) hq2 HX1.out (i1.up (huA.trans hu36))).mono ?_
  rintro e w7 ⟨v7, rfl, ho7, hu7⟩
  obtain ⟨gr, cr, rfl, hgr, _⟩ := ho7.is (ne_nil_of_length (cubI_length _ _ _) (by omega))
  rw [cubI_length] at ho7 ⊢
  have HXb : Hid _ := cubI_bounds n A1 q (by omega)
  have HXL : Hid _ := cubI_length n A1 q
  have HCb : Hid _ := cubI_bounds n A0 q (by omega)
  have HCL : Hid _ := cubI_length n A0 q
  generalize cubI n A0 q = C0 at ia0 HA HCb HCL
  generalize cubI n A1 q = X at ho7 HA HXb HXL
  clear hc2 hx2
  have hn0 : a0 ≠ gr := by have := (ia0.up hu6).1; omega
  have hn1 : w5.heap.size ≠ gr := by have := ia1.1; omega
  have ia0' := (ia0.up hu6).up hu7
  have ia1' := ia1.up hu7
  clear ia0 ia1
  have HR0 : Hid ((List.range n).map (restC X B 0) = X) := show _ = _ by
    rw [← HXL.out]
    refine Eq.trans ?_ (show (List.range X.length).map (fun i => X.getD i 0) = X from by
      apply List.ext_getElem
      · simp
      · intro i h1 h2
        simp [List.getD_eq_getElem?_getD, List.getElem?_eq_getElem h2])
    refine List.map_congr_left fun i _ => ?_
    simp [restC]
  rw [← HR0.out] at ho7
  go_wp2_with fail
  go_loopw [14, 15, 17] (fun s0 s1 si wr => ∃ (i b0 l0 b1 l1 : Nat), i ≤ L ∧ si = .int .i64 (i : Int) ∧ s0 = .slice (some ⟨b0, 0, none⟩) n l0 ∧ s1 = .slice (some ⟨b1, 0, none⟩) n l1 ∧ IsI wr b0 (turn0 n q B C0 X y.data.toList i) ∧ b0 ≠ gr ∧ IsI wr b1 (turn1 n q B X y.data.toList i) ∧ b1 ≠ gr ∧ OwnI wr wk.heap.size (.slice (some ⟨gr, 0, none⟩) n cr) ((List.range n).map (restC X B i)) ∧ Up wk wr) (fun _ _ si _ => L - (intOf si).toNat)
  case atStart => exact ⟨0, a0, k0, w5.heap.size, n, Nat.zero_le _, rfl, rfl, rfl, ia0', hn0, ia1', hn1, ho7, hu7⟩
  case round =>
    obtain ⟨i, b0, l0, b1, l1, hi, rfl, rfl, rfl, jb0, hb0, jb1, hb1, hor, hur⟩ := hrel
    by_cases hiL : i < L
    · obtain ⟨S, hS⟩ : ∃ S, S = wr.heap.size := ⟨_, rfl⟩
      have hgr2 : gr < S := by rw [hS]; exact (hor.lt gr rfl).2
      have hlt0 : b0 < S := by rw [hS]; exact jb0.1
      have hlt1 : b1 < S := by rw [hS]; exact jb1.1
      have hSk : wk.heap.size ≤ S := by rw [hS]; exact hur.size
      have HSw : Hid (S ≤ wr.heap.size) := show _ ≤ _ by rw [hS]; exact Nat.le_refl _
      clear hS
      go_wp2_with fail
      go_loopw [18, 19] (fun sd sj wx => ∃ j : Nat, j ≤ n ∧ sj = .int .i64 (j : Int) ∧ OwnI wx S sd ((List.range j).map (digC X B i)) ∧ OwnI wx wk.heap.size (.slice (some ⟨gr, 0, none⟩) n cr) ((List.range n).map fun k => if k < j then restC X B (i + 1) k else restC X B i k) ∧ IsI wx b0 (turn0 n q B C0 X y.data.toList i) ∧ IsI wx b1 (turn1 n q B X y.data.toList i) ∧ Up wk wx ∧ S ≤ wx.heap.size) (fun _ sj _ => n - (intOf sj).toNat)
      case atStart => exact ⟨0, Nat.zero_le _, rfl, World.ownsRow_nil _ _ _ _, by simpa using hor, jb0, jb1, hur, HSw.out⟩
      case round =>
        obtain ⟨j, hj, rfl, hod, hox, jx0, jx1, hux, hsx⟩ := hrel
        have hu3x := hu36.trans hux
        have hc0 := keepU hu3x KP0.out
        by_cases hjn : j < n
        · obtain ⟨hck, hfk⟩ := hox.cellAt j hjn
          rw [if_neg (Nat.lt_irrefl j)] at hck
          have hXj := HXb.out j hjn
          have hr0 : 0 ≤ restC X B i j := Int.ediv_nonneg hXj.1 (Int.le_of_lt (Int.pow_pos (by omega)))
          have hr1 : restC X B i j ≤ 1073741823 := by
            have : restC X B i j ≤ X.getD j 0 := Int.ediv_le_self _ hXj.1
            omega
          have HRn : Hid _ := rest_next X B i j (by omega)
          have HRd : Hid ((List.range (j + 1)).map (digC X B i) = (List.range j).map (digC X B i) ++ [restC X B i j % B]) := map_range_succ _ _
          have HST : Hid _ := HRn
          generalize hrr : restC X B i j = r at hck hr0 hr1 HRn HRd
          have HRR : Hid _ := hrr
          clear hrr hXj
          have hq1 : 0 ≤ r / B := Int.ediv_nonneg hr0 (by omega)
          have hq2' : r / B ≤ r := Int.ediv_le_self _ hr0
          go_wp2_with (at_builtin; refine append_int _ _ rfl (.tmp 69) (.tmp 76) rfl _ _ _ rfl hod rfl (by simp; omega) hsx ?_)
          intro v4 w4' hod4 hg4 hb4 _
          have hox4 := hox.keepB hb4 hgr2
          have jx04 := jx0.keepB hb4 hlt0
          have jx14 := jx1.keepB hb4 hlt1
          have hux4 : Up wk w4' := Below.trans hux (hb4.mono hSk)
          have hsx4 : S ≤ w4'.heap.size := Nat.le_trans hsx hb4.size
          obtain ⟨hck4, hfk4⟩ := hox4.cellAt j hjn
          rw [if_neg (Nat.lt_irrefl j), HRR.out] at hck4
          have hst := hox4.stored j hjn (r / B)
          have HCg : Hid ((List.range n).map (fun k => if k = j then r / B else if k < j then restC X B (i + 1) k else restC X B i k) = (List.range n).map fun k => if k < j + 1 then restC X B (i + 1) k else restC X B i k) := show _ = _ by
            refine List.map_congr_left fun k _ => ?_
            by_cases e : k = j
            · subst e
              rw [if_pos rfl, if_pos (Nat.lt_succ_self k), ← HST.out, HRR.out]
            · rw [if_neg e]
              by_cases e2 : k < j
              · rw [if_pos e2, if_pos (by omega)]
              · rw [if_neg e2, if_neg (by omega)]
          rw [HCg.out] at hst
          have HSt : Hid _ := hst
          have hod5 := fun v => ownsRow_setCell_below (a := ⟨gr, j, none⟩) hod4 (by show gr < S; exact hgr2) v
          have HOd : Hid _ := hod5
          clear hst hox hox4 hod hck hfk hc0 hod5
          have hc0 := keepU (hu36.trans hux4) KP0.out
          go_wp2_with fail
          go_roundw
          case rel => exact ⟨j + 1, by omega, by go_num, by rw [HRd.out]; exact HOd.out _, HSt.out.1, jx04.setOther hb0 _ _, jx14.setOther hb1 _ _, Below.trans hux4 HSt.out.2, by simpa using hsx4⟩
          case measure => simp [intOf]; omega
        · obtain rfl : j = n := by omega
          obtain ⟨gd, cd, rfl, hgd, id⟩ := hod.is (ne_nil_of_length (digI_length j X B i) (by omega))
          have HDL : Hid _ := digI_length j X B i
          rw [show ((List.range j).map (digC X B i)).length = j from HDL.out]
          have id2 : IsI wr gd (digI j X B i) := id
          have HPo0 : Hid (∀ W, Calls Tryz.prog 110 #[.agg #[.int .i64 j, .int .i64 t, .int .i64 q, .int .i64 b], .string y, .int .i64 (2 * (i : Int))] W fun e w' => ∃ g c, e = .returned (.slice (some ⟨g, 0, none⟩) j c) ∧ OwnI w' W.heap.size (.slice (some ⟨g, 0, none⟩) j c) (tkP y.data.toList j (2 * i)) ∧ Up W w') := fun W => by
            have := HPo.out (2 * i) (by omega) W
            rw [show ((2 * i : Nat) : Int) = 2 * (i : Int) by omega] at this
            exact this
          have HPo1 : Hid (∀ W, Calls Tryz.prog 110 #[.agg #[.int .i64 j, .int .i64 t, .int .i64 q, .int .i64 b], .string y, .int .i64 (2 * (i : Int) + 1)] W fun e w' => ∃ g c, e = .returned (.slice (some ⟨g, 0, none⟩) j c) ∧ OwnI w' W.heap.size (.slice (some ⟨g, 0, none⟩) j c) (tkP y.data.toList j (2 * i + 1)) ∧ Up W w') := fun W => by
            have := HPo.out (2 * i + 1) (by omega) W
            rw [show ((2 * i + 1 : Nat) : Int) = 2 * (i : Int) + 1 by omega] at this
            exact this
          have HB0 : Hid _ := HPb.out (2 * i) (by omega)
          have HB1 : Hid _ := HPb.out (2 * i + 1) (by omega)
          have HT0L : Hid _ := turn0_length j q B C0 X y.data.toList i HCL.out
          have HT1L : Hid _ := turn1_length j q B X y.data.toList i
          have HT0B : Hid _ := bnd_of _ j q 4294967296 HT0L.out (by omega) (by omega) (turn0_bounds j q B C0 X y.data.toList i (by omega) HCb.out)
          have HT1B : Hid _ := bnd_of _ j q 4294967296 HT1L.out (by omega) (by omega) (turn1_bounds j q B X y.data.toList i (by omega))
          have HT0 : Hid (turn0 j q B C0 X y.data.toList (i + 1) = plusI j (turn0 j q B C0 X y.data.toList i) (timesI j (tkP y.data.toList j (2 * i)) (digI j X B i) q) q) := rfl
          have HT1 : Hid (turn1 j q B X y.data.toList (i + 1) = plusI j (turn1 j q B X y.data.toList i) (timesI j (tkP y.data.toList j (2 * i + 1)) (digI j X B i) q) q) := rfl
          have HP0L : Hid _ := tkP_length y.data.toList j (2 * i)
          have HP1L : Hid _ := tkP_length y.data.toList j (2 * i + 1)
          have HRx : Hid ((List.range j).map (fun k => if k < j then restC X B (i + 1) k else restC X B i k) = (List.range j).map (restC X B (i + 1))) := show _ = _ by
            refine List.map_congr_left fun k hk => ?_
            rw [if_pos (List.mem_range.1 hk)]
          rw [HRx.out] at hox
          generalize turn0 j q B C0 X y.data.toList i = T0 at jx0 HT0L HT0B HT0
          generalize turn1 j q B X y.data.toList i = T1 at jx1 HT1L HT1B HT1
          generalize tkP y.data.toList j (2 * i) = P0 at HPo0 HB0 HT0 HP0L
          generalize tkP y.data.toList j (2 * i + 1) = P1 at HPo1 HB1 HT1 HP1L
          generalize digI j X B i = D at id2 HDL HT0 HT1
          have e1 : IntKind.i64.wrap (2 * (i : Int)) = 2 * (i : Int) := IntWalk.i64_in _ (by omega)
          have e2 : IntKind.i64.wrap (2 * (i : Int) + 1) = 2 * (i : Int) + 1 := IntWalk.i64_in _ (by omega)
          have hc1 := keepU hu3x KP1.out
          have hc2 := keepU hu3x KP2.out
          have hc3 := keepU hu3x KP3.out
          clear hod id
          go_wp2_with fail
          go_region_held3 (fun w' => w'.cell? ⟨w.heap.size, 0, none⟩ = some (.int .i64 (j : Int)) ∧ w'.cell? ⟨w.heap.size, 1, none⟩ = some (.int .i64 (t : Int)) ∧ w'.cell? ⟨w.heap.size, 2, none⟩ = some (.int .i64 q) ∧ w'.cell? ⟨w.heap.size, 3, none⟩ = some (.int .i64 b))
            (first | go_keep | exact keep4 hua3 (by assumption) | exact keep4 hua2 (by assumption) | exact keep4 hua1 (by assumption))
            ((first | (go_at_call 110; refine Calls.mono (HPo0.out _) ?_; rintro e wa1 ⟨gp, cp, rfl, hop, hua1⟩) | (go_at_call 104; refine (Times_calls j P0 D gp gd cp cd q _ (by omega) HP0L.out HDL.out (by omega) hq2 HB0.out (by exact hop.isI) (by exact (id2.up (Up.drew (Up.refl _))).up hua1)).mono ?_; rintro e wa2 ⟨va2, rfl, hoa2, hua2⟩; obtain ⟨gt2, ct2, rfl, hgt2, it2⟩ := hoa2.is (ne_nil_of_length (timesI_length _ _ _ _) (by omega)); rw [timesI_length]) | (go_at_call 109; refine (Plus_calls j T0 _ b0 gt2 l0 ct2 q _ (by omega) HT0L.out (timesI_length _ _ _ _) (by omega) hq2 HT0B.out (Bnd_mod (by omega) (by omega) (fun i => ⟨_, rfl⟩)) (by exact ((jx0.up (Up.drew (Up.refl _))).up hua1).up hua2) it2).mono ?_; rintro e wa3 ⟨va3, rfl, hoa3, hua3⟩; obtain ⟨e0, f0, rfl, hge0, ie0⟩ := hoa3.is (ne_nil_of_length (plusI_length _ _ _ _) (by omega)); rw [plusI_length])))
          have hux3 : Up wr wa3 := Up.trans (Up.trans (Up.trans (Up.drew (Up.refl _)) hua1) hua2) hua3
          have hsz2 : wr.heap.size ≤ wa2.heap.size := (Up.trans (Up.trans (Up.drew (Up.refl wr)) hua1) hua2).size
          have hgrx := (hox.lt gr rfl).2
          have hne0 : e0 ≠ gr := by omega
          rw [← HT0.out] at ie0
          have hox3 := hox.up hux3
          have jx13 := jx1.up hux3
          have id3 := id2.up hux3
          have hu3y := hu3x.trans hux3
          clear hop hua1 hua2 hua3 hoa2 hoa3 it2 hc0 hc1 hc2 hc3 hox jx0 jx1 id2 e1
          have hc0 := keepU hu3y KP0.out
          have hc1 := keepU hu3y KP1.out
          have hc2 := keepU hu3y KP2.out
          have hc3 := keepU hu3y KP3.out
          have e1 : IntKind.i64.wrap (2 * (i : Int)) = 2 * (i : Int) := IntWalk.i64_in _ (by omega)
          go_wp2_with fail
          go_region_held3 (fun w' => w'.cell? ⟨w.heap.size, 0, none⟩ = some (.int .i64 (j : Int)) ∧ w'.cell? ⟨w.heap.size, 1, none⟩ = some (.int .i64 (t : Int)) ∧ w'.cell? ⟨w.heap.size, 2, none⟩ = some (.int .i64 q) ∧ w'.cell? ⟨w.heap.size, 3, none⟩ = some (.int .i64 b))
            (first | go_keep | exact keep4 hua3 (by assumption) | exact keep4 hua2 (by assumption) | exact keep4 hua1 (by assumption))
            ((first | (go_at_call 110; refine Calls.mono (HPo1.out _) ?_; rintro e wb1 ⟨gp, cp, rfl, hop, hua1⟩) | (go_at_call 104; refine (Times_calls j P1 D gp gd cp cd q _ (by omega) HP1L.out HDL.out (by omega) hq2 HB1.out (by exact hop.isI) (by exact (id3.up (Up.drew (Up.refl _))).up hua1)).mono ?_; rintro e wb2 ⟨va2, rfl, hoa2, hua2⟩; obtain ⟨gt2, ct2, rfl, hgt2, it2⟩ := hoa2.is (ne_nil_of_length (timesI_length _ _ _ _) (by omega)); rw [timesI_length]) | (go_at_call 109; refine (Plus_calls j T1 _ b1 gt2 l1 ct2 q _ (by omega) HT1L.out (timesI_length _ _ _ _) (by omega) hq2 HT1B.out (Bnd_mod (by omega) (by omega) (fun i => ⟨_, rfl⟩)) (by exact ((jx13.up (Up.drew (Up.refl _))).up hua1).up hua2) it2).mono ?_; rintro e wb3 ⟨va3, rfl, hoa3, hua3⟩; obtain ⟨e1', f1, rfl, hge1, ie1⟩ := hoa3.is (ne_nil_of_length (plusI_length _ _ _ _) (by omega)); rw [plusI_length])))
          have huy3 : Up wa3 wb3 := Up.trans (Up.trans (Up.trans (Up.drew (Up.refl _)) hua1) hua2) hua3
          have hsz3 : wa3.heap.size ≤ wb2.heap.size := (Up.trans (Up.trans (Up.drew (Up.refl wa3)) hua1) hua2).size
          have hszx := hux3.size
          have hne1 : e1' ≠ gr := by omega
          rw [← HT1.out] at ie1
          clear hop hua1 hua2 hua3 hoa2 hoa3 it2 hc0 hc1 hc2 hc3 e1 e2
          go_wp2_with fail
          go_roundw
          case rel => exact ⟨i + 1, e0, f0, e1', f1, by omega, by go_num, rfl, rfl, ie0.up huy3, hne0, ie1, hne1, hox3.up huy3, (hux.trans hux3).trans huy3⟩
          case measure => simp [intOf]; omega
    · obtain rfl : i = L := by omega
      have hu3r := hu36.trans hur
      have hc0 := keepU hu3r KP0.out
      have hc1 := keepU hu3r KP1.out
      have hc2 := keepU hu3r KP2.out
      have hcE := keepU hu3r KE.out
      have hm := mod_bounds (show (0 : Int) < (t : Int) by omega) q
      have hR : q % (t : Int) = ((q % (t : Int)).toNat : Int) := by omega
      have hRb : (q % (t : Int)).toNat ≤ 1021 := by omega
      have eR : q.tmod (t : Int) = ((q % (t : Int)).toNat : Int) := by rw [Int.tmod_eq_emod_of_nonneg (by omega)]; exact hR
      generalize (q % (t : Int)).toNat = R at eR hRb HA
      have et1 : ¬ (t : Int) = 0 := by omega
      have et2 : ¬ t = 0 := by omega
      have et0 : ((t : Int) == 0) = false := beq_eq_false_iff_ne.2 et1
      have hBm : B - 1 = ((B - 1).toNat : Int) := by omega
      have hBb : (B - 1).toNat ≤ 255 := by omega
      have e0 : IntKind.i64.wrap (B - 1) = ((B - 1).toNat : Int) := by rw [IntWalk.i64_in _ (by omega)]; exact hBm
      generalize (B - 1).toNat = Z at e0 hBb HA
      have m1 : i * n ≤ 30 * 16 := Nat.mul_le_mul hL30 (by omega)
      have m2 : i * n * Z ≤ 30 * 16 * 255 := Nat.mul_le_mul m1 hBb
      have c1' : (i : Int) * (n : Int) = ((i * n : Nat) : Int) := by rw [Int.natCast_mul]
      have c2' : ((i * n : Nat) : Int) * (Z : Int) = ((i * n * Z : Nat) : Int) := by rw [Int.natCast_mul (i * n) Z]
      have e1 : IntKind.i64.wrap ((i : Int) * (n : Int)) = ((i * n : Nat) : Int) := by rw [c1']; exact IntWalk.i64_in _ (by omega)
      have e2 : IntKind.i64.wrap (((i * n : Nat) : Int) * (Z : Int)) = ((i * n * Z : Nat) : Int) := by rw [c2']; exact IntWalk.i64_in _ (by omega)
      generalize i * n * Z = Y at e2 m2 HA
      generalize i * n = M at e1 e2
      have e3 : IntKind.i64.wrap ((Y : Int) * 2) = (Y : Int) * 2 := IntWalk.i64_in _ (by omega)
      have e4 : IntKind.i64.wrap ((E0 : Int) + (R : Int)) = (E0 : Int) + (R : Int) := IntWalk.i64_in _ (by omega)
      have e5 : IntKind.i64.wrap ((E0 : Int) + (R : Int) + (Y : Int) * 2) = ((E0 + R + Y * 2 : Nat) : Int) := by rw [IntWalk.i64_in _ (by omega)]; omega
      have hEb : E0 + R + Y * 2 ≤ 1125899906842624 := by omega
      generalize E0 + R + Y * 2 = ET at e5 hEb HA
      clear hm hR hBm c1' c2' m1
      go_wp2_with fail
      go_quiet (fail)
      have hu3q : Up (w2.alloc (.cells #[.int .i64 E0, .slice (some ⟨g0, 0, none⟩) n c0, .slice (some ⟨g1, 0, none⟩) n c1] 98)) (wr.drewN nq) := Up.drewN hu3r
      have jq0 := jb0.up (Up.drewN (n := nq) (Up.refl wr))
      have jq1 := jb1.up (Up.drewN (n := nq) (Up.refl wr))
      generalize wr.drewN nq = wq at hu3q jq0 jq1 ⊢
      clear hc0 hc1 hc2 hcE e0 e1 e2 e3 e4 e5 eR
      have hc0 := keepU hu3q KP0.out
      have hc1 := keepU hu3q KP1.out
      have hc2 := keepU hu3q KP2.out
      have hc3 := keepU hu3q KP3.out
      have HT0L : Hid _ := turn0_length n q B C0 X y.data.toList i HCL.out
      have HT1L : Hid _ := turn1_length n q B X y.data.toList i
      have HT0B : Hid _ := turn0_bounds n q B C0 X y.data.toList i (by omega) HCb.out
      have HT1B : Hid _ := turn1_bounds n q B X y.data.toList i (by omega)
      generalize turn0 n q B C0 X y.data.toList i = T0 at jq0 HT0L HT0B HA
      generalize turn1 n q B X y.data.toList i = T1 at jq1 HT1L HT1B HA
      go_wp2_with fail
      refine (Told_any n ET t q b T0 T1 b0 b1 l0 l1 _ (by omega) (by omega) (by omega) (by omega) hq2 hEb HT0L.out HT1L.out (fun i hi => by have := HT0B.out i (by rw [HT0L.out] at hi; exact hi); omega) (fun i hi => by have := HT1B.out i (by rw [HT1L.out] at hi; exact hi); omega) jq0 jq1).mono ?_
      rintro e w9 ⟨rfl, hu9⟩
      rw [← HA.out]
      go_wp2_with fail
      go_ret2
      exact ⟨rfl, (((Up.refl _).alloc _).trans (hu12.trans hu3q)).trans hu9⟩

end Go.Proofs.YtcjhgbljhpflfabGreat
