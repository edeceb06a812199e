/-
  Walks: the reference's Turner, pairOf.
-/
import Derived.Test.YtjiekfplgmfgiabGreatWalksRn
namespace Go.Proofs.YtjiekfplgmfgiabGreat
open Go.RowKit
set_option linter.unusedVariables false
set_option maxRecDepth 100000

theorem pow2_le {b : Nat} {j k : Nat} (h : j ≤ k) : (2 : Int) ^ (b * j) ≤ 2 ^ (b * k) := by
  have : (2 : Nat) ^ (b * j) ≤ 2 ^ (b * k) := Nat.pow_le_pow_right (by omega) (Nat.mul_le_mul_left _ h)
  exact_mod_cast this

theorem dig_up (q b : Int) (hq : 2 ≤ q) : ∀ k : Nat, q ≤ 2 ^ (b.toNat * k) → ∃ L, DigOf q b L := by
  intro k
  induction k with
  | zero => intro h; simp at h; omega
  | succ k ih =>
    intro h
    by_cases c : q ≤ 2 ^ (b.toNat * k)
    · exact ih c
    · refine ⟨k + 1, h, fun j hj => ?_⟩
      have := pow2_le (b := b.toNat) (show j ≤ k by omega)
      omega

/-- the digits -/
theorem dig_ex (q b : Int) (hq : 2 ≤ q) (hq2 : q ≤ 1073741823) (hb : 1 ≤ b) : ∃ L, DigOf q b L := by
  refine dig_up q b hq 30 ?_
  have h4 : (2 : Int) ^ (1 * 30) ≤ 2 ^ (b.toNat * 30) := by
    have : (2 : Nat) ^ (1 * 30) ≤ 2 ^ (b.toNat * 30) := Nat.pow_le_pow_right (by omega) (Nat.mul_le_mul_right _ (by omega))
    exact_mod_cast this
  have h5 : (2 : Int) ^ (1 * 30) = 1073741824 := by decide
  omega

/-- is the text a turning key of m numbers? -/
def tnB (l : List UInt8) (m : Nat) (q : Int) : Bool := decide (l.length = 1 + 4 * m) && decide (byteL l 0 = 82) && okL l.tail m 4 q

theorem tnB_iff (l : List UInt8) (m : Nat) (q : Int) : tnB l m q = true ↔ l.length = 1 + 4 * m ∧ byteL l 0 = 82 ∧ okL l.tail m 4 q = true := by
  unfold tnB
  simp [and_assoc]

/-- polynomial k of a turning key -/
def tkP (l : List UInt8) (n k : Nat) : List Int := (List.range n).map fun i => (numL l (1 + 4 * (n * k) + 4 * i) 4 : Int)

theorem tkP_length (l : List UInt8) (n k : Nat) : (tkP l n k).length = n := by simp [tkP]

set_option maxHeartbeats 2000000 in
theorem Turner_calls (n L : Nat) (t q b : Int) (s : ByteArray) (w : World) (hs : s.size ≤ maxLen) (hn : n ≤ 16) (hq : 2 ≤ q) (hq2 : q ≤ 1073741823) (hb : 1 ≤ b) (hb2 : b ≤ 8) (hL : DigOf q b L) :
    Calls Tryz.prog 23 #[.agg #[.int .i64 n, .int .i64 t, .int .i64 q, .int .i64 b], .string s] w fun e w' => e = .returned (.bool (tnB s.data.toList (2 * n * L) q)) ∧ Up w w' := by
  have hL30 := hL.le hb hq2
  have HLo : Hid _ := hL.low
  have HTop : Hid _ := hL.top
  have hs2 : (s.size : Int) ≤ 9223372036854775807 := by unfold maxLen at hs; omega
  have hm : 2 * n * L ≤ 2 * 16 * 30 := Nat.mul_le_mul (Nat.mul_le_mul (Nat.le_refl _) hn) hL30
  have hmI : 2 * (n : Int) * (L : Int) = ((2 * n * L : Nat) : Int) := by rw [Int.natCast_mul, Int.natCast_mul]; rfl
  have e1 : IntKind.i64.wrap (2 * (n : Int)) = 2 * (n : Int) := IntWalk.i64_in _ (by omega)
  have e2 : IntKind.i64.wrap (2 * (n : Int) * (L : Int)) = ((2 * n * L : Nat) : Int) := by rw [hmI]; exact IntWalk.i64_in _ (by omega)
  have HA : Hid (tnB s.data.toList (2 * n * L) q = (decide (s.data.toList.length = 1 + 4 * (2 * n * L)) && decide (byteL s.data.toList 0 = 82) && okL s.data.toList.tail (2 * n * L) 4 q)) := rfl
  generalize hans : tnB s.data.toList (2 * n * L) q = ans at HA
  clear hans
  generalize 2 * n * L = M at hm hmI e2 HA
  have hA : (w.alloc (.cells #[.int .i64 n, .int .i64 t, .int .i64 q, .int .i64 b] 23)).cell? ⟨w.heap.size, 0, none⟩ = some (.int .i64 n) := by simp
  have hB : (w.alloc (.cells #[.int .i64 n, .int .i64 t, .int .i64 q, .int .i64 b] 23)).cell? ⟨w.heap.size, 1, none⟩ = some (.int .i64 t) := by simp
  have hC : (w.alloc (.cells #[.int .i64 n, .int .i64 t, .int .i64 q, .int .i64 b] 23)).cell? ⟨w.heap.size, 2, none⟩ = some (.int .i64 q) := by simp
  have hD : (w.alloc (.cells #[.int .i64 n, .int .i64 t, .int .i64 q, .int .i64 b] 23)).cell? ⟨w.heap.size, 3, none⟩ = some (.int .i64 b) := by simp
  clear hL hmI
  go_enter Tryz.func23, Tryz.ntmps23
  go_wp2_with fail
  go_region_held3 (fun w' => w'.cell? ⟨w.heap.size, 0, none⟩ = some (.int .i64 (n : Int)) ∧ w'.cell? ⟨w.heap.size, 1, none⟩ = some (.int .i64 t) ∧ w'.cell? ⟨w.heap.size, 2, none⟩ = some (.int .i64 q) ∧ w'.cell? ⟨w.heap.size, 3, none⟩ = some (.int .i64 b))
    (first | go_keep | exact keep4 hu2 (by assumption))
    ((first | (go_at_call 53; refine (Digits_calls L _ _ _ _ _ hq hq2 hb hb2 HTop.out HLo.out).mono ?_; rintro e w2 ⟨rfl, hu2⟩)))
  have hu02 : Up (w.alloc (.cells #[.int .i64 n, .int .i64 t, .int .i64 q, .int .i64 b] 23)) w2 := Up.trans (Up.drew (Up.refl _)) hu2
  clear hu2 e1 e2
  have hC2 := keepU hu02 hC
  clear hA hB hC hD
  by_cases hl : s.size = 1 + 4 * M
  · have hne : ((s.size : Int) != 1 + 4 * (M : Int)) = false := by rw [hl]; simp
    have h0 : 0 < s.size := by omega
    by_cases h82 : byteL s.data.toList 0 = 82
    · have HA2 : Hid (ans = okL (s.extract 1 s.size).data.toList M 4 q) := show _ = _ by
        rw [HA.out, ext_tail, h82]; simp [hl]
      rw [byteL_in s 0 h0] at h82
      have hne2 : (((s[0]'h0).toNat : Int) != 82) = false := by rw [h82]; rfl
      have hb1 : (1 : Int) ≤ (s.size : Int) := by omega
      have HLi : Hid (∀ W, Calls Tryz.prog 51 #[.string (s.extract 1 s.size), .int .i64 M, .int .i64 4, .int .i64 q] W fun e w' => ∃ a x y, e = .returned (.tuple #[.slice a x y, .bool ans]) ∧ Up W w') := fun W => by
        rw [HA2.out]
        exact List_any (s.extract 1 s.size) M 4 q W (by simp; omega) (by omega) (by omega)
      clear h82 hl
      go_wp2_with fail
      go_region_held3 (fun w' => w'.cell? ⟨w.heap.size, 2, none⟩ = some (.int .i64 q))
        (first | go_keep | exact keepU hu3 (by assumption))
        ((first | (go_at_call 51; refine Calls.mono (HLi.out _) ?_; rintro e w3 ⟨a, x, y, rfl, hu3⟩)))
      go_wp2_with fail
      go_ret
      exact ⟨rfl, (((Up.refl _).alloc _).trans hu02).trans (Up.trans (Up.drew (Up.refl _)) hu3)⟩
    · have HA2 : Hid (ans = false) := show _ = _ by rw [HA.out]; simp [h82]
      rw [byteL_in s 0 h0] at h82
      have hne2 : (((s[0]'h0).toNat : Int) != 82) = true := by rw [bne_iff_ne]; omega
      clear h82 hl
      go_wp2_with fail
      go_ret
      exact ⟨ret_bool HA2.out.symm, ((Up.refl _).alloc _).trans hu02⟩
  · have HA2 : Hid (ans = false) := show _ = _ by rw [HA.out]; simp [hl]
    have hne : ((s.size : Int) != 1 + 4 * (M : Int)) = true := by rw [bne_iff_ne]; omega
    clear hl
    go_wp2_with fail
    go_ret
    exact ⟨ret_bool HA2.out.symm, ((Up.refl _).alloc _).trans hu02⟩

theorem tk_ok (l : List UInt8) (n k m : Nat) (q : Int) (h : tnB l m q = true) (hk : n * (k + 1) ≤ m) : okL ((l.take (1 + 4 * (n * k) + 4 * n)).drop (1 + 4 * (n * k))) n 4 q = true := by
  obtain ⟨h1, _, h3⟩ := (tnB_iff _ _ _).1 h
  obtain ⟨_, h5⟩ := (okL_iff _ _ _ _).1 h3
  rw [Nat.mul_succ] at hk
  rw [okL_iff]
  refine ⟨by simp; omega, fun i hi => ?_⟩
  rw [numL_drop, numL_take _ _ _ _ (by omega)]
  have := h5 (n * k + i) (by omega)
  rw [← List.drop_one, numL_drop, show 1 + (n * k + i) * 4 = 1 + 4 * (n * k) + i * 4 by omega] at this
  exact this

theorem tk_nums (l : List UInt8) (n k : Nat) : numsL ((l.take (1 + 4 * (n * k) + 4 * n)).drop (1 + 4 * (n * k))) 4 n = tkP l n k := by
  rw [numsL_range]
  unfold tkP
  refine List.map_congr_left fun i hi => ?_
  have hi := List.mem_range.1 hi
  rw [numL_drop, numL_take _ _ _ _ (by omega), Nat.mul_comm i 4]

theorem tkP_bounds (l : List UInt8) (n k m : Nat) (q : Int) (h : tnB l m q = true) (hk : n * (k + 1) ≤ m) : ∀ i, i < n → 0 ≤ (tkP l n k).getD i 0 ∧ (tkP l n k).getD i 0 < q := by
  have h1 := tk_ok l n k m q h hk
  have h2 := numsL_lt _ 4 n q h1
  rw [tk_nums] at h2
  exact h2

set_option maxHeartbeats 2000000 in
theorem pairOf_calls (n m k : Nat) (t q b : Int) (s : ByteArray) (w : World) (hs : s.size ≤ maxLen) (hn : n ≤ 16) (hn1 : 1 ≤ n) (hm : m ≤ 1024) (h : tnB s.data.toList m q = true) (hk : n * (k + 1) ≤ m) :
    Calls Tryz.prog 63 #[.agg #[.int .i64 n, .int .i64 t, .int .i64 q, .int .i64 b], .string s, .int .i64 k] w fun e w' => ∃ g c, e = .returned (.slice (some ⟨g, 0, none⟩) n c) ∧ OwnI w' w.heap.size (.slice (some ⟨g, 0, none⟩) n c) (tkP s.data.toList n k) ∧ Up w w' := by
  have hlen : s.size = 1 + 4 * m := by have := ((tnB_iff _ _ _).1 h).1; simpa using this
  have hkm : k ≤ 1024 := by
    have : k + 1 ≤ n * (k + 1) := Nat.le_mul_of_pos_left _ (by omega)
    omega
  have hok := tk_ok s.data.toList n k m q h hk
  have hnk : n * k + n ≤ m := by rw [Nat.mul_succ] at hk; exact hk
  have hsl : 1 + 4 * (n * k) + 4 * n ≤ s.size := by omega
  have HL1 : Hid (∀ W, Calls Tryz.prog 51 #[.string (s.extract (1 + 4 * (n * k)) (1 + 4 * (n * k) + 4 * n)), .int .i64 n, .int .i64 4, .int .i64 q] W fun e w' => ∃ g cap, e = .returned (.tuple #[.slice (some ⟨g, 0, none⟩) n cap, .bool true]) ∧ OwnI w' W.heap.size (.slice (some ⟨g, 0, none⟩) n cap) (tkP s.data.toList n k) ∧ Up W w') := fun W => by
    refine (List_ok (s.extract (1 + 4 * (n * k)) (1 + 4 * (n * k) + 4 * n)) n 4 q W (by simp; omega) (by omega) (by omega) (by rw [ext_list s _ _ hsl]; exact hok)).mono ?_
    rintro e w' ⟨v, rfl, hown, hu⟩
    rw [ext_list s _ _ hsl, tk_nums] at hown
    obtain ⟨g, cap, rfl, _, _⟩ := hown.is (ne_nil_of_length (tkP_length _ _ _) (by omega))
    rw [tkP_length] at hown ⊢
    exact ⟨g, cap, rfl, hown, hu⟩
  have hP : 4 * (n : Int) * (k : Int) = ((4 * (n * k) : Nat) : Int) := by rw [Int.natCast_mul, Int.natCast_mul, Int.mul_assoc]; rfl
  obtain ⟨A, hA⟩ : ∃ A, A = 1 + 4 * (n * k) := ⟨_, rfl⟩
  have e0 : IntKind.i64.wrap (4 * (n : Int)) = 4 * (n : Int) := IntWalk.i64_in _ (by omega)
  have e1 : IntKind.i64.wrap (4 * (n : Int) * (k : Int)) = 4 * (n : Int) * (k : Int) := IntWalk.i64_in _ (by omega)
  have e2 : 1 + 4 * (n : Int) * (k : Int) = (A : Int) := by omega
  have b1 : (0 : Int) ≤ (A : Int) := by omega
  have b2 : (A : Int) ≤ (A : Int) + 4 * (n : Int) := by omega
  have b3 : (A : Int) + 4 * (n : Int) ≤ (s.size : Int) := by omega
  have e3 : IntKind.i64.wrap ((A : Int) + 4 * (n : Int)) = (A : Int) + 4 * (n : Int) := IntWalk.i64_in _ (by omega)
  have e4 : ((A : Int) + 4 * (n : Int)).toNat = A + 4 * n := by omega
  have b4 : 4 * (n : Int) * (k : Int) ≤ 4096 := by omega
  have b5 : 0 ≤ 4 * (n : Int) * (k : Int) := by omega
  rw [← hA] at HL1
  have HE2 : Hid _ := e2
  clear hok hk h hlen hP hA hnk hsl e2
  clear e1
  go_enter Tryz.func63, Tryz.ntmps63
  go_wp2_with fail
  rw [HE2.out]
  go_region_held3 (fun w' => w'.cell? ⟨w.heap.size, 0, none⟩ = some (.int .i64 (n : Int)) ∧ w'.cell? ⟨w.heap.size, 2, none⟩ = some (.int .i64 q))
    (first | go_keep | exact ⟨keepU hu2 (And.left (by assumption)), keepU hu2 (And.right (by assumption))⟩)
    ((first | (go_at_call 51; refine Calls.mono (HL1.out _) ?_; rintro e w2 ⟨g0, c0, rfl, ho0, hu2⟩)))
  go_wp2_with fail
  go_ret
  exact ⟨g0, c0, rfl, ho0.base (by simp), Up.trans (Up.drew ((Up.refl _).alloc _)) hu2⟩

end Go.Proofs.YtjiekfplgmfgiabGreat
