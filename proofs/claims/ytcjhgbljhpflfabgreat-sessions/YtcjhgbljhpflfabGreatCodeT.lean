/-
  Walks: the program's reading of numbers.
-/
import Derived.Test.YtcjhgbljhpflfabGreatWalksRg
namespace Go.Proofs.YtcjhgbljhpflfabGreat
open Go.RowKit
set_option linter.unusedVariables false
set_option maxRecDepth 100000

theorem or_byteI (v : Int) (h0 : 0 ≤ v) (h1 : v < 1099511627776) (u : UInt8) : bits .or .i64 (v * 256) (u.toNat : Int) = v * 256 + (u.toNat : Int) := by
  obtain ⟨m, rfl⟩ := Int.eq_ofNat_of_zero_le h0
  have hu := u.toNat_lt
  show IntKind.i64.wrap ((BitVec.ofInt 64 ((m : Int) * 256) ||| BitVec.ofInt 64 (u.toNat : Int)).toNat : Nat) = _
  have h2 : ((BitVec.ofInt 64 ((m : Int) * 256) ||| BitVec.ofInt 64 (u.toNat : Int)).toNat : Nat) = m * 256 + u.toNat := by
    rw [BitVec.toNat_or]
    have e1 : (BitVec.ofInt 64 ((m : Int) * 256)).toNat = m * 256 := by
      rw [BitVec.toNat_ofInt]; omega
    have e2 : (BitVec.ofInt 64 (u.toNat : Int)).toNat = u.toNat := by
      rw [BitVec.toNat_ofInt]; omega
    rw [e1, e2]
    have := Nat.two_pow_add_eq_or_of_lt (i := 8) (b := u.toNat) (by omega) m
    rw [show (2 : Nat) ^ 8 = 256 from by decide] at this
    rw [Nat.mul_comm] at this
    rw [← this]
  rw [h2, IntWalk.i64_in _ (by omega)]
  simp

theorem wrap_byte (u : UInt8) : IntKind.i64.wrap (u.toNat : Int) = (u.toNat : Int) := IntWalk.i64_in _ (by have := u.toNat_lt; omega)

set_option maxHeartbeats 1000000 in
theorem textNumber_calls (s : ByteArray) (w : World) (hs : s.size ≤ 5) :
    Calls Tryz.prog 130 #[.string s] w fun e w' => e = .returned (.int .i64 (numL s.data.toList 0 s.size : Nat)) ∧ w' = w := by
  go_enter Tryz.func130, Tryz.ntmps130
  go_wp2
  go_loop [3, 4] (fun v j => ∃ k : Nat, k ≤ s.size ∧ v = .int .i64 (numL s.data.toList 0 k : Nat) ∧ j = .int .i64 (k : Int)) (fun _ j => s.size - (intOf j).toNat)
  case atStart => exact ⟨0, Nat.zero_le _, rfl, rfl⟩
  case round =>
    obtain ⟨k, hk, rfl, rfl⟩ := hrel
    by_cases hlt : k < s.size
    · have H : Hid (numL s.data.toList 0 (k + 1) = 256 * numL s.data.toList 0 k + s[k].toNat) := by
        show 256 * numL s.data.toList 0 k + byteL s.data.toList (0 + k) = _
        rw [Nat.zero_add, byteL_in s k hlt]
      have hV := numL_le5 s.data.toList 0 k (by omega)
      generalize numL s.data.toList 0 k = V at hV H
      have e1 : IntKind.i64.wrap ((V : Int) * 256) = (V : Int) * 256 := IntWalk.i64_in _ (by omega)
      have e2 := wrap_byte
      have e4 := or_byteI (V : Int) (by omega) (by omega)
      go_wp2
      go_round
      case rel => exact ⟨k + 1, by omega, by rw [H.out]; go_num, by go_num⟩
      case measure => simp [intOf]; omega
    · obtain rfl : k = s.size := by omega
      go_wp2
      go_ret
      exact ⟨rfl, rfl⟩

/-- the number of size bytes at i -/
theorem numL_ext (s : ByteArray) (i size : Nat) (h : i + size ≤ s.size) : numL (s.extract i (i + size)).data.toList 0 (s.extract i (i + size)).size = numL s.data.toList i size := by
  rw [ext_list s i (i + size) h, numL_drop, Nat.add_zero]
  have : (s.extract i (i + size)).size = size := by simp; omega
  rw [this, numL_take _ _ _ _ (Nat.le_refl _)]

set_option maxHeartbeats 2000000 in
theorem Numbers_ok (s : ByteArray) (n size : Nat) (m : Int) (w : World) (hs : s.size ≤ maxLen) (hn : n ≤ 1048576) (hsz : 1 ≤ size) (hsz2 : size ≤ 5) (hok : okL s.data.toList n size m = true) :
    Calls Tryz.prog 89 #[.string s, .int .i64 size, .int .i64 n, .int .i64 m] w fun e w' => ∃ v, e = .returned (.tuple #[v, .bool true]) ∧ OwnI w' w.heap.size v (numsL s.data.toList size n) ∧ Up w w' := by
  obtain ⟨h1, h2⟩ := (okL_iff _ _ _ _).1 hok
  have hlen : s.size = n * size := by simpa using h1
  have hb3 : s.size ≤ 5242880 := by rw [hlen]; exact Nat.mul_le_mul hn hsz2
  have HM : Hid _ := h2
  have hd0 : ((size : Int) == 0) = false := beq_eq_false_iff_ne.2 (by omega)
  have hd1 : ¬ (size : Int) = 0 := by omega
  have hd2 : ¬ size = 0 := by omega
  have hl1 : (s.size : Int).tmod (size : Int) = 0 := by
    rw [Int.tmod_eq_emod_of_nonneg (by omega), hlen, Int.natCast_mul]; simp
  have hl2 : IntKind.i64.wrap ((s.size : Int).tdiv (size : Int)) = (n : Int) := by
    rw [Int.tdiv_eq_ediv_of_nonneg (by omega), hlen, Int.natCast_mul, Int.mul_ediv_cancel _ (by omega)]
    exact IntWalk.i64_in _ (by omega)
  have hl3 : (s.size : Int) % (size : Int) = 0 := by rw [hlen, Int.natCast_mul]; simp
  have hl4 : (s.size : Int) / (size : Int) = (n : Int) := by rw [hlen, Int.natCast_mul, Int.mul_ediv_cancel _ (by omega)]
  have HL : Hid _ := hlen
  clear h1 h2 hok hlen
  go_enter Tryz.func89, Tryz.ntmps89
  go_wp2
  go_loopw [10, 11] (fun v j wr => ∃ k i : Nat, k ≤ n ∧ Hid (i = k * size) ∧ i ≤ s.size ∧ j = .int .i64 (i : Int) ∧ OwnI wr w.heap.size v (numsL s.data.toList size k) ∧ Up w wr) (fun _ j _ => s.size - (intOf j).toNat)
  case atStart => exact ⟨0, 0, Nat.zero_le _, (Nat.zero_mul _).symm, Nat.zero_le _, rfl, World.ownsRow_nil _ _ _ _, Up.refl _⟩
  case round =>
    obtain ⟨k, i, hk, HI, his, rfl, hown, hu⟩ := hrel
    by_cases hlt : k < n
    · have hlt2 := HM.out k hlt
      have hi2 : i + size ≤ s.size := by
        rw [HL.out, HI.out, ← Nat.succ_mul]
        exact Nat.mul_le_mul_right _ hlt
      have HN : Hid _ := numL_ext s i size hi2
      have HS : Hid (numsL s.data.toList size (k + 1) = numsL s.data.toList size k ++ [(numL s.data.toList i size : Int)]) := by rw [HI.out]; rfl
      rw [← HI.out] at hlt2
      have hb0 : (i : Int) ≤ (s.size : Int) - (size : Int) := by omega
      have hx : (s.extract i (i + size)).size ≤ 5 := by simp; omega
      have hc1 : (0 : Int) ≤ (i : Int) := by omega
      have hc2 : (i : Int) ≤ (i : Int) + (size : Int) := by omega
      have hc3 : (i : Int) + (size : Int) ≤ (s.size : Int) := by omega
      have ec : ((i : Int) + (size : Int)).toNat = i + size := by omega
      go_wp2_with fail
      refine (textNumber_calls (s.extract i (i + size)) _ hx).mono ?_
      rintro e w' ⟨rfl, rfl⟩
      rw [HN.out]
      generalize numL s.data.toList i size = V at hlt2 HS
      go_wp2_with (at_builtin; refine append_int _ _ rfl _ _ rfl _ _ _ rfl hown rfl (by rw [numsL_length]; omega) hu.size ?_)
      intro v1 w1 hown1 hg1 hb1 _
      clear hown
      go_wp2
      go_roundw
      case rel => exact ⟨k + 1, i + size, by omega, (by rw [HI.out]; exact (Nat.succ_mul _ _).symm), hi2, by go_num, by rw [HS.out]; exact hown1, Below.trans hu hb1⟩
      case measure => simp [intOf]; omega
    · obtain rfl : k = n := by omega
      have e : i = s.size := by rw [HI.out, HL.out]
      subst e
      have hb1 : ¬ (s.size : Int) ≤ (s.size : Int) - (size : Int) := by omega
      go_wp2
      go_ret2
      exact ⟨_, rfl, hown, hu⟩

set_option maxHeartbeats 2000000 in
theorem Numbers_no (s : ByteArray) (n size : Nat) (m : Int) (w : World) (hs : s.size ≤ maxLen) (hn : n ≤ 1048576) (hsz : 1 ≤ size) (hsz2 : size ≤ 5) (hok : okL s.data.toList n size m = false) :
    Calls Tryz.prog 89 #[.string s, .int .i64 size, .int .i64 n, .int .i64 m] w fun e w' => e = .returned (.tuple #[.slice none 0 0, .bool false]) ∧ Up w w' := by
  have hs2 : (s.size : Int) ≤ 9223372036854775807 := by unfold maxLen at hs; omega
  have hd0 : ((size : Int) == 0) = false := beq_eq_false_iff_ne.2 (by omega)
  have hd1 : ¬ (size : Int) = 0 := by omega
  have hd2 : ¬ size = 0 := by omega
  have hq0 : (s.size : Int) / (size : Int) ≤ s.size := Int.ediv_le_self _ (by omega)
  have hq1 : 0 ≤ (s.size : Int) / (size : Int) := Int.ediv_nonneg (by omega) (by omega)
  by_cases hlen : s.size = n * size
  · have HM : Hid (¬ ∀ i, i < n → (numL s.data.toList (i * size) size : Int) < m) := by
      intro c
      rw [(okL_iff _ _ _ _).2 ⟨by simpa using hlen, c⟩] at hok
      exact absurd hok (by decide)
    have hb3 : s.size ≤ 5242880 := by rw [hlen]; exact Nat.mul_le_mul hn hsz2
    have hl1 : (s.size : Int).tmod (size : Int) = 0 := by
      rw [Int.tmod_eq_emod_of_nonneg (by omega), hlen, Int.natCast_mul]; simp
    have hl2 : IntKind.i64.wrap ((s.size : Int).tdiv (size : Int)) = (n : Int) := by
      rw [Int.tdiv_eq_ediv_of_nonneg (by omega), hlen, Int.natCast_mul, Int.mul_ediv_cancel _ (by omega)]
      exact IntWalk.i64_in _ (by omega)
    have hl3 : (s.size : Int) % (size : Int) = 0 := by rw [hlen, Int.natCast_mul]; simp
    have hl4 : (s.size : Int) / (size : Int) = (n : Int) := by rw [hlen, Int.natCast_mul, Int.mul_ediv_cancel _ (by omega)]
    have HL : Hid _ := hlen
    clear hok hlen
    go_enter Tryz.func89, Tryz.ntmps89
    go_wp2
    go_loopw [10, 11] (fun v j wr => ∃ k i : Nat, k ≤ n ∧ Hid (i = k * size) ∧ i ≤ s.size ∧ j = .int .i64 (i : Int) ∧ OwnI wr w.heap.size v (numsL s.data.toList size k) ∧ Up w wr ∧ Hid (∀ i, i < k → (numL s.data.toList (i * size) size : Int) < m)) (fun _ j _ => s.size - (intOf j).toNat)
    case atStart => exact ⟨0, 0, Nat.zero_le _, (Nat.zero_mul _).symm, Nat.zero_le _, rfl, World.ownsRow_nil _ _ _ _, Up.refl _, fun i hi => by omega⟩
    case round =>
      obtain ⟨k, i, hk, HI, his, rfl, hown, hu, hall⟩ := hrel
      have hlt : k < n := by
        rcases Nat.lt_or_ge k n with h | h
        · exact h
        · exact absurd (fun i hi => hall.out i (by omega)) HM.out
      have hi2 : i + size ≤ s.size := by
        rw [HL.out, HI.out, ← Nat.succ_mul]
        exact Nat.mul_le_mul_right _ hlt
      have HN : Hid _ := numL_ext s i size hi2
      have HS : Hid (numsL s.data.toList size (k + 1) = numsL s.data.toList size k ++ [(numL s.data.toList i size : Int)]) := by rw [HI.out]; rfl
      have HW : Hid ((numL s.data.toList i size : Int) < m → (numL s.data.toList (k * size) size : Int) < m) := by intro h; rw [← HI.out]; exact h
      have hb0 : (i : Int) ≤ (s.size : Int) - (size : Int) := by omega
      have hx : (s.extract i (i + size)).size ≤ 5 := by simp; omega
      have hc1 : (0 : Int) ≤ (i : Int) := by omega
      have hc2 : (i : Int) ≤ (i : Int) + (size : Int) := by omega
      have hc3 : (i : Int) + (size : Int) ≤ (s.size : Int) := by omega
      have ec : ((i : Int) + (size : Int)).toNat = i + size := by omega
      go_wp2_with fail
      refine (textNumber_calls (s.extract i (i + size)) _ hx).mono ?_
      rintro e w' ⟨rfl, rfl⟩
      rw [HN.out]
      generalize numL s.data.toList i size = V at HS HW
      by_cases hlt2 : (V : Int) < m
      · go_wp2_with (at_builtin; refine append_int _ _ rfl _ _ rfl _ _ _ rfl hown rfl (by rw [numsL_length]; omega) hu.size ?_)
        intro v1 w1 hown1 hg1 hb1 _
        clear hown
        go_wp2
        go_roundw
        case rel => exact ⟨k + 1, i + size, by omega, (by rw [HI.out]; exact (Nat.succ_mul _ _).symm), hi2, by go_num, by rw [HS.out]; exact hown1, Below.trans hu hb1, fun i hi => by
          by_cases e : i = k
          · subst e; exact HW.out hlt2
          · exact hall.out i (by omega)⟩
        case measure => simp [intOf]; omega
      · go_wp2_with fail
        go_ret2
        exact ⟨rfl, hu⟩
  · clear hok
    by_cases hev : (s.size : Int) % (size : Int) = 0
    · have hl1 : (s.size : Int).tmod (size : Int) = 0 := by rw [Int.tmod_eq_emod_of_nonneg (by omega)]; exact hev
      have hl2 : IntKind.i64.wrap ((s.size : Int).tdiv (size : Int)) = (s.size : Int) / (size : Int) := by
        rw [Int.tdiv_eq_ediv_of_nonneg (by omega)]
        exact IntWalk.i64_in _ (by omega)
      have hl4 : ((s.size : Int) / (size : Int) != (n : Int)) = true := by
        rw [bne_iff_ne]
        intro c
        have h := Int.mul_ediv_add_emod (s.size : Int) (size : Int)
        rw [hev, c, Int.add_zero, ← Int.natCast_mul, Nat.mul_comm] at h
        omega
      clear hlen
      go_enter Tryz.func89, Tryz.ntmps89
      go_wp2
      go_ret2
      exact ⟨rfl, Up.refl _⟩
    · have hl0 : (s.size : Int).tmod (size : Int) = (s.size : Int) % (size : Int) := Int.tmod_eq_emod_of_nonneg (by omega)
      have hl1 : ((s.size : Int) % (size : Int) != 0) = true := by rw [bne_iff_ne]; exact hev
      clear hlen hev
      go_enter Tryz.func89, Tryz.ntmps89
      go_wp2
      go_ret2
      exact ⟨rfl, Up.refl _⟩

end Go.Proofs.YtcjhgbljhpflfabGreat
