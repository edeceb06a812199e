/-
  Walks: the program's reading and writing of numbers.
-/
import Derived.Test.YtmijhpogigcofaaWalksS
namespace Go.Proofs.Ytmijhpogigcofaa
open Go.RowKit
set_option linter.unusedVariables false

theorem or_bytes (u v : UInt8) : bits .or .i64 ((u.toNat : Int) * 256) (v.toNat : Int) = (u.toNat : Int) * 256 + (v.toNat : Int) := by
  have hu := u.toNat_lt
  have hv := v.toNat_lt
  show IntKind.i64.wrap ((BitVec.ofInt 64 ((u.toNat : Int) * 256) ||| BitVec.ofInt 64 (v.toNat : Int)).toNat : Nat) = _
  have h1 : ((BitVec.ofInt 64 ((u.toNat : Int) * 256) ||| BitVec.ofInt 64 (v.toNat : Int)).toNat : Nat) = u.toNat * 256 + v.toNat := by
    rw [BitVec.toNat_or]
    have e1 : (BitVec.ofInt 64 ((u.toNat : Int) * 256)).toNat = u.toNat * 256 := by
      rw [BitVec.toNat_ofInt]; omega
    have e2 : (BitVec.ofInt 64 (v.toNat : Int)).toNat = v.toNat := by
      rw [BitVec.toNat_ofInt]; omega
    rw [e1, e2]
    have := Nat.two_pow_add_eq_or_of_lt (i := 8) (b := v.toNat) (by omega) u.toNat
    rw [show (2 : Nat) ^ 8 = 256 from by decide] at this
    rw [Nat.mul_comm] at this
    rw [← this]
  rw [h1, IntWalk.i64_in _ (by omega)]
  simp

theorem numL_two (s : ByteArray) (k : Nat) (h : k * 2 + 1 < s.size) : (numL s.data.toList (k * 2) 2 : Int) = ((s[k * 2]'(by omega)).toNat : Int) * 256 + ((s[k * 2 + 1]'h).toNat : Int) := by
  simp only [numL]
  rw [Nat.add_zero, byteL_in s (k * 2) (by omega), byteL_in s (k * 2 + 1) h]
  omega

set_option maxHeartbeats 1000000 in
theorem Numbers_ok (s : ByteArray) (n : Nat) (m : Int) (w : World) (hs : s.size ≤ maxLen) (hn : n ≤ 1048576) (hok : okL s.data.toList n 2 m = true) :
    Calls Try.prog 21 #[.string s, .int .i64 n, .int .i64 m] w fun e w' => ∃ v, e = .returned (.tuple #[v, .bool true]) ∧ OwnI w' w.heap.size v (numsL s.data.toList 2 n) ∧ Up w w' := by
  obtain ⟨h1, h2⟩ := (okL_iff _ _ _ _).1 hok
  have hlen : s.size = n * 2 := by simpa using h1
  have HM : Hid _ := h2
  have hl1 : ((s.size : Int) % 2 != 0) = false := by simp; omega
  have hl2 : ((s.size : Int) / 2 != (n : Int)) = false := by simp; omega
  have HL : Hid _ := hlen
  have hb3 : (s.size : Int) ≤ 2097152 := by omega
  have hn0 : decide ((n : Int) < 0) = false := by simp
  clear h1 h2 hok hlen
  go_enter Try.func21, Try.ntmps21
  go_wp2
  go_loopw [8, 9] (fun v j wr => ∃ k : Nat, k ≤ n ∧ j = .int .i64 ((k * 2 : Nat) : Int) ∧ OwnI wr w.heap.size v (numsL s.data.toList 2 k) ∧ Up w wr) (fun _ j _ => n * 2 - (intOf j).toNat)
  case atStart => exact ⟨0, Nat.zero_le _, rfl, World.ownsRow_nil _ _ _ _, Up.refl _⟩
  case round =>
    obtain ⟨k, hk, rfl, hown, hu⟩ := hrel
    by_cases hlt : k < n
    · have hlt2 := HM.out k hlt
      have hb0 : (0 : Int) ≤ (k : Int) * 2 := by omega
      have hb1 : (k : Int) * 2 < (s.size : Int) := by have := HL.out; omega
      have hb2 : (k : Int) * 2 + 1 < (s.size : Int) := by have := HL.out; omega
      have hb4 : (0 : Int) ≤ (k : Int) * 2 + 1 := by omega
      have e1 : IntKind.i64.wrap ((k : Int) * 2 + 1) = (k : Int) * 2 + 1 := IntWalk.i64_in _ (by omega)
      have e2 : ∀ u : UInt8, IntKind.i64.wrap (u.toNat : Int) = (u.toNat : Int) := fun u => IntWalk.i64_in _ (by have := u.toNat_lt; omega)
      have e3 : ∀ u : UInt8, IntKind.i64.wrap ((u.toNat : Int) * 256) = (u.toNat : Int) * 256 := fun u => IntWalk.i64_in _ (by have := u.toNat_lt; omega)
      have e4 := or_bytes
      have H2 : Hid _ := numL_two s k (by have := HL.out; omega)
      have hlt3 : ((s[k * 2]'(by have := HL.out; omega)).toNat : Int) * 256 + ((s[k * 2 + 1]'(by have := HL.out; omega)).toNat : Int) < m := by rw [← H2.out]; exact hlt2
      go_wp2_with fail
      go_quiet (fail)
      clear e1 e2 e3 e4
      go_wp2_with (at_builtin; refine append_int _ _ rfl _ _ rfl _ _ _ rfl (hown.up (Up.refl _).drewN) rfl (by rw [numsL_length]; omega) hu.size ?_)

      intro v1 w1 hown1 hg1 hb1 _
      clear hown
      go_wp2
      go_roundw
      case rel => exact ⟨k + 1, by omega, by go_num, by simp only [numsL]; rw [H2.out]; exact hown1, Below.trans (Up.drewN hu) hb1⟩
      case measure => simp [intOf]; omega
    · have hb1 : (s.size : Int) ≤ (k : Int) * 2 + 1 := by have := HL.out; omega
      obtain rfl : k = n := by omega
      go_wp2
      go_ret2
      exact ⟨_, rfl, hown, hu⟩

set_option maxHeartbeats 1000000 in
theorem Numbers_no (s : ByteArray) (n : Nat) (m : Int) (w : World) (hs : s.size ≤ maxLen) (hn : n ≤ 1048576) (hok : okL s.data.toList n 2 m = false) :
    Calls Try.prog 21 #[.string s, .int .i64 n, .int .i64 m] w fun e w' => e = .returned (.tuple #[.slice none 0 0, .bool false]) ∧ Up w w' := by
  have hn0 : decide ((n : Int) < 0) = false := by simp
  by_cases hlen : s.size = n * 2
  · have HM : Hid (¬ ∀ i, i < n → (numL s.data.toList (i * 2) 2 : Int) < m) := by
      intro c
      rw [(okL_iff _ _ _ _).2 ⟨by simpa using hlen, c⟩] at hok
      exact absurd hok (by decide)
    have hl1 : ((s.size : Int) % 2 != 0) = false := by simp; omega
    have hl2 : ((s.size : Int) / 2 != (n : Int)) = false := by simp; omega
    have HL : Hid _ := hlen
    have hb3 : (s.size : Int) ≤ 2097152 := by omega
    clear hok hlen
    go_enter Try.func21, Try.ntmps21
    go_wp2
    go_loopw [8, 9] (fun v j wr => ∃ k : Nat, k ≤ n ∧ j = .int .i64 ((k * 2 : Nat) : Int) ∧ OwnI wr w.heap.size v (numsL s.data.toList 2 k) ∧ Up w wr ∧ Hid (∀ i, i < k → (numL s.data.toList (i * 2) 2 : Int) < m)) (fun _ j _ => n * 2 - (intOf j).toNat)
    case atStart => exact ⟨0, Nat.zero_le _, rfl, World.ownsRow_nil _ _ _ _, Up.refl _, fun i hi => by omega⟩
    case round =>
      obtain ⟨k, hk, rfl, hown, hu, hall⟩ := hrel
      have hlt : k < n := by
        rcases Nat.lt_or_ge k n with h | h
        · exact h
        · exact absurd (fun i hi => hall.out i (by omega)) HM.out
      have hb0 : (0 : Int) ≤ (k : Int) * 2 := by omega
      have hb1 : (k : Int) * 2 < (s.size : Int) := by have := HL.out; omega
      have hb2 : (k : Int) * 2 + 1 < (s.size : Int) := by have := HL.out; omega
      have hb4 : (0 : Int) ≤ (k : Int) * 2 + 1 := by omega
      have e1 : IntKind.i64.wrap ((k : Int) * 2 + 1) = (k : Int) * 2 + 1 := IntWalk.i64_in _ (by omega)
      have e2 : ∀ u : UInt8, IntKind.i64.wrap (u.toNat : Int) = (u.toNat : Int) := fun u => IntWalk.i64_in _ (by have := u.toNat_lt; omega)
      have e3 : ∀ u : UInt8, IntKind.i64.wrap ((u.toNat : Int) * 256) = (u.toNat : Int) * 256 := fun u => IntWalk.i64_in _ (by have := u.toNat_lt; omega)
      have e4 := or_bytes
      have H2 : Hid _ := numL_two s k (by have := HL.out; omega)
      by_cases hlt2 : (numL s.data.toList (k * 2) 2 : Int) < m
      · have hlt3 : ((s[k * 2]'(by have := HL.out; omega)).toNat : Int) * 256 + ((s[k * 2 + 1]'(by have := HL.out; omega)).toNat : Int) < m := by rw [← H2.out]; exact hlt2
        go_wp2_with fail
        go_quiet (fail)
        clear e1 e2 e3 e4
        go_wp2_with (at_builtin; refine append_int _ _ rfl _ _ rfl _ _ _ rfl (hown.up (Up.refl _).drewN) rfl (by rw [numsL_length]; omega) hu.size ?_)
        intro v1 w1 hown1 hg1 hb1 _
        clear hown
        go_wp2
        go_roundw
        case rel => exact ⟨k + 1, by omega, by go_num, by simp only [numsL]; rw [H2.out]; exact hown1, Below.trans (Up.drewN hu) hb1, fun i hi => by
          by_cases e : i = k
          · subst e; exact hlt2
          · exact hall.out i (by omega)⟩
        case measure => simp [intOf]; omega
      · have hlt3 : ¬ ((s[k * 2]'(by have := HL.out; omega)).toNat : Int) * 256 + ((s[k * 2 + 1]'(by have := HL.out; omega)).toNat : Int) < m := by rw [← H2.out]; exact hlt2
        go_wp2_with fail
        go_quiet (fail)
        clear e1 e2 e3 e4
        go_wp2_with fail
        go_ret2
        exact ⟨rfl, Up.drewN hu⟩
  · have hs2 : (s.size : Int) ≤ 9223372036854775807 := by unfold maxLen at hs; omega
    by_cases hev : s.size % 2 = 0
    · have hl1 : ((s.size : Int) % 2 != 0) = false := by simp; omega
      have hl2 : ((s.size : Int) / 2 != (n : Int)) = true := by rw [bne_iff_ne]; omega
      clear hlen hok hev
      go_enter Try.func21, Try.ntmps21
      go_wp2
      go_ret2
      exact ⟨rfl, Up.refl _⟩
    · have hl1 : ((s.size : Int) % 2 != 0) = true := by rw [bne_iff_ne]; omega
      clear hlen hok hev
      go_enter Try.func21, Try.ntmps21
      go_wp2
      go_ret2
      exact ⟨rfl, Up.refl _⟩

end Go.Proofs.Ytmijhpogigcofaa
