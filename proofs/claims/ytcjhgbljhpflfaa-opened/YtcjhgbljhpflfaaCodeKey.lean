/-
  Walks: the program's Key.
-/
import Derived.Test.YtcjhgbljhpflfaaCodeK
import Derived.Test.YtcjhgbljhpflfaaCodeP
import Derived.Test.YtcjhgbljhpflfaaWalksRa
namespace Go.Proofs.Ytcjhgbljhpflfaa
open Go.RowKit
set_option linter.unusedVariables false
set_option maxRecDepth 100000

set_option maxHeartbeats 1000000 in
theorem Make_calls (n : Nat) (d : ByteArray) (w : World) (hd : d.size ≤ maxLen) (hn : n ≤ 16) :
    Calls Try.prog 66 #[.int .i64 n, .string d] w fun e w' => e = .returned (.string ⟨(keyL d.data.toList n).toArray⟩) ∧ Up w w' := by
  have HM : Hid (OwnB (w.alloc (.cells #[.int .u8 75] 5)) w.heap.size (.slice (some ⟨w.heap.size, 0, none⟩) 1 1) (keyL d.data.toList 0)) :=
    World.ownsRow_lit (base := w.heap.size) (e := 5) (size := 1) w #[.int .u8 75] 1 (Nat.le_refl _) (by decide) rfl
  go_enter Try.func66, Try.ntmps66
  go_wp2_with fail
  go_loopw [5, 6] (fun v j wr => ∃ k : Nat, k ≤ n ∧ j = .int .i64 (k : Int) ∧ OwnB wr w.heap.size v (keyL d.data.toList k) ∧ Up w wr) (fun _ j _ => n - (intOf j).toNat)
  case atStart => exact ⟨0, Nat.zero_le _, rfl, HM.out, (Up.refl _).alloc _⟩
  case round =>
    obtain ⟨k, hk, rfl, hown, hu⟩ := hrel
    by_cases hlt : k < n
    · have hb := byteL_lt d.data.toList k
      have H : Hid _ := keyL_succ d.data.toList k
      have hlen : (keyL d.data.toList k).length ≤ 20 := by rw [keyL_length]; omega
      go_wp2_with fail
      refine (drawByte_calls _ _ _ hd (by omega)).mono ?_
      rintro e w' ⟨rfl, rfl⟩
      rw [Int.toNat_natCast]
      generalize byteL d.data.toList k = x at hb H
      have HX : Hid (((x : Int) % 3).toNat = x % 3) := show ((x : Int) % 3).toNat = x % 3 by omega
      go_wp2_with (at_builtin; refine append_byte _ _ rfl (.tmp 17) (.tmp 21) rfl _ _ _ rfl hown rfl (by omega) hu.size (by omega) ?_)
      intro v1 w1 hown1 hb1
      rw [HX.out] at hown1
      clear hown
      go_wp2_with fail
      go_roundw
      case rel => exact ⟨k + 1, by omega, by go_num, by rw [H.out]; exact hown1, Below.trans hu hb1⟩
      case measure => simp [intOf]; omega
    · obtain rfl : k = n := by omega
      have hconv := conv_own wr _ _ _ hown
      go_wp2_with fail
      go_ret
      exact ⟨rfl, hu⟩

set_option maxHeartbeats 400000 in
theorem Key_ok (n : Nat) (t q b : Int) (d : ByteArray) (w : World) (hd : d.size ≤ maxLen) (hn : n ≤ 16) (hg : goodB n t q b = true) :
    Calls Try.prog 24 #[.agg #[.int .i64 n, .int .i64 t, .int .i64 q, .int .i64 b], .string d] w fun e w' => e = .returned (.tuple #[.string ⟨(keyL d.data.toList n).toArray⟩, .int .i64 0]) ∧ Up w w' := by
  go_enter Try.func24, Try.ntmps24
  go_wp2_with fail
  refine (Good_calls _ _ _ _ _).mono ?_
  rintro e w1 ⟨rfl, hu1⟩
  obtain ⟨hc, hf⟩ := bcell hu1
  go_wp2_with fail
  refine (Make_calls n d _ hd hn).mono ?_
  rintro e w2 ⟨rfl, hu2⟩
  go_wp2_with fail
  go_ret2
  exact ⟨rfl, (((Up.refl _).alloc _).trans hu1).trans hu2⟩

set_option maxHeartbeats 400000 in
theorem Key_bad (n t q b : Int) (d : ByteArray) (w : World) (hg : goodB n t q b = false) :
    Calls Try.prog 24 #[.agg #[.int .i64 n, .int .i64 t, .int .i64 q, .int .i64 b], .string d] w fun e w' => e = .returned (.tuple #[.string ⟨#[]⟩, .int .i64 1]) ∧ Up w w' := by
  go_enter Try.func24, Try.ntmps24
  go_wp2_with (go_at_call 56; refine (Good_calls _ _ _ _ _).mono ?_; rintro e w' ⟨rfl, hu⟩)
  go_ret2
  exact ⟨rfl, ((Up.refl _).alloc _).trans hu⟩

end Go.Proofs.Ytcjhgbljhpflfaa
