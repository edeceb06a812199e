/-
  Laws: what each law begins with (open); both Encrypts, both Decrypts, both Bounds.
-/
import Derived.Test.YtcjhgbljhpflfabCodeL
import Derived.Test.YtcjhgbljhpflfabWalksRk
namespace Go.Proofs.Ytcjhgbljhpflfab
open Go.RowKit
set_option linter.unusedVariables false
set_option maxRecDepth 100000

/-- two functions that answer the same text and the same number -/
structure BothG (A : Array Value) (f r : Nat) : Prop where
  ans : ∃ (x : ByteArray) (k : Int), (∀ w, Calls Try.prog f A w fun e w' => e = .returned (.tuple #[.string x, .int .i64 k]) ∧ Up w w') ∧
    (∀ w, Calls Try.prog r A w fun e w' => e = .returned (.tuple #[.string x, .int .i64 k]) ∧ Up w w')

theorem ntEx : NT 4 17 := ⟨by decide, by decide, by decide, by decide⟩

theorem enc_example (w : World) : Calls Try.prog 37 #[.agg #[.int .i64 4, .int .i64 17, .int .i64 1000003, .int .i64 4], .string ⟨#[75, 0, 1, 2, 0]⟩, .string ⟨#[0, 1, 0, 1, 0, 1, 0, 1]⟩, .string ⟨#[]⟩] w fun e w' => e = .returned (.tuple #[.string ⟨#[67, 0, 0, 0, 0, 2, 0, 0, 229, 197, 0, 15, 66, 65, 0, 15, 66, 65, 0, 15, 66, 65, 0, 0, 0, 0, 0, 0, 0, 0, 0, 0, 0, 0, 0, 0, 0, 0]⟩, .int .i64 0]) ∧ Up w w' := by
  have h := Encrypt_ok 4 17 1000003 4 ⟨#[75, 0, 1, 2, 0]⟩ ⟨#[0, 1, 0, 1, 0, 1, 0, 1]⟩ ⟨#[]⟩ w (by decide) (by decide) (by decide) ntEx (by decide) (by decide) (by decide) (by decide +kernel) (by decide +kernel)
  have e : hideL 4 17 1000003 [75, 0, 1, 2, 0] [0, 1, 0, 1, 0, 1, 0, 1] [] = [67, 0, 0, 0, 0, 2, 0, 0, 229, 197, 0, 15, 66, 65, 0, 15, 66, 65, 0, 15, 66, 65, 0, 0, 0, 0, 0, 0, 0, 0, 0, 0, 0, 0, 0, 0, 0, 0] := by decide +kernel
  rw [show (⟨#[75, 0, 1, 2, 0]⟩ : ByteArray).data.toList = [75, 0, 1, 2, 0] from rfl, show (⟨#[0, 1, 0, 1, 0, 1, 0, 1]⟩ : ByteArray).data.toList = [0, 1, 0, 1, 0, 1, 0, 1] from rfl, show (⟨#[]⟩ : ByteArray).data.toList = [] from rfl, e] at h
  exact h

theorem decr_example (w : World) : Calls Try.prog 50 #[.agg #[.int .i64 4, .int .i64 17, .int .i64 1000003, .int .i64 4], .string ⟨#[75, 0, 1, 2, 0]⟩, .string ⟨#[67, 0, 0, 0, 0, 2, 0, 0, 229, 197, 0, 15, 66, 65, 0, 15, 66, 65, 0, 15, 66, 65, 0, 0, 0, 0, 0, 0, 0, 0, 0, 0, 0, 0, 0, 0, 0, 0]⟩] w fun e w' => e = .returned (.tuple #[.string ⟨#[0, 1, 0, 1, 0, 1, 0, 1]⟩, .int .i64 0]) ∧ Up w w' := by
  have h := Decrypt_ok 4 17 1000003 4 ⟨#[75, 0, 1, 2, 0]⟩ ⟨#[67, 0, 0, 0, 0, 2, 0, 0, 229, 197, 0, 15, 66, 65, 0, 15, 66, 65, 0, 15, 66, 65, 0, 0, 0, 0, 0, 0, 0, 0, 0, 0, 0, 0, 0, 0, 0, 0]⟩ w (by decide) (by decide) ntEx (by decide) (by decide) (by decide) (by decide +kernel) (by decide +kernel)
  have e : openL 4 17 1000003 [75, 0, 1, 2, 0] [67, 0, 0, 0, 0, 2, 0, 0, 229, 197, 0, 15, 66, 65, 0, 15, 66, 65, 0, 15, 66, 65, 0, 0, 0, 0, 0, 0, 0, 0, 0, 0, 0, 0, 0, 0, 0, 0] = [0, 1, 0, 1, 0, 1, 0, 1] := by decide +kernel
  rw [show (⟨#[75, 0, 1, 2, 0]⟩ : ByteArray).data.toList = [75, 0, 1, 2, 0] from rfl, show (⟨#[67, 0, 0, 0, 0, 2, 0, 0, 229, 197, 0, 15, 66, 65, 0, 15, 66, 65, 0, 15, 66, 65, 0, 0, 0, 0, 0, 0, 0, 0, 0, 0, 0, 0, 0, 0, 0, 0]⟩ : ByteArray).data.toList = [67, 0, 0, 0, 0, 2, 0, 0, 229, 197, 0, 15, 66, 65, 0, 15, 66, 65, 0, 15, 66, 65, 0, 0, 0, 0, 0, 0, 0, 0, 0, 0, 0, 0, 0, 0, 0, 0] from rfl, e] at h
  exact h

set_option maxHeartbeats 1000000 in
theorem open_calls (w : World) : Calls Try.prog 26 #[] w fun e w' => e = .returned (.bool true) ∧ Up w w' := by
  go_enter Try.func26, Try.ntmps26
  go_wp2_with fail
  refine (example_calls _).mono ?_
  rintro e w1 ⟨rfl, hu1⟩
  go_wp2_with fail
  refine (enc_example _).mono ?_
  rintro e w2 ⟨rfl, hu2⟩
  replace hu2 := hu1.trans hu2
  clear hu1
  go_wp2_with fail
  refine (example_calls _).mono ?_
  rintro e w3 ⟨rfl, hu3⟩
  go_wp2_with fail
  refine (decr_example _).mono ?_
  rintro e w4 ⟨rfl, hu4⟩
  go_wp2_with fail
  go_ret
  exact ⟨rfl, (hu2.trans hu3).trans hu4⟩

end Go.Proofs.Ytcjhgbljhpflfab
