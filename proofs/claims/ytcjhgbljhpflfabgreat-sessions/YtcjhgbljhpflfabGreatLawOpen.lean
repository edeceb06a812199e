/-
  Laws: what each law begins with (open); both Encrypts, both Decrypts, both Bounds.
-/
import Derived.Test.YtcjhgbljhpflfabGreatCodeL
import Derived.Test.YtcjhgbljhpflfabGreatWalksRk
namespace Go.Proofs.YtcjhgbljhpflfabGreat
open Go.RowKit
set_option linter.unusedVariables false
set_option maxRecDepth 100000

/-- two functions that answer the same text and the same number -/
structure BothG (A : Array Value) (f r : Nat) : Prop where
  ans : ∃ (x : ByteArray) (k : Int), (∀ w, Calls Tryz.prog f A w fun e w' => e = .returned (.tuple #[.string x, .int .i64 k]) ∧ Up w w') ∧
    (∀ w, Calls Tryz.prog r A w fun e w' => e = .returned (.tuple #[.string x, .int .i64 k]) ∧ Up w w')

theorem ntEx : NT 4 17 := ⟨by decide, by decide, by decide, by decide⟩

theorem enc_example (w : World) : Calls Tryz.prog 30 #[.agg #[.int .i64 4, .int .i64 17, .int .i64 1000003, .int .i64 4], .string ⟨#[75, 0, 1, 2, 0]⟩, .string ⟨#[0, 1, 0, 1, 0, 1, 0, 1]⟩, .string ⟨#[]⟩] w fun e w' => e = .returned (.tuple #[.string ⟨#[67, 0, 0, 0, 0, 2, 0, 0, 229, 197, 0, 15, 66, 65, 0, 15, 66, 65, 0, 15, 66, 65, 0, 0, 0, 0, 0, 0, 0, 0, 0, 0, 0, 0, 0, 0, 0, 0]⟩, .int .i64 0]) ∧ Up w w' := by
  have h := Encrypt_ok 4 17 1000003 4 ⟨#[75, 0, 1, 2, 0]⟩ ⟨#[0, 1, 0, 1, 0, 1, 0, 1]⟩ ⟨#[]⟩ w (by decide) (by decide) (by decide) ntEx (by decide) (by decide) (by decide) (by decide +kernel) (by decide +kernel)
  have e : hideL 4 17 1000003 [75, 0, 1, 2, 0] [0, 1, 0, 1, 0, 1, 0, 1] [] = [67, 0, 0, 0, 0, 2, 0, 0, 229, 197, 0, 15, 66, 65, 0, 15, 66, 65, 0, 15, 66, 65, 0, 0, 0, 0, 0, 0, 0, 0, 0, 0, 0, 0, 0, 0, 0, 0] := by decide +kernel
  rw [show (⟨#[75, 0, 1, 2, 0]⟩ : ByteArray).data.toList = [75, 0, 1, 2, 0] from rfl, show (⟨#[0, 1, 0, 1, 0, 1, 0, 1]⟩ : ByteArray).data.toList = [0, 1, 0, 1, 0, 1, 0, 1] from rfl, show (⟨#[]⟩ : ByteArray).data.toList = [] from rfl, e] at h
  exact h

theorem decr_example (w : World) : Calls Tryz.prog 32 #[.agg #[.int .i64 4, .int .i64 17, .int .i64 1000003, .int .i64 4], .string ⟨#[75, 0, 1, 2, 0]⟩, .string ⟨#[67, 0, 0, 0, 0, 2, 0, 0, 229, 197, 0, 15, 66, 65, 0, 15, 66, 65, 0, 15, 66, 65, 0, 0, 0, 0, 0, 0, 0, 0, 0, 0, 0, 0, 0, 0, 0, 0]⟩] w fun e w' => e = .returned (.tuple #[.string ⟨#[0, 1, 0, 1, 0, 1, 0, 1]⟩, .int .i64 0]) ∧ Up w w' := by
  have h := Decrypt_ok 4 17 1000003 4 ⟨#[75, 0, 1, 2, 0]⟩ ⟨#[67, 0, 0, 0, 0, 2, 0, 0, 229, 197, 0, 15, 66, 65, 0, 15, 66, 65, 0, 15, 66, 65, 0, 0, 0, 0, 0, 0, 0, 0, 0, 0, 0, 0, 0, 0, 0, 0]⟩ w (by decide) (by decide) ntEx (by decide) (by decide) (by decide) (by decide +kernel) (by decide +kernel)
  have e : openL 4 17 1000003 [75, 0, 1, 2, 0] [67, 0, 0, 0, 0, 2, 0, 0, 229, 197, 0, 15, 66, 65, 0, 15, 66, 65, 0, 15, 66, 65, 0, 0, 0, 0, 0, 0, 0, 0, 0, 0, 0, 0, 0, 0, 0, 0] = [0, 1, 0, 1, 0, 1, 0, 1] := by decide +kernel
  rw [show (⟨#[75, 0, 1, 2, 0]⟩ : ByteArray).data.toList = [75, 0, 1, 2, 0] from rfl, show (⟨#[67, 0, 0, 0, 0, 2, 0, 0, 229, 197, 0, 15, 66, 65, 0, 15, 66, 65, 0, 15, 66, 65, 0, 0, 0, 0, 0, 0, 0, 0, 0, 0, 0, 0, 0, 0, 0, 0]⟩ : ByteArray).data.toList = [67, 0, 0, 0, 0, 2, 0, 0, 229, 197, 0, 15, 66, 65, 0, 15, 66, 65, 0, 15, 66, 65, 0, 0, 0, 0, 0, 0, 0, 0, 0, 0, 0, 0, 0, 0, 0, 0] from rfl, e] at h
  exact h

set_option maxHeartbeats 1000000 in
theorem open_calls (w : World) : Calls Tryz.prog 6 #[] w fun e w' => e = .returned (.bool true) ∧ Up w w' := by
  go_enter Tryz.func6, Tryz.ntmps6
  go_wp2_with fail
  refine (example_calls _).mono ?_
  rintro e w1 ⟨rfl, hu1⟩
  go_wp2_with fail
  refine (enc_example _).mono ?_
  rintro e w2 ⟨rfl, hu2⟩
  replace hu2 := hu1.trans hu2
  clear hu1
  go_wp2_with fail
  refine (example_calls _).mono ?_
  rintro e w3 ⟨rfl, hu3⟩
  go_wp2_with fail
  refine (decr_example _).mono ?_
  rintro e w4 ⟨rfl, hu4⟩
  go_wp2_with fail
  go_ret
  exact ⟨rfl, (hu2.trans hu3).trans hu4⟩

theorem both_hide (n t q b : Int) (k v s : ByteArray) (hk : k.size ≤ maxLen) (hv : v.size ≤ maxLen) (hs : s.size ≤ maxLen) : BothG #[.agg #[.int .i64 n, .int .i64 t, .int .i64 q, .int .i64 b], .string k, .string v, .string s] 30 143 := by
  cases hg : goodB n t q b with
  | false => exact ⟨_, _, fun w => Encrypt_bad n t q b k v s w hg, fun w => refEncrypt_bad n t q b k v s w hg⟩
  | true =>
    obtain ⟨g, e1, e2, hq, hq2, _, _, hfit⟩ := goodB_NT hg
    generalize n.toNat = m at g e1
    generalize t.toNat = u at g e2
    subst e1 e2
    have hd := g.half
    cases hsec : secB k.data.toList m with
    | false => exact ⟨_, _, fun w => Encrypt_form m u q b k v s w hk (by omega) hg hsec, fun w => refEncrypt_form m u q b k v s w hk (by omega) hg hsec⟩
    | true =>
      cases hok : okL v.data.toList m 2 u with
      | false => exact ⟨_, _, fun w => Encrypt_val m u q b k v s w hk hv (by omega) (by omega) hg hsec hok, fun w => refEncrypt_val m u q b k v s w hk hv (by omega) (by omega) hg hsec hok⟩
      | true => exact ⟨_, _, fun w => Encrypt_ok m u q b k v s w hk hv hs g hq hq2 hg hsec hok, fun w => refEncrypt_ok m u q b k v s w hk hv hs g hq hq2 hg hfit hsec hok⟩

theorem both_open (n t q b : Int) (k c : ByteArray) (hk : k.size ≤ maxLen) (hc : c.size ≤ maxLen) : BothG #[.agg #[.int .i64 n, .int .i64 t, .int .i64 q, .int .i64 b], .string k, .string c] 32 144 := by
  cases hg : goodB n t q b with
  | false => exact ⟨_, _, fun w => Decrypt_bad n t q b k c w hg, fun w => refDecrypt_bad n t q b k c w hg⟩
  | true =>
    obtain ⟨g, e1, e2, hq, hq2, _, _, hfit⟩ := goodB_NT hg
    generalize n.toNat = m at g e1
    generalize t.toNat = u at g e2
    subst e1 e2
    have hd := g.half
    cases hsec : secB k.data.toList m with
    | false => exact ⟨_, _, fun w => Decrypt_key m u q b k c w hk (by omega) hg hsec, fun w => refDecrypt_key m u q b k c w hk (by omega) hg hsec⟩
    | true =>
      cases hct : ctB c.data.toList m u q with
      | false => exact ⟨_, _, fun w => Decrypt_form m u q b k c w hk hc g hq hq2 hg hsec hct, fun w => refDecrypt_form m u q b k c w hk hc g hq hq2 hg hsec hct⟩
      | true => exact ⟨_, _, fun w => Decrypt_ok m u q b k c w hk hc g hq hq2 hg hsec hct, fun w => refDecrypt_ok m u q b k c w hk hc g hq hq2 hg hsec hct⟩

end Go.Proofs.YtcjhgbljhpflfabGreat
