/-
  The statement Slots.
-/
import Derived.Test.YtcjhgbljhpflfaaCodeF
namespace Go.Proofs.Ytcjhgbljhpflfaa
open Go.RowKit
set_option linter.unusedVariables false

/-- what both Decodes answer, and what both Encodes answer -/
structure Both (n t q b : Int) (s : ByteArray) (f r : Nat) : Prop where
  ans : ∃ (x : ByteArray) (k : Int), (∀ w, Calls Try.prog f #[.agg #[.int .i64 n, .int .i64 t, .int .i64 q, .int .i64 b], .string s] w fun e w' => e = .returned (.tuple #[.string x, .int .i64 k]) ∧ Up w w') ∧
    (∀ w, Calls Try.prog r #[.agg #[.int .i64 n, .int .i64 t, .int .i64 q, .int .i64 b], .string s] w fun e w' => e = .returned (.tuple #[.string x, .int .i64 k]) ∧ Up w w')

theorem both_dec (n t q b : Int) (s : ByteArray) (hs : s.size ≤ maxLen) : Both n t q b s 20 21 := by
  cases hg : goodB n t q b with
  | false => exact ⟨_, _, fun w => Decode_bad n t q b s w hg, fun w => refDecode_bad n t q b s w hg⟩
  | true =>
    obtain ⟨g, e1, e2, _⟩ := goodB_NT hg
    generalize n.toNat = m at g e1
    generalize t.toNat = u at g e2
    subst e1 e2
    have hd := g.half
    cases hok : okL s.data.toList m 2 u with
    | false => exact ⟨_, _, fun w => Decode_val m u q b s w hs (by omega) hg hok, fun w => refDecode_val m u q b s w hs (by omega) hg hok⟩
    | true => exact ⟨_, _, fun w => Decode_ok m u q b s w hs g hg hok, fun w => refDecode_ok m u q b s w hs g hg hok⟩

theorem both_enc (n t q b : Int) (s : ByteArray) (hs : s.size ≤ maxLen) : Both n t q b s 22 23 := by
  cases hg : goodB n t q b with
  | false => exact ⟨_, _, fun w => Encode_bad n t q b s w hg, fun w => refEncode_bad n t q b s w hg⟩
  | true =>
    obtain ⟨g, e1, e2, _⟩ := goodB_NT hg
    generalize n.toNat = m at g e1
    generalize t.toNat = u at g e2
    subst e1 e2
    have hd := g.half
    cases hok : okL s.data.toList m 2 u with
    | false => exact ⟨_, _, fun w => Encode_val m u q b s w hs (by omega) hg hok, fun w => refEncode_val m u q b s w hs (by omega) hg hok⟩
    | true => exact ⟨_, _, fun w => Encode_ok m u q b s w hs g hg hok, fun w => refEncode_ok m u q b s w hs g hg hok⟩

theorem nt_example : NT 4 17 := ⟨by decide, by decide, by decide, by decide⟩

set_option maxRecDepth 10000 in
theorem dec_example (w : World) : Calls Try.prog 20 #[.agg #[.int .i64 4, .int .i64 17, .int .i64 1000003, .int .i64 4], .string ⟨#[0, 0, 0, 1, 0, 0, 0, 0]⟩] w fun e w' => e = .returned (.tuple #[.string ⟨#[0, 2, 0, 8, 0, 9, 0, 15]⟩, .int .i64 0]) ∧ Up w w' := by
  have h := Decode_ok 4 17 1000003 4 ⟨#[0, 0, 0, 1, 0, 0, 0, 0]⟩ w (by decide) nt_example (by decide) (by decide)
  have e : textsL 2 (decI 4 17 (numsL [0, 0, 0, 1, 0, 0, 0, 0] 2 4)) = [0, 2, 0, 8, 0, 9, 0, 15] := by decide +kernel
  rw [show (⟨#[0, 0, 0, 1, 0, 0, 0, 0]⟩ : ByteArray).data.toList = [0, 0, 0, 1, 0, 0, 0, 0] from rfl, e] at h
  exact h

set_option maxHeartbeats 1000000 in
theorem Slots_calls (n t q b : Int) (s : ByteArray) (w : World) (hs : s.size ≤ maxLen) :
    Calls Try.prog 4 #[.agg #[.int .i64 n, .int .i64 t, .int .i64 q, .int .i64 b], .string s] w fun e w' => e = .returned (.bool true) ∧ Up w w' := by
  obtain ⟨x, k, hd1, hd2⟩ := (both_dec n t q b s hs).ans
  obtain ⟨y, l, he1, he2⟩ := (both_enc n t q b s hs).ans
  have HD1 : Hid _ := hd1
  have HD2 : Hid _ := hd2
  have HE1 : Hid _ := he1
  have HE2 : Hid _ := he2
  clear hd1 hd2 he1 he2
  go_enter Try.func4, Try.ntmps4
  go_wp2_with fail
  refine (example_calls _).mono ?_
  rintro e w1 ⟨rfl, hu⟩
  go_wp2_with fail
  refine (dec_example _).mono ?_
  rintro e w2 ⟨rfl, hu2⟩
  replace hu := hu.trans hu2
  clear hu2
  obtain ⟨hc, hf⟩ := bcell hu
  go_wp2_with fail
  refine (params_calls _ _ _ _ _).mono ?_
  rintro e w3 ⟨rfl, hu2⟩
  replace hu := hu.trans hu2
  clear hu2 hc hf
  go_wp2_with fail
  refine Calls.mono (HD1.out _) ?_
  rintro e w4 ⟨rfl, hu2⟩
  replace hu := hu.trans hu2
  clear hu2
  obtain ⟨hc, hf⟩ := bcell hu
  go_wp2_with fail
  refine Calls.mono (HD2.out _) ?_
  rintro e w5 ⟨rfl, hu2⟩
  replace hu := hu.trans hu2
  clear hu2 hc hf
  go_wp2_with fail
  refine (num_calls _ _).mono ?_
  rintro e w6 ⟨rfl, rfl⟩
  obtain ⟨hc, hf⟩ := bcell hu
  go_wp2_with fail
  refine (params_calls _ _ _ _ _).mono ?_
  rintro e w7 ⟨rfl, hu2⟩
  replace hu := hu.trans hu2
  clear hu2 hc hf
  go_wp2_with fail
  refine Calls.mono (HE1.out _) ?_
  rintro e w8 ⟨rfl, hu2⟩
  replace hu := hu.trans hu2
  clear hu2
  obtain ⟨hc, hf⟩ := bcell hu
  go_wp2_with fail
  refine Calls.mono (HE2.out _) ?_
  rintro e w9 ⟨rfl, hu2⟩
  replace hu := hu.trans hu2
  clear hu2 hc hf
  go_wp2_with fail
  refine (num_calls _ _).mono ?_
  rintro e w10 ⟨rfl, rfl⟩
  go_wp2_with fail
  go_ret
  exact ⟨rfl, ((Up.refl _).alloc _).trans hu⟩

end Go.Proofs.Ytcjhgbljhpflfaa
