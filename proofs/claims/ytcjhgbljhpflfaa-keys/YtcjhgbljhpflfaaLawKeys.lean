/-
  The statement Keys.
-/
import Derived.Test.YtcjhgbljhpflfaaCodeV
import Derived.Test.YtcjhgbljhpflfaaCodeKey
import Derived.Test.YtcjhgbljhpflfaaWalksT
namespace Go.Proofs.Ytcjhgbljhpflfaa
open Go.RowKit
set_option linter.unusedVariables false
set_option maxRecDepth 100000

/-- two functions that answer the same text and the same number -/
structure BothK (A : Array Value) (f r : Nat) : Prop where
  ans : ∃ (x : ByteArray) (k : Int), (∀ w, Calls Try.prog f A w fun e w' => e = .returned (.tuple #[.string x, .int .i64 k]) ∧ Up w w') ∧
    (∀ w, Calls Try.prog r A w fun e w' => e = .returned (.tuple #[.string x, .int .i64 k]) ∧ Up w w')

theorem both_key (n t q b : Int) (s : ByteArray) (hs : s.size ≤ maxLen) : BothK #[.agg #[.int .i64 n, .int .i64 t, .int .i64 q, .int .i64 b], .string s] 24 25 := by
  cases hg : goodB n t q b with
  | false => exact ⟨_, _, fun w => Key_bad n t q b s w hg, fun w => refKey_bad n t q b s w hg⟩
  | true =>
    obtain ⟨g, e1, e2, _⟩ := goodB_NT hg
    generalize n.toNat = m at g e1
    generalize t.toNat = u at g e2
    subst e1 e2
    have hd := g.half
    exact ⟨_, _, fun w => Key_ok m u q b s w hs (by omega) hg, fun w => refKey_ok m u q b s w hs (by omega) hg⟩

theorem both_turnkey (n t q b : Int) (k s : ByteArray) (hk : k.size ≤ maxLen) (hs : s.size ≤ maxLen) : BothK #[.agg #[.int .i64 n, .int .i64 t, .int .i64 q, .int .i64 b], .string k, .string s] 26 27 := by
  cases hg : goodB n t q b with
  | false => exact ⟨_, _, fun w => TurnKey_bad n t q b k s w hg, fun w => refTurnKey_bad n t q b k s w hg⟩
  | true =>
    obtain ⟨g, e1, e2, hq, hq2, hb, hb2, _⟩ := goodB_NT hg
    generalize n.toNat = m at g e1
    generalize t.toNat = u at g e2
    subst e1 e2
    have hd := g.half
    obtain ⟨L, hL⟩ := dig_ex q b hq hq2 hb
    cases hsec : secB k.data.toList m with
    | false => exact ⟨_, _, fun w => TurnKey_form m u q b k s w hk (by omega) hg hsec, fun w => refTurnKey_form m u q b k s w hk (by omega) hg hsec⟩
    | true => exact ⟨_, _, fun w => TurnKey_ok m L u q b k s w hk hs g.hn hq hq2 hb hb2 hL hg hsec, fun w => refTurnKey_ok m L u q b k s w hk hs g.hn hq hq2 hb hb2 hL hg hsec⟩

theorem key_example (w : World) : Calls Try.prog 24 #[.agg #[.int .i64 4, .int .i64 17, .int .i64 1000003, .int .i64 4], .string ⟨#[0, 1, 2, 3]⟩] w fun e w' => e = .returned (.tuple #[.string ⟨#[75, 0, 1, 2, 0]⟩, .int .i64 0]) ∧ Up w w' := by
  have h := Key_ok 4 17 1000003 4 ⟨#[0, 1, 2, 3]⟩ w (by decide) (by decide) (by decide)
  have e : keyL [0, 1, 2, 3] 4 = [75, 0, 1, 2, 0] := by decide +kernel
  rw [show (⟨#[0, 1, 2, 3]⟩ : ByteArray).data.toList = [0, 1, 2, 3] from rfl, e] at h
  exact h

set_option maxHeartbeats 1000000 in
theorem Keys_calls (n t q b : Int) (k s : ByteArray) (w : World) (hk : k.size ≤ maxLen) (hs : s.size ≤ maxLen) :
    Calls Try.prog 5 #[.agg #[.int .i64 n, .int .i64 t, .int .i64 q, .int .i64 b], .string k, .string s] w fun e w' => e = .returned (.bool true) ∧ Up w w' := by
  obtain ⟨x, kk, hd1, hd2⟩ := (both_key n t q b s hs).ans
  obtain ⟨y, l, he1, he2⟩ := (both_turnkey n t q b k s hk hs).ans
  have HD1 : Hid _ := hd1
  have HD2 : Hid _ := hd2
  have HE1 : Hid _ := he1
  have HE2 : Hid _ := he2
  clear hd1 hd2 he1 he2
  go_enter Try.func5, Try.ntmps5
  go_wp2_with fail
  refine (example_calls _).mono ?_
  rintro e w1 ⟨rfl, hu⟩
  go_wp2_with fail
  refine (key_example _).mono ?_
  rintro e w2 ⟨rfl, hu2⟩
  replace hu := hu.trans hu2
  clear hu2
  obtain ⟨hc, hf⟩ := bcell hu
  go_wp2_with fail
  refine (params_calls _ _ _ _ _).mono ?_
  rintro e w3 ⟨rfl, hu2⟩
  replace hu := hu.trans hu2
  clear hu2 hc hf
  go_wp2_with fail
  refine Calls.mono (HD1.out _) ?_
  rintro e w4 ⟨rfl, hu2⟩
  replace hu := hu.trans hu2
  clear hu2
  obtain ⟨hc, hf⟩ := bcell hu
  go_wp2_with fail
  refine Calls.mono (HD2.out _) ?_
  rintro e w5 ⟨rfl, hu2⟩
  replace hu := hu.trans hu2
  clear hu2 hc hf
  go_wp2_with fail
  refine (num_calls _ _).mono ?_
  rintro e w6 ⟨rfl, rfl⟩
  obtain ⟨hc, hf⟩ := bcell hu
  go_wp2_with fail
  refine (params_calls _ _ _ _ _).mono ?_
  rintro e w7 ⟨rfl, hu2⟩
  replace hu := hu.trans hu2
  clear hu2 hc hf
  go_wp2_with fail
  refine Calls.mono (HE1.out _) ?_
  rintro e w8 ⟨rfl, hu2⟩
  replace hu := hu.trans hu2
  clear hu2
  obtain ⟨hc, hf⟩ := bcell hu
  go_wp2_with fail
  refine Calls.mono (HE2.out _) ?_
  rintro e w9 ⟨rfl, hu2⟩
  replace hu := hu.trans hu2
  clear hu2 hc hf
  go_wp2_with fail
  refine (num_calls _ _).mono ?_
  rintro e w10 ⟨rfl, rfl⟩
  go_wp2_with fail
  go_ret
  exact ⟨rfl, ((Up.refl _).alloc _).trans hu⟩

end Go.Proofs.Ytcjhgbljhpflfaa
