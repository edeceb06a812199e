/-
  The statement Plains.
-/
import Derived.Test.YtcjhgbljhpflfabLawOpen
import Derived.Test.YtcjhgbljhpflfabCodePl
namespace Go.Proofs.Ytcjhgbljhpflfab
open Go.RowKit
set_option linter.unusedVariables false
set_option maxRecDepth 100000

theorem both_plain (n t q b : Int) (l v : ByteArray) (hl : l.size ≤ maxLen) (hv : v.size ≤ maxLen) : BothG #[.agg #[.int .i64 n, .int .i64 t, .int .i64 q, .int .i64 b], .string l, .string v] 31 32 := by
  cases hg : goodB n t q b with
  | false => exact ⟨_, _, fun w => Plain_bad n t q b l v w hg, fun w => refPlain_bad n t q b l v w hg⟩
  | true =>
    obtain ⟨g, e1, e2, hq, hq2, hb, hb2, hfit⟩ := goodB_NT hg
    generalize n.toNat = a at g e1
    generalize t.toNat = u at g e2
    subst e1 e2
    cases h0 : netB l.data.toList a u with
    | false => exact ⟨_, _, fun w => Plain_form a u q b l v w hl g hg h0, fun w => refPlain_form a u q b l v w hl g hg h0⟩
    | true =>
      cases h1 : okL v.data.toList a 2 u with
      | false => exact ⟨_, _, fun w => Plain_val a u q b l v w hl hv g hg h0 h1, fun w => refPlain_val a u q b l v w hl hv g hg h0 h1⟩
      | true => exact ⟨_, _, fun w => Plain_ok a u q b l v w hl hv g hg h0 h1, fun w => refPlain_ok a u q b l v w hl hv g hg h0 h1⟩

set_option maxHeartbeats 1000000 in
theorem Plains_calls (n t q b : Int) (l v : ByteArray) (w : World) (hl : l.size ≤ maxLen) (hv : v.size ≤ maxLen) :
    Calls Try.prog 6 #[.agg #[.int .i64 n, .int .i64 t, .int .i64 q, .int .i64 b], .string l, .string v] w fun e w' => e = .returned (.bool true) ∧ Up w w' := by
  obtain ⟨r, e, hd1, hd2⟩ := (both_plain n t q b l v hl hv).ans
  have HD1 : Hid _ := hd1
  have HD2 : Hid _ := hd2
  clear hd1 hd2
  go_enter Try.func6, Try.ntmps6
  go_wp2_with fail
  refine (open_calls _).mono ?_
  rintro e w1 ⟨rfl, hu⟩
  obtain ⟨hc, hf⟩ := bcell hu
  go_wp2_with fail
  refine (params_calls _ _ _ _ _).mono ?_
  rintro e w3 ⟨rfl, hu2⟩
  replace hu := hu.trans hu2
  clear hu2 hc hf
  go_wp2_with fail
  refine Calls.mono (HD1.out _) ?_
  rintro e w4 ⟨rfl, hu2⟩
  replace hu := hu.trans hu2
  clear hu2
  obtain ⟨hc, hf⟩ := bcell hu
  go_wp2_with fail
  refine Calls.mono (HD2.out _) ?_
  rintro e w5 ⟨rfl, hu2⟩
  replace hu := hu.trans hu2
  clear hu2 hc hf
  go_wp2_with fail
  refine (num_calls _ _).mono ?_
  rintro e w6 ⟨rfl, rfl⟩
  go_wp2_with fail
  go_ret
  exact ⟨rfl, ((Up.refl _).alloc _).trans hu⟩

end Go.Proofs.Ytcjhgbljhpflfab
