/-
  The statement Turns.
-/
import Derived.Test.YtcjhgbljhpflfaaLawOpen
import Derived.Test.YtcjhgbljhpflfaaCodeTn
import Derived.Test.YtcjhgbljhpflfaaWalksT
namespace Go.Proofs.Ytcjhgbljhpflfaa
open Go.RowKit
set_option linter.unusedVariables false
set_option maxRecDepth 100000

theorem both_turn (n t q b : Int) (x v : ByteArray) (hx : x.size ≤ maxLen) (hv : v.size ≤ maxLen) : BothG #[.agg #[.int .i64 n, .int .i64 t, .int .i64 q, .int .i64 b], .string x, .string v] 52 53 := by
  cases hg : goodB n t q b with
  | false => exact ⟨_, _, fun w => Turn_bad n t q b x v w hg, fun w => refTurn_bad n t q b x v w hg⟩
  | true =>
    obtain ⟨g, e1, e2, hq, hq2, hb, hb2, hfit⟩ := goodB_NT hg
    generalize n.toNat = m at g e1
    generalize t.toNat = u at g e2
    subst e1 e2
    obtain ⟨L, hL⟩ := dig_ex q b hq hq2 hb
    cases h0 : ctB x.data.toList m u q with
    | false => exact ⟨_, _, fun w => Turn_form1 m u q b x v w hx g hq hq2 hg h0, fun w => refTurn_form m u L q b x v w hx hv g hq hq2 hb hb2 hL hg false (tnB v.data.toList (2 * m * L) q) h0 rfl (Or.inl rfl)⟩
    | true =>
      cases h1 : tnB v.data.toList (2 * m * L) q with
      | false => exact ⟨_, _, fun w => Turn_form2 m u L q b x v w hx hv g hq hq2 hb hb2 hL hg h0 h1, fun w => refTurn_form m u L q b x v w hx hv g hq hq2 hb hb2 hL hg true false h0 h1 (Or.inr ⟨rfl, rfl⟩)⟩
      | true => exact ⟨_, _, fun w => Turn_ok m u L q b x v w hx hv g hq hq2 hb hb2 hL hg h0 h1, fun w => refTurn_ok m u L q b x v w hx hv g hq hq2 hb hb2 hL hg h0 h1⟩

set_option maxHeartbeats 1000000 in
theorem Turns_calls (n t q b : Int) (x v : ByteArray) (w : World) (hx : x.size ≤ maxLen) (hv : v.size ≤ maxLen) :
    Calls Try.prog 13 #[.agg #[.int .i64 n, .int .i64 t, .int .i64 q, .int .i64 b], .string x, .string v] w fun e w' => e = .returned (.bool true) ∧ Up w w' := by
  obtain ⟨r, l, hd1, hd2⟩ := (both_turn n t q b x v hx hv).ans
  have HD1 : Hid _ := hd1
  have HD2 : Hid _ := hd2
  clear hd1 hd2
  go_enter Try.func13, Try.ntmps13
  go_wp2_with fail
  refine (open_calls _).mono ?_
  rintro e w1 ⟨rfl, hu⟩
  obtain ⟨hc, hf⟩ := bcell hu
  go_wp2_with fail
  refine (params_calls _ _ _ _ _).mono ?_
  rintro e w3 ⟨rfl, hu2⟩
  replace hu := hu.trans hu2
  clear hu2 hc hf
  go_wp2_with fail
  refine Calls.mono (HD1.out _) ?_
  rintro e w4 ⟨rfl, hu2⟩
  replace hu := hu.trans hu2
  clear hu2
  obtain ⟨hc, hf⟩ := bcell hu
  go_wp2_with fail
  refine Calls.mono (HD2.out _) ?_
  rintro e w5 ⟨rfl, hu2⟩
  replace hu := hu.trans hu2
  clear hu2 hc hf
  go_wp2_with fail
  refine (num_calls _ _).mono ?_
  rintro e w6 ⟨rfl, rfl⟩
  go_wp2_with fail
  go_ret
  exact ⟨rfl, ((Up.refl _).alloc _).trans hu⟩

end Go.Proofs.Ytcjhgbljhpflfaa
