/-
  The statement Bends.
-/
import Derived.Test.YtcjhgbljhpflfabLawOpen
import Derived.Test.YtcjhgbljhpflfabCodeBe
namespace Go.Proofs.Ytcjhgbljhpflfab
open Go.RowKit
set_option linter.unusedVariables false
set_option maxRecDepth 100000

theorem both_bend (n t q b : Int) (l x y m : ByteArray) (hl : l.size ≤ maxLen) (hx : x.size ≤ maxLen) (hy : y.size ≤ maxLen) (hm : m.size ≤ maxLen) : BothG #[.agg #[.int .i64 n, .int .i64 t, .int .i64 q, .int .i64 b], .string l, .string x, .string y, .string m] 27 29 := by
  cases hg : goodB n t q b with
  | false => exact ⟨_, _, fun w => Bend_bad n t q b l x y m w hg, fun w => refBend_bad n t q b l x y m w hg⟩
  | true =>
    obtain ⟨g, e1, e2, hq, hq2, hb, hb2, hfit⟩ := goodB_NT hg
    generalize n.toNat = a at g e1
    generalize t.toNat = u at g e2
    subst e1 e2
    cases h0 : layB l.data.toList a u with
    | false => exact ⟨_, _, fun w => Bend_lay a u q b l x y m w hl g hg h0, fun w => refBend_form a u q b l x y m w hl g hg h0⟩
    | true =>
      cases h1 : okL x.data.toList a 2 u with
      | false => exact ⟨_, _, fun w => Bend_val a u q b l x y m w hl hx hy hm g hg h0 (Or.inl h1), fun w => refBend_val a u q b l x y m w hl hx hy hm g hg h0 false _ _ h1 rfl rfl (Or.inl rfl)⟩
      | true =>
        cases h2 : okL y.data.toList a 2 u with
        | false => exact ⟨_, _, fun w => Bend_val a u q b l x y m w hl hx hy hm g hg h0 (Or.inr (Or.inl ⟨h1, h2⟩)), fun w => refBend_val a u q b l x y m w hl hx hy hm g hg h0 true false _ h1 h2 rfl (Or.inr (Or.inl ⟨rfl, rfl⟩))⟩
        | true =>
          cases h3 : okL m.data.toList a 2 u with
          | false => exact ⟨_, _, fun w => Bend_val a u q b l x y m w hl hx hy hm g hg h0 (Or.inr (Or.inr ⟨h1, h2, h3⟩)), fun w => refBend_val a u q b l x y m w hl hx hy hm g hg h0 true true false h1 h2 h3 (Or.inr (Or.inr ⟨rfl, rfl, rfl⟩))⟩
          | true => exact ⟨_, _, fun w => Bend_ok a u q b l x y m w hl hx hy hm g hg h0 h1 h2 h3, fun w => refBend_ok a u q b l x y m w hl hx hy hm g hg h0 h1 h2 h3⟩

set_option maxHeartbeats 1000000 in
theorem Bends_calls (n t q b : Int) (l x y m : ByteArray) (w : World) (hl : l.size ≤ maxLen) (hx : x.size ≤ maxLen) (hy : y.size ≤ maxLen) (hm : m.size ≤ maxLen) :
    Calls Try.prog 5 #[.agg #[.int .i64 n, .int .i64 t, .int .i64 q, .int .i64 b], .string l, .string x, .string y, .string m] w fun e w' => e = .returned (.bool true) ∧ Up w w' := by
  obtain ⟨r, e, hd1, hd2⟩ := (both_bend n t q b l x y m hl hx hy hm).ans
  have HD1 : Hid _ := hd1
  have HD2 : Hid _ := hd2
  clear hd1 hd2
  go_enter Try.func5, Try.ntmps5
  go_wp2_with fail
  refine (open_calls _).mono ?_
  rintro e w1 ⟨rfl, hu⟩
  obtain ⟨hc, hf⟩ := bcell hu
  go_wp2_with fail
  refine (params_calls _ _ _ _ _).mono ?_
  rintro e w3 ⟨rfl, hu2⟩
  replace hu := hu.trans hu2
  clear hu2 hc hf
  go_wp2_with fail
  refine Calls.mono (HD1.out _) ?_
  rintro e w4 ⟨rfl, hu2⟩
  replace hu := hu.trans hu2
  clear hu2
  obtain ⟨hc, hf⟩ := bcell hu
  go_wp2_with fail
  refine Calls.mono (HD2.out _) ?_
  rintro e w5 ⟨rfl, hu2⟩
  replace hu := hu.trans hu2
  clear hu2 hc hf
  go_wp2_with fail
  refine (num_calls _ _).mono ?_
  rintro e w6 ⟨rfl, rfl⟩
  go_wp2_with fail
  go_ret
  exact ⟨rfl, ((Up.refl _).alloc _).trans hu⟩

end Go.Proofs.Ytcjhgbljhpflfab
