/-
  The statement Linears.
-/
import Derived.Test.YtcjhgbljhpflfabGreatLawOpen
import Derived.Test.YtcjhgbljhpflfabGreatCodeLe
namespace Go.Proofs.YtcjhgbljhpflfabGreat
open Go.RowKit
set_option linter.unusedVariables false
set_option maxRecDepth 100000

theorem both_linear (n t q b : Int) (l x s m k : ByteArray) (hl : l.size ≤ maxLen) (hx : x.size ≤ maxLen) (hs : s.size ≤ maxLen) (hm : m.size ≤ maxLen) (hk : k.size ≤ maxLen) : BothG #[.agg #[.int .i64 n, .int .i64 t, .int .i64 q, .int .i64 b], .string l, .string x, .string s, .string m, .string k] 7 9 := by
  cases hg : goodB n t q b with
  | false => exact ⟨_, _, fun w => Linear_bad n t q b l x s m k w hg, fun w => refLinear_bad n t q b l x s m k w hg⟩
  | true =>
    obtain ⟨g, e1, e2, hq, hq2, hb, hb2, hfit⟩ := goodB_NT hg
    generalize n.toNat = a at g e1
    generalize t.toNat = u at g e2
    subst e1 e2
    obtain ⟨L, hL⟩ := dig_ex q b hq hq2 hb
    cases h0 : layB l.data.toList a u with
    | false => exact ⟨_, _, fun w => Linear_lay a u q b l x s m k w hl g hg h0, fun w => refLinear_form a u q b l x s m k w hl hx g hq hq2 hg false (ctB x.data.toList a u q) h0 rfl (Or.inl rfl)⟩
    | true =>
      cases h1 : ctB x.data.toList a u q with
      | false => exact ⟨_, _, fun w => Linear_both a u q b l x s m k 2 w hl g hg h0 (by decide) (fun w => readBoth_form a u q b x s w hx g hq hq2 hg h1), fun w => refLinear_form a u q b l x s m k w hl hx g hq hq2 hg true false h0 h1 (Or.inr ⟨rfl, rfl⟩)⟩
      | true =>
        cases h2 : okL s.data.toList a 2 u with
        | false => exact ⟨_, _, fun w => Linear_both a u q b l x s m k 3 w hl g hg h0 (by decide) (fun w => readBoth_val a u q b x s w hx hs g hq hq2 hg h1 h2), fun w => refLinear_late a u L q b l x s m k w hl hx hs hm hk g hq hq2 hb hb2 hL hg h0 h1 false (okL m.data.toList a 2 u) (tnB k.data.toList (2 * a * L) q) h2 rfl rfl 3 (Or.inl ⟨rfl, rfl⟩)⟩
        | true =>
          cases h3 : okL m.data.toList a 2 u with
          | false => exact ⟨_, _, fun w => Linear_mask a u q b l x s m k w hl hx hs hm g hq hq2 hg h0 h1 h2 h3, fun w => refLinear_late a u L q b l x s m k w hl hx hs hm hk g hq hq2 hb hb2 hL hg h0 h1 true false (tnB k.data.toList (2 * a * L) q) h2 h3 rfl 3 (Or.inr (Or.inl ⟨rfl, rfl, rfl⟩))⟩
          | true =>
            cases h4 : tnB k.data.toList (2 * a * L) q with
            | false => exact ⟨_, _, fun w => Linear_turn a u L q b l x s m k w hl hx hs hm hk g hq hq2 hb hb2 hL hg h0 h1 h2 h3 h4, fun w => refLinear_late a u L q b l x s m k w hl hx hs hm hk g hq hq2 hb hb2 hL hg h0 h1 true true false h2 h3 h4 2 (Or.inr (Or.inr ⟨rfl, rfl, rfl, rfl⟩))⟩
            | true => exact ⟨_, _, fun w => Linear_ok a u L q b l x s m k w hl hx hs hm hk g hq hq2 hb hb2 hL hg h0 h1 h2 h3 h4, fun w => refLinear_ok a u L q b l x s m k w hl hx hs hm hk g hq hq2 hb hb2 hL hg h0 h1 h2 h3 h4⟩

set_option maxHeartbeats 1000000 in
theorem Linears_calls (n t q b : Int) (l x s m k : ByteArray) (w : World) (hl : l.size ≤ maxLen) (hx : x.size ≤ maxLen) (hs : s.size ≤ maxLen) (hm : m.size ≤ maxLen) (hk : k.size ≤ maxLen) :
    Calls Tryz.prog 3 #[.agg #[.int .i64 n, .int .i64 t, .int .i64 q, .int .i64 b], .string l, .string x, .string s, .string m, .string k] w fun e w' => e = .returned (.bool true) ∧ Up w w' := by
  obtain ⟨r, e, hd1, hd2⟩ := (both_linear n t q b l x s m k hl hx hs hm hk).ans
  have HD1 : Hid _ := hd1
  have HD2 : Hid _ := hd2
  clear hd1 hd2
  go_enter Tryz.func3, Tryz.ntmps3
  go_wp2_with fail
  refine (open_calls _).mono ?_
  rintro e w1 ⟨rfl, hu⟩
  obtain ⟨hc, hf⟩ := bcell hu
  go_wp2_with fail
  refine (params_calls _ _ _ _ _).mono ?_
  rintro e w3 ⟨rfl, hu2⟩
  replace hu := hu.trans hu2
  clear hu2 hc hf
  go_wp2_with fail
  refine Calls.mono (HD1.out _) ?_
  rintro e w4 ⟨rfl, hu2⟩
  replace hu := hu.trans hu2
  clear hu2
  obtain ⟨hc, hf⟩ := bcell hu
  go_wp2_with fail
  refine Calls.mono (HD2.out _) ?_
  rintro e w5 ⟨rfl, hu2⟩
  replace hu := hu.trans hu2
  clear hu2 hc hf
  go_wp2_with fail
  refine (num_calls _ _).mono ?_
  rintro e w6 ⟨rfl, rfl⟩
  go_wp2_with fail
  go_ret
  exact ⟨rfl, ((Up.refl _).alloc _).trans hu⟩

end Go.Proofs.YtcjhgbljhpflfabGreat
