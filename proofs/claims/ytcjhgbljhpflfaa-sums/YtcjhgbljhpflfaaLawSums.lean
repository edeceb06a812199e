/-
  The statement Sums.
-/
import Derived.Test.YtcjhgbljhpflfaaLawOpen
import Derived.Test.YtcjhgbljhpflfaaCodeO
namespace Go.Proofs.Ytcjhgbljhpflfaa
open Go.RowKit
set_option linter.unusedVariables false
set_option maxRecDepth 100000

theorem both_add (n t q b : Int) (x y : ByteArray) (hx : x.size ≤ maxLen) (hy : y.size ≤ maxLen) : BothG #[.agg #[.int .i64 n, .int .i64 t, .int .i64 q, .int .i64 b], .string x, .string y] 41 42 := by
  cases hg : goodB n t q b with
  | false => exact ⟨_, _, fun w => Add_bad n t q b x y w hg, fun w => refAdd_bad n t q b x y w hg⟩
  | true =>
    obtain ⟨g, e1, e2, hq, hq2, _, _, hfit⟩ := goodB_NT hg
    generalize n.toNat = m at g e1
    generalize t.toNat = u at g e2
    subst e1 e2
    cases h0 : ctB x.data.toList m u q with
    | false => exact ⟨_, _, fun w => Add_form1 m u q b x y w hx g hq hq2 hg h0, fun w => refAdd_form m u q b x y w hx hy g hq hq2 hg false (ctB y.data.toList m u q) h0 rfl (Or.inl rfl)⟩
    | true =>
      cases h1 : ctB y.data.toList m u q with
      | false => exact ⟨_, _, fun w => Add_form2 m u q b x y w hx hy g hq hq2 hg h0 h1, fun w => refAdd_form m u q b x y w hx hy g hq hq2 hg true false h0 h1 (Or.inr ⟨rfl, rfl⟩)⟩
      | true => exact ⟨_, _, fun w => Add_ok m u q b x y w hx hy g hq hq2 hg h0 h1, fun w => refAdd_ok m u q b x y w hx hy g hq hq2 hg h0 h1⟩

theorem both_addPlain (n t q b : Int) (x v : ByteArray) (hx : x.size ≤ maxLen) (hv : v.size ≤ maxLen) : BothG #[.agg #[.int .i64 n, .int .i64 t, .int .i64 q, .int .i64 b], .string x, .string v] 43 44 := by
  cases hg : goodB n t q b with
  | false => exact ⟨_, _, AddPlain_no n t q b x v 1 (by decide) (fun w => readBoth_bad n t q b x v w hg), fun w => refAddPlain_bad n t q b x v w hg⟩
  | true =>
    obtain ⟨g, e1, e2, hq, hq2, _, _, hfit⟩ := goodB_NT hg
    generalize n.toNat = m at g e1
    generalize t.toNat = u at g e2
    subst e1 e2
    cases h0 : ctB x.data.toList m u q with
    | false => exact ⟨_, _, AddPlain_no m u q b x v 2 (by decide) (fun w => readBoth_form m u q b x v w hx g hq hq2 hg h0), fun w => refAddPlain_form m u q b x v w hx g hq hq2 hg h0⟩
    | true =>
      cases hok : okL v.data.toList m 2 u with
      | false => exact ⟨_, _, AddPlain_no m u q b x v 3 (by decide) (fun w => readBoth_val m u q b x v w hx hv g hq hq2 hg h0 hok), fun w => refAddPlain_val m u q b x v w hx hv g hq hq2 hg h0 hok⟩
      | true => exact ⟨_, _, fun w => AddPlain_ok m u q b x v w hx hv g hq hq2 hg h0 hok, fun w => refAddPlain_ok m u q b x v w hx hv g hq hq2 hg h0 hok⟩

set_option maxHeartbeats 2000000 in
theorem Sums_calls (n t q b : Int) (x y v : ByteArray) (w : World) (hx : x.size ≤ maxLen) (hy : y.size ≤ maxLen) (hv : v.size ≤ maxLen) :
    Calls Try.prog 9 #[.agg #[.int .i64 n, .int .i64 t, .int .i64 q, .int .i64 b], .string x, .string y, .string v] w fun e w' => e = .returned (.bool true) ∧ Up w w' := by
  obtain ⟨r, l, hd1, hd2⟩ := (both_add n t q b x y hx hy).ans
  obtain ⟨r2, m, he1, he2⟩ := (both_addPlain n t q b x v hx hv).ans
  have HD1 : Hid _ := hd1
  have HD2 : Hid _ := hd2
  have HE1 : Hid _ := he1
  have HE2 : Hid _ := he2
  clear hd1 hd2 he1 he2
  go_enter Try.func9, Try.ntmps9
  go_wp2_with fail
  refine (open_calls _).mono ?_
  rintro e w1 ⟨rfl, hu⟩
  obtain ⟨hc, hf⟩ := bcell hu
  go_wp2_with fail
  refine (params_calls _ _ _ _ _).mono ?_
  rintro e w3 ⟨rfl, hu2⟩
  replace hu := hu.trans hu2
  clear hu2 hc hf
  go_wp2_with fail
  refine Calls.mono (HD1.out _) ?_
  rintro e w4 ⟨rfl, hu2⟩
  replace hu := hu.trans hu2
  clear hu2
  obtain ⟨hc, hf⟩ := bcell hu
  go_wp2_with fail
  refine Calls.mono (HD2.out _) ?_
  rintro e w5 ⟨rfl, hu2⟩
  replace hu := hu.trans hu2
  clear hu2 hc hf
  go_wp2_with fail
  refine (num_calls _ _).mono ?_
  rintro e w6 ⟨rfl, rfl⟩
  obtain ⟨hc, hf⟩ := bcell hu
  go_wp2_with fail
  refine (params_calls _ _ _ _ _).mono ?_
  rintro e w7 ⟨rfl, hu2⟩
  replace hu := hu.trans hu2
  clear hu2 hc hf
  go_wp2_with fail
  refine Calls.mono (HE1.out _) ?_
  rintro e w8 ⟨rfl, hu2⟩
  replace hu := hu.trans hu2
  clear hu2
  obtain ⟨hc, hf⟩ := bcell hu
  go_wp2_with fail
  refine Calls.mono (HE2.out _) ?_
  rintro e w9 ⟨rfl, hu2⟩
  replace hu := hu.trans hu2
  clear hu2 hc hf
  go_wp2_with fail
  refine (num_calls _ _).mono ?_
  rintro e w10 ⟨rfl, rfl⟩
  go_wp2_with fail
  go_ret
  exact ⟨rfl, ((Up.refl _).alloc _).trans hu⟩

end Go.Proofs.Ytcjhgbljhpflfaa
