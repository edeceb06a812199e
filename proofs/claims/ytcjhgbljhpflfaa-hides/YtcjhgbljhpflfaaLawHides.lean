/-
  The statement Hides.
-/
import Derived.Test.YtcjhgbljhpflfaaLawOpen
namespace Go.Proofs.Ytcjhgbljhpflfaa
open Go.RowKit
set_option linter.unusedVariables false
set_option maxRecDepth 100000

set_option maxHeartbeats 1000000 in
theorem Hides_calls (n t q b : Int) (k v s : ByteArray) (w : World) (hk : k.size ≤ maxLen) (hv : v.size ≤ maxLen) (hs : s.size ≤ maxLen) :
    Calls Try.prog 6 #[.agg #[.int .i64 n, .int .i64 t, .int .i64 q, .int .i64 b], .string k, .string v, .string s] w fun e w' => e = .returned (.bool true) ∧ Up w w' := by
  obtain ⟨x, l, hd1, hd2⟩ := (both_hide n t q b k v s hk hv hs).ans
  have HD1 : Hid _ := hd1
  have HD2 : Hid _ := hd2
  clear hd1 hd2
  go_enter Try.func6, Try.ntmps6
  go_wp2_with fail
  refine (open_calls _).mono ?_
  rintro e w1 ⟨rfl, hu⟩
  obtain ⟨hc, hf⟩ := bcell hu
  go_wp2_with fail
  refine (params_calls _ _ _ _ _).mono ?_
  rintro e w3 ⟨rfl, hu2⟩
  replace hu := hu.trans hu2
  clear hu2 hc hf
  go_wp2_with fail
  refine Calls.mono (HD1.out _) ?_
  rintro e w4 ⟨rfl, hu2⟩
  replace hu := hu.trans hu2
  clear hu2
  obtain ⟨hc, hf⟩ := bcell hu
  go_wp2_with fail
  refine Calls.mono (HD2.out _) ?_
  rintro e w5 ⟨rfl, hu2⟩
  replace hu := hu.trans hu2
  clear hu2 hc hf
  go_wp2_with fail
  refine (num_calls _ _).mono ?_
  rintro e w6 ⟨rfl, rfl⟩
  go_wp2_with fail
  go_ret
  exact ⟨rfl, ((Up.refl _).alloc _).trans hu⟩

end Go.Proofs.Ytcjhgbljhpflfaa
