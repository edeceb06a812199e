/-
  The statement Params.
-/
import Derived.Test.YtcjhgbljhpflfaaCodeP
namespace Go.Proofs.Ytcjhgbljhpflfaa
open Go.RowKit
set_option linter.unusedVariables false

set_option maxHeartbeats 1000000 in
theorem Params_calls (n t q b : Int) (w : World) :
    Calls Try.prog 3 #[.agg #[.int .i64 n, .int .i64 t, .int .i64 q, .int .i64 b]] w fun r w' => r = .returned (.bool true) ∧ Up w w' := by
  have g1 : goodB 4 17 1000003 4 = true := by decide
  have g2 : goodB 8 19 1000003 4 = false := by decide
  cases hg : goodB n t q b
  all_goals
    go_enter Try.func3, Try.ntmps3
    go_wp2_with fail
    refine (params_calls _ _ _ _ _).mono ?_
    rintro e w1 ⟨rfl, hu⟩
    go_wp2_with fail
    refine (Check_calls _ _ _ _ _).mono ?_
    rintro e w2 ⟨rfl, hu2⟩
    replace hu := hu.trans hu2
    clear hu2
    go_wp2_with fail
    refine (example_calls _).mono ?_
    rintro e w3 ⟨rfl, hu2⟩
    replace hu := hu.trans hu2
    clear hu2
    go_wp2_with fail
    refine (Check_calls _ _ _ _ _).mono ?_
    rintro e w4 ⟨rfl, hu2⟩
    replace hu := hu.trans hu2
    clear hu2
    go_wp2_with fail
    refine (Check_calls _ _ _ _ _).mono ?_
    rintro e w5 ⟨rfl, hu2⟩
    replace hu := hu.trans hu2
    clear hu2
    obtain ⟨hc, hf⟩ := bcell hu
    go_wp2_with fail
    refine (refGood_calls _ _ _ _ _).mono ?_
    rintro e w6 ⟨rfl, hu2⟩
    clear hc hf
    replace hu := hu.trans hu2
    clear hu2
    go_wp2_with fail
    refine (num_calls _ _).mono ?_
    rintro e w7 ⟨rfl, rfl⟩
    go_wp2_with fail
    go_ret
    exact ⟨rfl, ((Up.refl _).alloc _).trans hu⟩

end Go.Proofs.Ytcjhgbljhpflfaa
