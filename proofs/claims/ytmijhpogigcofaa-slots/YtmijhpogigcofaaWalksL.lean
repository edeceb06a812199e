/-
  Walks: the small functions of the statements, and Params.
-/
import Derived.Test.YtmijhpogigcofaaWalksG
namespace Go.Proofs.Ytmijhpogigcofaa
open Go.RowKit
set_option linter.unusedVariables false

set_option maxHeartbeats 400000 in
theorem params_calls (n t q b : Int) (w : World) :
    Calls Try.prog 7 #[.agg #[.int .i64 n, .int .i64 t, .int .i64 q, .int .i64 b]] w fun r w' => r = .returned (.agg #[.int .i64 n, .int .i64 t, .int .i64 q, .int .i64 b]) ∧ Up w w' := by
  go_enter Try.func7, Try.ntmps7
  go_wp2
  refine bodyPost_ret (v := .agg #[.int .i64 n, .int .i64 t, .int .i64 q, .int .i64 b]) (by simp [results, Try.results7, go_sem]) rfl ⟨rfl, ?_⟩
  exact ((Up.refl _).alloc _).alloc _

set_option maxHeartbeats 400000 in
theorem example_calls (w : World) :
    Calls Try.prog 8 #[] w fun r w' => r = .returned (.agg #[.int .i64 4, .int .i64 17, .int .i64 1000003, .int .i64 4]) ∧ Up w w' := by
  go_enter Try.func8, Try.ntmps8
  go_wp2
  refine bodyPost_ret (v := .agg #[.int .i64 4, .int .i64 17, .int .i64 1000003, .int .i64 4]) (by simp [results, Try.results8, go_sem]) rfl ⟨rfl, ?_⟩
  exact (Up.refl _).alloc _

set_option maxHeartbeats 400000 in
theorem num_calls (n : Int) (w : World) :
    Calls Try.prog 10 #[.int .i64 n] w fun r w' => r = .returned (.int .i64 n) ∧ w' = w := by
  go_enter Try.func10, Try.ntmps10
  go_wp2
  go_ret
  exact ⟨rfl, rfl⟩

theorem bcell {W w1 : World} (hb : Up W w1) : (∀ b o, b < W.heap.size → w1.cell? ⟨b, o, none⟩ = W.cell? ⟨b, o, none⟩) ∧ (∀ b o, b < W.heap.size → w1.frozen? ⟨b, o, none⟩ = W.frozen? ⟨b, o, none⟩) :=
  ⟨fun b o h => hb.cell (p := ⟨b, o, none⟩) h, fun b o h => hb.frozen (p := ⟨b, o, none⟩) h⟩

set_option maxHeartbeats 1000000 in
theorem Params_calls (n t q b : Int) (w : World) :
    Calls Try.prog 3 #[.agg #[.int .i64 n, .int .i64 t, .int .i64 q, .int .i64 b]] w fun r w' => r = .returned (.bool true) ∧ Up w w' := by
  have g1 : goodB 4 17 1000003 4 = true := by decide
  have g2 : goodB 8 19 1000003 4 = false := by decide
  cases hg : goodB n t q b
  all_goals
    go_enter Try.func3, Try.ntmps3
    go_wp2_with fail
    refine (params_calls _ _ _ _ _).mono ?_
    rintro e w1 ⟨rfl, hu⟩
    go_wp2_with fail
    refine (Check_calls _ _ _ _ _).mono ?_
    rintro e w2 ⟨rfl, hu2⟩
    replace hu := hu.trans hu2
    clear hu2
    go_wp2_with fail
    refine (example_calls _).mono ?_
    rintro e w3 ⟨rfl, hu2⟩
    replace hu := hu.trans hu2
    clear hu2
    go_wp2_with fail
    refine (Check_calls _ _ _ _ _).mono ?_
    rintro e w4 ⟨rfl, hu2⟩
    replace hu := hu.trans hu2
    clear hu2
    go_wp2_with fail
    refine (Check_calls _ _ _ _ _).mono ?_
    rintro e w5 ⟨rfl, hu2⟩
    replace hu := hu.trans hu2
    clear hu2
    obtain ⟨hc, hf⟩ := bcell hu
    go_wp2_with fail
    refine (refGood_calls _ _ _ _ _).mono ?_
    rintro e w6 ⟨rfl, hu2⟩
    clear hc hf
    replace hu := hu.trans hu2
    clear hu2
    go_wp2_with fail
    refine (num_calls _ _).mono ?_
    rintro e w7 ⟨rfl, rfl⟩
    go_wp2_with fail
    go_ret
    exact ⟨rfl, ((Up.refl _).alloc _).trans hu⟩

end Go.Proofs.Ytmijhpogigcofaa
