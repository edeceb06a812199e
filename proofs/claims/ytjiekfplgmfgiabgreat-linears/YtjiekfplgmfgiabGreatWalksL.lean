/-
  Walks: the small functions of the statements.
-/
import Derived.Test.YtjiekfplgmfgiabGreatWalksG
namespace Go.Proofs.YtjiekfplgmfgiabGreat
open Go.RowKit
set_option linter.unusedVariables false

set_option maxHeartbeats 400000 in
theorem params_calls (n t q b : Int) (w : World) :
    Calls Tryz.prog 6 #[.agg #[.int .i64 n, .int .i64 t, .int .i64 q, .int .i64 b]] w fun r w' => r = .returned (.agg #[.int .i64 n, .int .i64 t, .int .i64 q, .int .i64 b]) ∧ Up w w' := by
  go_enter Tryz.func6, Tryz.ntmps6
  go_wp2
  refine bodyPost_ret (v := .agg #[.int .i64 n, .int .i64 t, .int .i64 q, .int .i64 b]) (by simp [results, Tryz.results6, go_sem]) rfl ⟨rfl, ?_⟩
  exact ((Up.refl _).alloc _).alloc _

set_option maxHeartbeats 400000 in
theorem example_calls (w : World) :
    Calls Tryz.prog 10 #[] w fun r w' => r = .returned (.agg #[.int .i64 4, .int .i64 17, .int .i64 1000003, .int .i64 4]) ∧ Up w w' := by
  go_enter Tryz.func10, Tryz.ntmps10
  go_wp2
  refine bodyPost_ret (v := .agg #[.int .i64 4, .int .i64 17, .int .i64 1000003, .int .i64 4]) (by simp [results, Tryz.results10, go_sem]) rfl ⟨rfl, ?_⟩
  exact (Up.refl _).alloc _

set_option maxHeartbeats 400000 in
theorem num_calls (n : Int) (w : World) :
    Calls Tryz.prog 8 #[.int .i64 n] w fun r w' => r = .returned (.int .i64 n) ∧ w' = w := by
  go_enter Tryz.func8, Tryz.ntmps8
  go_wp2
  go_ret
  exact ⟨rfl, rfl⟩

theorem bcell {W w1 : World} (hb : Up W w1) : (∀ b o, b < W.heap.size → w1.cell? ⟨b, o, none⟩ = W.cell? ⟨b, o, none⟩) ∧ (∀ b o, b < W.heap.size → w1.frozen? ⟨b, o, none⟩ = W.frozen? ⟨b, o, none⟩) :=
  ⟨fun b o h => hb.cell (p := ⟨b, o, none⟩) h, fun b o h => hb.frozen (p := ⟨b, o, none⟩) h⟩

end Go.Proofs.YtjiekfplgmfgiabGreat
