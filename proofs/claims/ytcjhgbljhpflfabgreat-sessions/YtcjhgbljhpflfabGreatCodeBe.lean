/-
  Walks: the program's call Bend, all ends.
-/
import Derived.Test.YtcjhgbljhpflfabGreatCodeBn
import Derived.Test.YtcjhgbljhpflfabGreatCodeLa
namespace Go.Proofs.YtcjhgbljhpflfabGreat
open Go.RowKit
set_option linter.unusedVariables false
set_option maxRecDepth 100000

theorem readValues_is (n t : Nat) (q b : Int) (s : ByteArray) (w : World) (hs : s.size ≤ maxLen) (hn4 : 4 ≤ n) (hn : n ≤ 16) (hok : okL s.data.toList n 2 t = true) :
    Calls Tryz.prog 36 #[.agg #[.int .i64 n, .int .i64 t, .int .i64 q, .int .i64 b], .string s] w fun e w' => ∃ gv cv, n ≤ cv ∧ e = .returned (.tuple #[.slice (some ⟨gv, 0, none⟩) n cv, .bool true]) ∧ IsI w' gv (numsL s.data.toList 2 n) ∧ w.heap.size ≤ gv ∧ Up w w' := by
  refine (readValues_ok n t q b s w hs hn hok).mono ?_
  rintro e w' ⟨v, rfl, ho, hu⟩
  obtain ⟨gv, cv, rfl, hb, i, hc⟩ := ho.isc (ne_nil_of_length (numsL_length _ _ _) (by omega))
  rw [numsL_length] at hc ⊢
  exact ⟨gv, cv, hc, rfl, i, hb, hu⟩

end Go.Proofs.YtcjhgbljhpflfabGreat
