/-
  Walks: Decode and Encode of the program.
-/
import Derived.Test.YtcjhgbljhpflfabGreatCodeQ
import Derived.Test.YtcjhgbljhpflfabGreatCodeP
namespace Go.Proofs.YtcjhgbljhpflfabGreat
open Go.RowKit
set_option linter.unusedVariables false
set_option maxRecDepth 100000

set_option maxHeartbeats 400000 in
theorem readValues_ok (n : Nat) (t q b : Int) (s : ByteArray) (w : World) (hs : s.size ≤ maxLen) (hn : n ≤ 16) (hok : okL s.data.toList n 2 t = true) :
    Calls Tryz.prog 36 #[.agg #[.int .i64 n, .int .i64 t, .int .i64 q, .int .i64 b], .string s] w fun e w' => ∃ v, e = .returned (.tuple #[v, .bool true]) ∧ OwnI w' w.heap.size v (numsL s.data.toList 2 n) ∧ Up w w' := by
  go_enter Tryz.func36, Tryz.ntmps36
  go_wp2_with fail
  refine (Numbers_ok s n 2 t _ hs (by omega) (by omega) (by omega) hok).mono ?_
  rintro e w' ⟨v, rfl, hown, hu⟩
  go_wp2_with fail
  go_ret2
  exact ⟨v, rfl, hown.base (by simp), ((Up.refl _).alloc _).trans hu⟩

set_option maxHeartbeats 400000 in
theorem readValues_no (n : Nat) (t q b : Int) (s : ByteArray) (w : World) (hs : s.size ≤ maxLen) (hn : n ≤ 16) (hok : okL s.data.toList n 2 t = false) :
    Calls Tryz.prog 36 #[.agg #[.int .i64 n, .int .i64 t, .int .i64 q, .int .i64 b], .string s] w fun e w' => e = .returned (.tuple #[.slice none 0 0, .bool false]) ∧ Up w w' := by
  go_enter Tryz.func36, Tryz.ntmps36
  go_wp2_with fail
  refine (Numbers_no s n 2 t _ hs (by omega) (by omega) (by omega) hok).mono ?_
  rintro e w' ⟨rfl, hu⟩
  go_wp2_with fail
  go_ret2
  exact ⟨rfl, ((Up.refl _).alloc _).trans hu⟩

set_option maxHeartbeats 400000 in
theorem writeValues_calls (xs : List Int) (g cap : Nat) (w : World) (hl : xs.length ≤ 1000) (hx : ∀ i, i < xs.length → 0 ≤ xs.getD i 0 ∧ xs.getD i 0 < 65536) (hi : IsI w g xs) :
    Calls Tryz.prog 72 #[.slice (some ⟨g, 0, none⟩) xs.length cap] w fun e w' => e = .returned (.string ⟨(textsL 2 xs).toArray⟩) ∧ Up w w' := by
  have HX : Hid _ := hx
  clear hx
  go_enter Tryz.func72, Tryz.ntmps72
  go_wp2_with fail
  refine (Write_calls xs g cap 2 _ (by omega) (by omega) hl (fun i hi => by have := HX.out i hi; omega) hi).mono ?_
  rintro e w' ⟨rfl, hu⟩
  go_wp2_with fail
  go_ret
  exact ⟨rfl, hu⟩

end Go.Proofs.YtcjhgbljhpflfabGreat
