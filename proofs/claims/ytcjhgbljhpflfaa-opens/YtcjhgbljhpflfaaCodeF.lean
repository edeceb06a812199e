/-
  Walks: Decode and Encode of the program.
-/
import Derived.Test.YtcjhgbljhpflfaaCodeQ
import Derived.Test.YtcjhgbljhpflfaaCodeP
namespace Go.Proofs.Ytcjhgbljhpflfaa
open Go.RowKit
set_option linter.unusedVariables false
set_option maxRecDepth 100000

set_option maxHeartbeats 400000 in
theorem readValues_ok (n : Nat) (t q b : Int) (s : ByteArray) (w : World) (hs : s.size ≤ maxLen) (hn : n ≤ 16) (hok : okL s.data.toList n 2 t = true) :
    Calls Try.prog 58 #[.agg #[.int .i64 n, .int .i64 t, .int .i64 q, .int .i64 b], .string s] w fun e w' => ∃ v, e = .returned (.tuple #[v, .bool true]) ∧ OwnI w' w.heap.size v (numsL s.data.toList 2 n) ∧ Up w w' := by
  go_enter Try.func58, Try.ntmps58
  go_wp2_with fail
  refine (Numbers_ok s n 2 t _ hs (by omega) (by omega) (by omega) hok).mono ?_
  rintro e w' ⟨v, rfl, hown, hu⟩
  go_wp2_with fail
  go_ret2
  exact ⟨v, rfl, hown.base (by simp), ((Up.refl _).alloc _).trans hu⟩

set_option maxHeartbeats 400000 in
theorem readValues_no (n : Nat) (t q b : Int) (s : ByteArray) (w : World) (hs : s.size ≤ maxLen) (hn : n ≤ 16) (hok : okL s.data.toList n 2 t = false) :
    Calls Try.prog 58 #[.agg #[.int .i64 n, .int .i64 t, .int .i64 q, .int .i64 b], .string s] w fun e w' => e = .returned (.tuple #[.slice none 0 0, .bool false]) ∧ Up w w' := by
  go_enter Try.func58, Try.ntmps58
  go_wp2_with fail
  refine (Numbers_no s n 2 t _ hs (by omega) (by omega) (by omega) hok).mono ?_
  rintro e w' ⟨rfl, hu⟩
  go_wp2_with fail
  go_ret2
  exact ⟨rfl, ((Up.refl _).alloc _).trans hu⟩

set_option maxHeartbeats 400000 in
theorem writeValues_calls (xs : List Int) (g cap : Nat) (w : World) (hl : xs.length ≤ 1000) (hx : ∀ i, i < xs.length → 0 ≤ xs.getD i 0 ∧ xs.getD i 0 < 65536) (hi : IsI w g xs) :
    Calls Try.prog 60 #[.slice (some ⟨g, 0, none⟩) xs.length cap] w fun e w' => e = .returned (.string ⟨(textsL 2 xs).toArray⟩) ∧ Up w w' := by
  have HX : Hid _ := hx
  clear hx
  go_enter Try.func60, Try.ntmps60
  go_wp2_with fail
  refine (Write_calls xs g cap 2 _ (by omega) (by omega) hl (fun i hi => by have := HX.out i hi; omega) hi).mono ?_
  rintro e w' ⟨rfl, hu⟩
  go_wp2_with fail
  go_ret
  exact ⟨rfl, hu⟩

set_option maxHeartbeats 400000 in
theorem Decode_bad (n t q b : Int) (s : ByteArray) (w : World) (hg : goodB n t q b = false) :
    Calls Try.prog 20 #[.agg #[.int .i64 n, .int .i64 t, .int .i64 q, .int .i64 b], .string s] w fun e w' => e = .returned (.tuple #[.string ⟨#[]⟩, .int .i64 1]) ∧ Up w w' := by
  go_enter Try.func20, Try.ntmps20
  go_wp2_with (go_at_call 56; refine (Good_calls _ _ _ _ _).mono ?_; rintro e w' ⟨rfl, hu⟩)
  go_ret2
  exact ⟨rfl, ((Up.refl _).alloc _).trans hu⟩

set_option maxHeartbeats 1000000 in
theorem Decode_val (n t : Nat) (q b : Int) (s : ByteArray) (w : World) (hs : s.size ≤ maxLen) (hn : n ≤ 16) (hg : goodB n t q b = true) (hok : okL s.data.toList n 2 t = false) :
    Calls Try.prog 20 #[.agg #[.int .i64 n, .int .i64 t, .int .i64 q, .int .i64 b], .string s] w fun e w' => e = .returned (.tuple #[.string ⟨#[]⟩, .int .i64 3]) ∧ Up w w' := by
  go_enter Try.func20, Try.ntmps20
  go_wp2_with fail
  refine (Good_calls _ _ _ _ _).mono ?_
  rintro e w1 ⟨rfl, hu⟩
  obtain ⟨hc, hf⟩ := bcell hu
  go_wp2_with fail
  refine (readValues_no n t q b s _ hs (by omega) hok).mono ?_
  rintro e w2 ⟨rfl, hu2⟩
  go_wp2_with fail
  go_ret2
  exact ⟨rfl, (((Up.refl _).alloc _).trans hu).trans hu2⟩

set_option maxHeartbeats 1000000 in
theorem Decode_ok (n t : Nat) (q b : Int) (s : ByteArray) (w : World) (hs : s.size ≤ maxLen) (g : NT n t) (hg : goodB n t q b = true) (hok : okL s.data.toList n 2 t = true) :
    Calls Try.prog 20 #[.agg #[.int .i64 n, .int .i64 t, .int .i64 q, .int .i64 b], .string s] w fun e w' => e = .returned (.tuple #[.string ⟨(textsL 2 (decI n t (numsL s.data.toList 2 n))).toArray⟩, .int .i64 0]) ∧ Up w w' := by
  have ht := g.t3
  have ht2 := g.ht
  obtain ⟨hd1, hd2, hd3⟩ := g.half
  have HB : Hid _ := numsL_bounds s.data.toList 2 n t hok (by omega)
  go_enter Try.func20, Try.ntmps20
  go_wp2_with fail
  refine (Good_calls _ _ _ _ _).mono ?_
  rintro e w1 ⟨rfl, hu⟩
  obtain ⟨hc, hf⟩ := bcell hu
  go_wp2_with fail
  refine (readValues_ok n t q b s _ hs (by omega) hok).mono ?_
  rintro e w2 ⟨v, rfl, hown, hu2⟩
  obtain ⟨gx, cap, rfl, _, his⟩ := hown.is (ne_nil_of_length (numsL_length _ _ _) (by omega))
  rw [numsL_length]
  clear hc hf hown
  obtain ⟨hc, hf⟩ := bcell (hu.trans hu2)
  go_wp2_with fail
  refine (slotDecode_calls n t q b _ gx cap _ g (numsL_length _ _ _) HB.out his).mono ?_
  rintro e w3 ⟨v, rfl, hown, hu3⟩
  obtain ⟨gy, cap2, rfl, _, his2⟩ := hown.is (ne_nil_of_length (decI_length _ _ _) (by omega))
  clear hc hf hown
  go_wp2_with fail
  refine (writeValues_calls _ gy cap2 _ (by rw [decI_length]; omega) (decI_bounds g _) his2).mono ?_
  rintro e w4 ⟨rfl, hu4⟩
  go_wp2_with fail
  go_ret2
  exact ⟨rfl, ((((Up.refl _).alloc _).trans hu).trans hu2).trans (hu3.trans hu4)⟩

set_option maxHeartbeats 400000 in
theorem Encode_bad (n t q b : Int) (s : ByteArray) (w : World) (hg : goodB n t q b = false) :
    Calls Try.prog 22 #[.agg #[.int .i64 n, .int .i64 t, .int .i64 q, .int .i64 b], .string s] w fun e w' => e = .returned (.tuple #[.string ⟨#[]⟩, .int .i64 1]) ∧ Up w w' := by
  go_enter Try.func22, Try.ntmps22
  go_wp2_with (go_at_call 56; refine (Good_calls _ _ _ _ _).mono ?_; rintro e w' ⟨rfl, hu⟩)
  go_ret2
  exact ⟨rfl, ((Up.refl _).alloc _).trans hu⟩

set_option maxHeartbeats 1000000 in
theorem Encode_val (n t : Nat) (q b : Int) (s : ByteArray) (w : World) (hs : s.size ≤ maxLen) (hn : n ≤ 16) (hg : goodB n t q b = true) (hok : okL s.data.toList n 2 t = false) :
    Calls Try.prog 22 #[.agg #[.int .i64 n, .int .i64 t, .int .i64 q, .int .i64 b], .string s] w fun e w' => e = .returned (.tuple #[.string ⟨#[]⟩, .int .i64 3]) ∧ Up w w' := by
  go_enter Try.func22, Try.ntmps22
  go_wp2_with fail
  refine (Good_calls _ _ _ _ _).mono ?_
  rintro e w1 ⟨rfl, hu⟩
  obtain ⟨hc, hf⟩ := bcell hu
  go_wp2_with fail
  refine (readValues_no n t q b s _ hs (by omega) hok).mono ?_
  rintro e w2 ⟨rfl, hu2⟩
  go_wp2_with fail
  go_ret2
  exact ⟨rfl, (((Up.refl _).alloc _).trans hu).trans hu2⟩

set_option maxHeartbeats 1000000 in
theorem Encode_ok (n t : Nat) (q b : Int) (s : ByteArray) (w : World) (hs : s.size ≤ maxLen) (g : NT n t) (hg : goodB n t q b = true) (hok : okL s.data.toList n 2 t = true) :
    Calls Try.prog 22 #[.agg #[.int .i64 n, .int .i64 t, .int .i64 q, .int .i64 b], .string s] w fun e w' => e = .returned (.tuple #[.string ⟨(textsL 2 (encI n t (numsL s.data.toList 2 n))).toArray⟩, .int .i64 0]) ∧ Up w w' := by
  have ht := g.t3
  have ht2 := g.ht
  obtain ⟨hd1, hd2, hd3⟩ := g.half
  have HB : Hid _ := numsL_bounds s.data.toList 2 n t hok (by omega)
  go_enter Try.func22, Try.ntmps22
  go_wp2_with fail
  refine (Good_calls _ _ _ _ _).mono ?_
  rintro e w1 ⟨rfl, hu⟩
  obtain ⟨hc, hf⟩ := bcell hu
  go_wp2_with fail
  refine (readValues_ok n t q b s _ hs (by omega) hok).mono ?_
  rintro e w2 ⟨v, rfl, hown, hu2⟩
  obtain ⟨gx, cap, rfl, _, his⟩ := hown.is (ne_nil_of_length (numsL_length _ _ _) (by omega))
  rw [numsL_length]
  clear hc hf hown
  obtain ⟨hc, hf⟩ := bcell (hu.trans hu2)
  go_wp2_with fail
  refine (slotEncode_calls n t q b _ gx cap _ g (numsL_length _ _ _) HB.out his).mono ?_
  rintro e w3 ⟨v, rfl, hown, hu3⟩
  obtain ⟨gy, cap2, rfl, _, his2⟩ := hown.is (ne_nil_of_length (encI_length _ _ _) (by omega))
  clear hc hf hown
  go_wp2_with fail
  refine (writeValues_calls _ gy cap2 _ (by rw [encI_length]; omega) (encI_bounds g _) his2).mono ?_
  rintro e w4 ⟨rfl, hu4⟩
  go_wp2_with fail
  go_ret2
  exact ⟨rfl, ((((Up.refl _).alloc _).trans hu).trans hu2).trans (hu3.trans hu4)⟩

end Go.Proofs.Ytcjhgbljhpflfaa
