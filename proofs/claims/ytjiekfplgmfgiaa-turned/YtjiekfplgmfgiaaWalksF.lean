/-
  Walks: Decode and Encode of the reference.
-/
import Derived.Test.YtjiekfplgmfgiaaWalksO
namespace Go.Proofs.Ytjiekfplgmfgiaa
open Go.RowKit
set_option linter.unusedVariables false

theorem numsL_getD (l : List UInt8) (size n i : Nat) (h : i < n) : (numsL l size n).getD i 0 = (numL l (i * size) size : Int) := by
  induction n with
  | zero => omega
  | succ n ih =>
    simp only [numsL]
    by_cases e : i = n
    · subst e
      rw [List.getD_eq_getElem?_getD, List.getElem?_append_right (by rw [numsL_length]; exact Nat.le_refl _), numsL_length]
      simp
    · rw [List.getD_eq_getElem?_getD, List.getElem?_append_left (by rw [numsL_length]; omega), ← List.getD_eq_getElem?_getD]
      exact ih (by omega)

theorem numsL_bounds (l : List UInt8) (size n : Nat) (m : Int) (h : okL l n size m = true) (hm : m ≤ 65536) : ∀ i, i < (numsL l size n).length → 0 ≤ (numsL l size n).getD i 0 ∧ (numsL l size n).getD i 0 < 65536 := by
  intro i hi
  rw [numsL_length] at hi
  rw [numsL_getD _ _ _ _ hi]
  have := ((okL_iff _ _ _ _).1 h).2 i hi
  omega

theorem decI_bounds {n t : Nat} (g : NT n t) (xs : List Int) : ∀ i, i < (decI n t xs).length → 0 ≤ (decI n t xs).getD i 0 ∧ (decI n t xs).getD i 0 < 65536 := by
  intro i hi
  have hi : i < n := by simpa [decI] using hi
  have := valI_bounds g xs i
  have ht := g.ht
  unfold decI
  rw [getD_range hi]
  omega

theorem encI_bounds {n t : Nat} (g : NT n t) (xs : List Int) : ∀ i, i < (encI n t xs).length → 0 ≤ (encI n t xs).getD i 0 ∧ (encI n t xs).getD i 0 < 65536 := by
  intro i hi
  have hi : i < n := by simpa [encI] using hi
  have := encC_bounds g xs i
  have ht := g.ht
  unfold encI
  rw [getD_range hi]
  omega

theorem decI_length (n t : Nat) (xs : List Int) : (decI n t xs).length = n := by simp [decI]

theorem encI_length (n t : Nat) (xs : List Int) : (encI n t xs).length = n := by simp [encI]

set_option maxHeartbeats 400000 in
theorem refDecode_bad (n t q b : Int) (s : ByteArray) (w : World) (hg : goodB n t q b = false) :
    Calls Try.prog 21 #[.agg #[.int .i64 n, .int .i64 t, .int .i64 q, .int .i64 b], .string s] w fun e w' => e = .returned (.tuple #[.string ⟨#[]⟩, .int .i64 1]) ∧ Up w w' := by
  go_enter Try.func21, Try.ntmps21
  go_wp2_with (go_at_call 18; refine (refGood_calls _ _ _ _ _).mono ?_; rintro e w' ⟨rfl, hu⟩)
  go_ret2
  exact ⟨rfl, ((Up.refl _).alloc _).trans hu⟩

set_option maxHeartbeats 1000000 in
theorem refDecode_val (n t : Nat) (q b : Int) (s : ByteArray) (w : World) (hs : s.size ≤ maxLen) (hn : n ≤ 16) (hg : goodB n t q b = true) (hok : okL s.data.toList n 2 t = false) :
    Calls Try.prog 21 #[.agg #[.int .i64 n, .int .i64 t, .int .i64 q, .int .i64 b], .string s] w fun e w' => e = .returned (.tuple #[.string ⟨#[]⟩, .int .i64 3]) ∧ Up w w' := by
  go_enter Try.func21, Try.ntmps21
  go_wp2_with fail
  refine (refGood_calls _ _ _ _ _).mono ?_
  rintro e w1 ⟨rfl, hu⟩
  obtain ⟨hc, hf⟩ := bcell hu
  go_wp2_with fail
  refine (Values_no n t q b s _ hs (by omega) hok).mono ?_
  rintro e w2 ⟨rfl, hu2⟩
  go_wp2_with fail
  go_ret2
  exact ⟨rfl, (((Up.refl _).alloc _).trans hu).trans hu2⟩

set_option maxHeartbeats 1000000 in
theorem refDecode_ok (n t : Nat) (q b : Int) (s : ByteArray) (w : World) (hs : s.size ≤ maxLen) (g : NT n t) (hg : goodB n t q b = true) (hok : okL s.data.toList n 2 t = true) :
    Calls Try.prog 21 #[.agg #[.int .i64 n, .int .i64 t, .int .i64 q, .int .i64 b], .string s] w fun e w' => e = .returned (.tuple #[.string ⟨(textsL 2 (decI n t (numsL s.data.toList 2 n))).toArray⟩, .int .i64 0]) ∧ Up w w' := by
  have ht := g.t3
  have ht2 := g.ht
  obtain ⟨hd1, hd2, hd3⟩ := g.half
  have HB : Hid _ := numsL_bounds s.data.toList 2 n t hok (by omega)
  go_enter Try.func21, Try.ntmps21
  go_wp2_with fail
  refine (refGood_calls _ _ _ _ _).mono ?_
  rintro e w1 ⟨rfl, hu⟩
  obtain ⟨hc, hf⟩ := bcell hu
  go_wp2_with fail
  refine (Values_ok n t q b s _ hs (by omega) hok).mono ?_
  rintro e w2 ⟨v, rfl, hown, hu2⟩
  obtain ⟨gx, cap, rfl, _, his⟩ := hown.is (ne_nil_of_length (numsL_length _ _ _) (by omega))
  rw [numsL_length]
  clear hc hf hown
  obtain ⟨hc, hf⟩ := bcell (hu.trans hu2)
  go_wp2_with fail
  refine (refSlots_calls n t q b _ gx cap _ g (numsL_length _ _ _) HB.out his).mono ?_
  rintro e w3 ⟨v, rfl, hown, hu3⟩
  obtain ⟨gy, cap2, rfl, _, his2⟩ := hown.is (ne_nil_of_length (decI_length _ _ _) (by omega))
  clear hc hf hown
  go_wp2_with fail
  refine (Texts_calls _ gy cap2 2 _ (by omega) (by rw [decI_length]; omega) (fun i hi => by have := decI_bounds g _ i hi; omega) his2).mono ?_
  rintro e w4 ⟨rfl, hu4⟩
  go_wp2_with fail
  go_ret2
  exact ⟨rfl, ((((Up.refl _).alloc _).trans hu).trans hu2).trans (hu3.trans hu4)⟩

set_option maxHeartbeats 400000 in
theorem refEncode_bad (n t q b : Int) (s : ByteArray) (w : World) (hg : goodB n t q b = false) :
    Calls Try.prog 23 #[.agg #[.int .i64 n, .int .i64 t, .int .i64 q, .int .i64 b], .string s] w fun e w' => e = .returned (.tuple #[.string ⟨#[]⟩, .int .i64 1]) ∧ Up w w' := by
  go_enter Try.func23, Try.ntmps23
  go_wp2_with (go_at_call 18; refine (refGood_calls _ _ _ _ _).mono ?_; rintro e w' ⟨rfl, hu⟩)
  go_ret2
  exact ⟨rfl, ((Up.refl _).alloc _).trans hu⟩

set_option maxHeartbeats 1000000 in
theorem refEncode_val (n t : Nat) (q b : Int) (s : ByteArray) (w : World) (hs : s.size ≤ maxLen) (hn : n ≤ 16) (hg : goodB n t q b = true) (hok : okL s.data.toList n 2 t = false) :
    Calls Try.prog 23 #[.agg #[.int .i64 n, .int .i64 t, .int .i64 q, .int .i64 b], .string s] w fun e w' => e = .returned (.tuple #[.string ⟨#[]⟩, .int .i64 3]) ∧ Up w w' := by
  go_enter Try.func23, Try.ntmps23
  go_wp2_with fail
  refine (refGood_calls _ _ _ _ _).mono ?_
  rintro e w1 ⟨rfl, hu⟩
  obtain ⟨hc, hf⟩ := bcell hu
  go_wp2_with fail
  refine (Values_no n t q b s _ hs (by omega) hok).mono ?_
  rintro e w2 ⟨rfl, hu2⟩
  go_wp2_with fail
  go_ret2
  exact ⟨rfl, (((Up.refl _).alloc _).trans hu).trans hu2⟩

theorem numsL_lt (l : List UInt8) (size n : Nat) (m : Int) (h : okL l n size m = true) : ∀ i, i < n → 0 ≤ (numsL l size n).getD i 0 ∧ (numsL l size n).getD i 0 < m := by
  intro i hi
  rw [numsL_getD _ _ _ _ hi]
  have := ((okL_iff _ _ _ _).1 h).2 i hi
  omega

set_option maxHeartbeats 1000000 in
theorem refEncode_ok (n t : Nat) (q b : Int) (s : ByteArray) (w : World) (hs : s.size ≤ maxLen) (g : NT n t) (hg : goodB n t q b = true) (hok : okL s.data.toList n 2 t = true) :
    Calls Try.prog 23 #[.agg #[.int .i64 n, .int .i64 t, .int .i64 q, .int .i64 b], .string s] w fun e w' => e = .returned (.tuple #[.string ⟨(textsL 2 (encI n t (numsL s.data.toList 2 n))).toArray⟩, .int .i64 0]) ∧ Up w w' := by
  have ht := g.t3
  have ht2 := g.ht
  obtain ⟨hd1, hd2, hd3⟩ := g.half
  have HB : Hid _ := numsL_lt s.data.toList 2 n t hok
  go_enter Try.func23, Try.ntmps23
  go_wp2_with fail
  refine (refGood_calls _ _ _ _ _).mono ?_
  rintro e w1 ⟨rfl, hu⟩
  obtain ⟨hc, hf⟩ := bcell hu
  go_wp2_with fail
  refine (Values_ok n t q b s _ hs (by omega) hok).mono ?_
  rintro e w2 ⟨v, rfl, hown, hu2⟩
  obtain ⟨gx, cap, rfl, _, his⟩ := hown.is (ne_nil_of_length (numsL_length _ _ _) (by omega))
  rw [numsL_length]
  clear hc hf hown
  obtain ⟨hc, hf⟩ := bcell (hu.trans hu2)
  go_wp2_with fail
  refine (Poly_calls n t q b _ gx cap _ g (numsL_length _ _ _) HB.out his).mono ?_
  rintro e w3 ⟨v, rfl, hown, hu3⟩
  obtain ⟨gy, cap2, rfl, _, his2⟩ := hown.is (ne_nil_of_length (encI_length _ _ _) (by omega))
  clear hc hf hown
  go_wp2_with fail
  refine (Texts_calls _ gy cap2 2 _ (by omega) (by rw [encI_length]; omega) (fun i hi => by have := encI_bounds g _ i hi; omega) his2).mono ?_
  rintro e w4 ⟨rfl, hu4⟩
  go_wp2_with fail
  go_ret2
  exact ⟨rfl, ((((Up.refl _).alloc _).trans hu).trans hu2).trans (hu3.trans hu4)⟩

end Go.Proofs.Ytjiekfplgmfgiaa
