/-
  Walks: the program's reading of a ciphertext.
  Walks: the program's refusing of what is no ciphertext.
-/
import Derived.Test.YtfpmonifpddbdaaCodeG
namespace Go.Proofs.Ytfpmonifpddbdaa
open Go.RowKit
set_option linter.unusedVariables false
set_option maxRecDepth 100000

/-- where the second polynomial begins -/
def midN (s : ByteArray) : Nat := 6 + (s.size - 6) / 2

theorem midN_int (s : ByteArray) (h : 6 ≤ s.size) : 6 + ((s.size : Int) - 6) / 2 = (midN s : Int) := by unfold midN; omega

theorem ctB_mid (s : ByteArray) (n : Nat) (t q : Int) (h6 : 6 ≤ s.size) : ctB s.data.toList n t q = true ↔ byteL s.data.toList 0 = 67 ∧ fitsB t q (ctE s.data.toList) = true ∧ okL (s.extract 6 (midN s)).data.toList n 4 q = true ∧ okL (s.extract (midN s) s.size).data.toList n 4 q = true := by
  rw [ctB_iff]
  constructor
  · rintro ⟨h1, h2, h3, h4, h5⟩
    have hl : s.size = 6 + 8 * n := by simpa using h1
    have hm : midN s = 6 + 4 * n := by unfold midN; omega
    refine ⟨h2, h5, ?_, ?_⟩
    · rw [hm, ext_mid s n hl]; exact h3
    · rw [hm, ext_end s n]; exact h4
  · rintro ⟨h2, h5, h3, h4⟩
    have l3 := ((okL_iff _ _ _ _).1 h3).1
    have l4 := ((okL_iff _ _ _ _).1 h4).1
    have hl : s.size = 6 + 8 * n := by
      simp at l3 l4
      unfold midN at l3 l4
      omega
    have hm : midN s = 6 + 4 * n := by unfold midN; omega
    refine ⟨by simpa using hl, h2, ?_, ?_, h5⟩
    · rw [hm, ext_mid s n hl] at h3; exact h3
    · rw [hm, ext_end s n] at h4; exact h4

theorem ctE_ext (s : ByteArray) (h6 : 6 ≤ s.size) (w : World) : Calls Try.prog 107 #[.string (s.extract 1 6)] w fun e w' => e = .returned (.int .i64 (ctE s.data.toList : Nat)) ∧ w' = w := by
  have h := textNumber_calls (s.extract 1 6) w (by simp; omega)
  have e := numL_ext s 1 5 (by omega)
  rw [e] at h
  exact h

/-- no ciphertext -/
abbrev ReadNoC (n : Nat) (t q b : Int) (s : ByteArray) (w : World) : Prop :=
  Calls Try.prog 75 #[.agg #[.int .i64 n, .int .i64 t, .int .i64 q, .int .i64 b], .string s] w fun e w' => e = .returned (.tuple #[.agg #[.int .i64 0, .slice none 0 0, .slice none 0 0], .bool false]) ∧ Up w w'

set_option maxHeartbeats 4000000 in
theorem cipherRead_ok (n : Nat) (t q b : Int) (s : ByteArray) (w : World) (hs : s.size ≤ maxLen) (hn : n ≤ 16) (hn1 : 1 ≤ n) (ht : 1 ≤ t) (ht2 : t ≤ 1021) (hq : 0 ≤ q) (hq2 : q ≤ 1073741823) (h : ctB s.data.toList n t q = true) :
    Calls Try.prog 75 #[.agg #[.int .i64 n, .int .i64 t, .int .i64 q, .int .i64 b], .string s] w fun e w' => ∃ g0 c0 g1 c1, e = .returned (.tuple #[.agg #[.int .i64 (ctE s.data.toList), .slice (some ⟨g0, 0, none⟩) n c0, .slice (some ⟨g1, 0, none⟩) n c1], .bool true]) ∧
      IsI w' g0 (ct0 s.data.toList n) ∧ IsI w' g1 (ct1 s.data.toList n) ∧ Up w w' := by
  obtain ⟨h1, h2, h3, h4, h5⟩ := (ctB_iff _ _ _ _).1 h
  have hl : s.size = 6 + 8 * n := by simpa using h1
  have h6 : 6 ≤ s.size := by omega
  have h0 : 0 < s.size := by omega
  rw [byteL_in s 0 h0] at h2
  have hne2 : (((s[0]'h0).toNat : Int) != 67) = false := by rw [h2]; rfl
  have hE : ctE s.data.toList < 1099511627776 := numL_le5 s.data.toList 1 5 (by omega)
  have HN : Hid _ := ctE_ext s h6
  have hm : midN s = 6 + 4 * n := by unfold midN; omega
  have HL1 : Hid (∀ W, Calls Try.prog 95 #[.string (s.extract 6 (midN s)), .int .i64 4, .int .i64 n, .int .i64 q] W fun e w' => ∃ g cap, e = .returned (.tuple #[.slice (some ⟨g, 0, none⟩) n cap, .bool true]) ∧ OwnI w' W.heap.size (.slice (some ⟨g, 0, none⟩) n cap) (ct0 s.data.toList n) ∧ Up W w') := fun W => by
    rw [hm]
    refine (Numbers_ok (s.extract 6 (6 + 4 * n)) n 4 q W (by simp; omega) (by omega) (by omega) (by omega) (by rw [ext_mid s n hl]; exact h3)).mono ?_
    rintro e w' ⟨v, rfl, hown, hu⟩
    rw [ext_mid s n hl, ct0_eq] at hown
    obtain ⟨g, cap, rfl, _, _⟩ := hown.is (ne_nil_of_length (ct0_length _ _) (by omega))
    rw [ct0_length] at hown ⊢
    exact ⟨g, cap, rfl, hown, hu⟩
  have HL2 : Hid (∀ W, Calls Try.prog 95 #[.string (s.extract (midN s) s.size), .int .i64 4, .int .i64 n, .int .i64 q] W fun e w' => ∃ g cap, e = .returned (.tuple #[.slice (some ⟨g, 0, none⟩) n cap, .bool true]) ∧ OwnI w' W.heap.size (.slice (some ⟨g, 0, none⟩) n cap) (ct1 s.data.toList n) ∧ Up W w') := fun W => by
    rw [hm]
    refine (Numbers_ok (s.extract (6 + 4 * n) s.size) n 4 q W (by simp; omega) (by omega) (by omega) (by omega) (by rw [ext_end s n]; exact h4)).mono ?_
    rintro e w' ⟨v, rfl, hown, hu⟩
    rw [ext_end s n, ct1_eq] at hown
    obtain ⟨g, cap, rfl, _, _⟩ := hown.is (ne_nil_of_length (ct1_length _ _) (by omega))
    rw [ct1_length] at hown ⊢
    exact ⟨g, cap, rfl, hown, hu⟩
  have H5 : Hid _ := h5
  have HMid : Hid _ := midN_int s h6
  have hM1 : (6 : Int) ≤ (midN s : Int) := by omega
  have hM2 : (midN s : Int) ≤ (s.size : Int) := by omega
  have hsz : (s.size : Int) ≤ 134 := by omega
  have h6i : (6 : Int) ≤ (s.size : Int) := by omega
  generalize midN s = M at HL1 HL2 HMid hM1 hM2
  generalize hEe : ctE s.data.toList = E at HN H5 hE
  have HEe : Hid _ := hEe
  clear h1 h2 h3 h4 h h5 hl hm hEe
  go_enter Try.func75, Try.ntmps75
  go_wp2_with fail
  refine Calls.mono (HN.out _) ?_
  rintro e w1 ⟨rfl, rfl⟩
  go_wp2_with fail
  refine (Fits_calls _ _ _ _ _ _ ht ht2 hq hq2 (by omega)).mono ?_
  rintro e w1 ⟨rfl, hu1⟩
  rw [H5.out]
  obtain ⟨hc, hf⟩ := bcell hu1
  have hq0 : w1.cell? ⟨w.heap.size, 0, none⟩ = some (.int .i64 (n : Int)) := by rw [hc _ _ (by simp; omega)]; simp
  have hq1 : w1.cell? ⟨w.heap.size, 2, none⟩ = some (.int .i64 q) := by rw [hc _ _ (by simp; omega)]; simp
  clear hc hf
  go_wp2_with fail
  rw [HMid.out]
  go_region_held3 (fun w' => w'.cell? ⟨w.heap.size, 0, none⟩ = some (.int .i64 (n : Int)) ∧ w'.cell? ⟨w.heap.size, 2, none⟩ = some (.int .i64 q))
    (first | go_keep | exact ⟨keepU hu2 (And.left (by assumption)), keepU hu2 (And.right (by assumption))⟩)
    ((first | (go_at_call 95; refine Calls.mono (HL1.out _) ?_; rintro e w2 ⟨g0, c0, rfl, ho0, hu2⟩)))
  have hu02 : Up ((w.alloc (.cells #[.int .i64 n, .int .i64 t, .int .i64 q, .int .i64 b] 26)).alloc (.cells #[.int .i64 0, .slice none 0 0, .slice none 0 0] 85)) w2 := Up.trans hu1 (Up.trans (Up.drew (Up.refl _)) hu2)
  have hs1 : w.heap.size + 2 ≤ w1.heap.size := by have := hu1.size; simp at this; omega
  clear hu2 hq0 hq1
  obtain ⟨hc, hf⟩ := bcell hu02
  have hq0 : w2.cell? ⟨w.heap.size, 0, none⟩ = some (.int .i64 (n : Int)) := by rw [hc _ _ (by simp; omega)]; simp
  have hq1 : w2.cell? ⟨w.heap.size, 2, none⟩ = some (.int .i64 q) := by rw [hc _ _ (by simp; omega)]; simp
  clear hc hf
  go_wp2_with fail
  go_region_held3 (fun w' => w'.cell? ⟨w.heap.size, 0, none⟩ = some (.int .i64 (n : Int)) ∧ w'.cell? ⟨w.heap.size, 2, none⟩ = some (.int .i64 q))
    (first | go_keep | exact ⟨keepU hu3 (And.left (by assumption)), keepU hu3 (And.right (by assumption))⟩)
    ((first | (go_at_call 95; refine Calls.mono (HL2.out _) ?_; rintro e w3 ⟨g1, c1, rfl, ho1, hu3⟩)))
  have hu3' : Up w2 w3 := Up.trans (Up.drew (Up.refl _)) hu3
  have ho0' := ho0.up hu3'
  have hu03 := hu02.trans hu3'
  have hs2 : w.heap.size + 2 ≤ w2.heap.size := by have := hu02.size; simp at this; omega
  obtain ⟨hc, hf⟩ := bcell hu03
  have hk0 : w3.cell? ⟨w.heap.size + 1, 0, none⟩ = some (.int .i64 0) := by rw [hc _ _ (by simp)]; simp
  have hk1 : w3.cell? ⟨w.heap.size + 1, 1, none⟩ = some (.slice none 0 0) := by rw [hc _ _ (by simp)]; simp
  have hk2 : w3.cell? ⟨w.heap.size + 1, 2, none⟩ = some (.slice none 0 0) := by rw [hc _ _ (by simp)]; simp
  clear hu3 ho0 hq0 hq1
  go_wp2_with fail
  clear hc hf
  have hb0 := ho0'.base (base' := w.heap.size + 2) (by simp; omega)
  have hb1 := ho1.base (base' := w.heap.size + 2) (by simp; omega)
  have hall : Below w.heap.size w w3 := (((Up.refl w).alloc _).alloc _).trans hu03
  clear ho0' ho1 hu03 hu3' hu02
  refine bodyPost_ret (v := .tuple #[.agg #[.int .i64 (E : Int), .slice (some ⟨g0, 0, none⟩) n c0, .slice (some ⟨g1, 0, none⟩) n c1], .bool true]) (by simp [results, Try.results75, go_sem, hk0, hk1, hk2]) rfl ⟨g0, c0, g1, c1, rfl, ?_, ?_, ?_⟩
  · exact OwnI.isI (ownsRow_setCell_below (ownsRow_setCell_below (ownsRow_setCell_below hb0 (by simp) _) (by simp) _) (by simp) _)
  · exact OwnI.isI (ownsRow_setCell_below (ownsRow_setCell_below (ownsRow_setCell_below hb1 (by simp) _) (by simp) _) (by simp) _)
  · exact ((hall.setCell (by simp) _).setCell (by simp) _).setCell (by simp) _

end Go.Proofs.Ytfpmonifpddbdaa

namespace Go.Proofs.Ytfpmonifpddbdaa
open Go.RowKit
set_option linter.unusedVariables false
set_option maxRecDepth 100000

set_option maxHeartbeats 1000000 in
theorem cipherRead_no1 (n : Nat) (t q b : Int) (s : ByteArray) (w : World) (hs : s.size ≤ maxLen) (h6 : s.size < 6) : ReadNoC n t q b s w := by
  have h6i : (s.size : Int) < 6 := by omega
  go_enter Try.func75, Try.ntmps75
  go_wp2_with fail
  refine bodyPost_ret (v := .tuple #[.agg #[.int .i64 0, .slice none 0 0, .slice none 0 0], .bool false]) (by simp [results, Try.results75, go_sem]) rfl ⟨rfl, ?_⟩
  have hall : Below w.heap.size w ((w.alloc (.cells #[.int .i64 n, .int .i64 t, .int .i64 q, .int .i64 b] 26)).alloc (.cells #[.int .i64 0, .slice none 0 0, .slice none 0 0] 85)) := ((Up.refl w).alloc _).alloc _
  first | exact hall | exact ((hall.setCell (by simp) _).setCell (by simp) _).setCell (by simp) _

set_option maxHeartbeats 1000000 in
theorem cipherRead_no2 (n : Nat) (t q b : Int) (s : ByteArray) (w : World) (hs : s.size ≤ maxLen) (h6 : 6 ≤ s.size) (h : byteL s.data.toList 0 ≠ 67) : ReadNoC n t q b s w := by
  have h6i : (6 : Int) ≤ (s.size : Int) := by omega
  have h0 : 0 < s.size := by omega
  rw [byteL_in s 0 h0] at h
  have hne2 : (((s[0]'h0).toNat : Int) != 67) = true := by rw [bne_iff_ne]; omega
  clear h
  go_enter Try.func75, Try.ntmps75
  go_wp2_with fail
  refine bodyPost_ret (v := .tuple #[.agg #[.int .i64 0, .slice none 0 0, .slice none 0 0], .bool false]) (by simp [results, Try.results75, go_sem]) rfl ⟨rfl, ?_⟩
  have hall : Below w.heap.size w ((w.alloc (.cells #[.int .i64 n, .int .i64 t, .int .i64 q, .int .i64 b] 26)).alloc (.cells #[.int .i64 0, .slice none 0 0, .slice none 0 0] 85)) := ((Up.refl w).alloc _).alloc _
  first | exact hall | exact ((hall.setCell (by simp) _).setCell (by simp) _).setCell (by simp) _

set_option maxHeartbeats 2000000 in
theorem cipherRead_no3 (n : Nat) (t q b : Int) (s : ByteArray) (w : World) (hs : s.size ≤ maxLen) (ht : 1 ≤ t) (ht2 : t ≤ 1021) (hq : 0 ≤ q) (hq2 : q ≤ 1073741823) (h6 : 6 ≤ s.size) (h : byteL s.data.toList 0 = 67) (h5 : fitsB t q (ctE s.data.toList) = false) : ReadNoC n t q b s w := by
  have hs2 : (s.size : Int) ≤ 9223372036854775807 := by unfold maxLen at hs; omega
  have h6i : (6 : Int) ≤ (s.size : Int) := by omega
  have h0 : 0 < s.size := by omega
  rw [byteL_in s 0 h0] at h
  have hne2 : (((s[0]'h0).toNat : Int) != 67) = false := by rw [h]; rfl
  have hE : ctE s.data.toList < 1099511627776 := numL_le5 s.data.toList 1 5 (by omega)
  have HN : Hid _ := ctE_ext s h6
  have H5 : Hid _ := h5
  generalize ctE s.data.toList = E at HN H5 hE
  clear h h5
  go_enter Try.func75, Try.ntmps75
  go_wp2_with fail
  refine Calls.mono (HN.out _) ?_
  rintro e w1 ⟨rfl, rfl⟩
  go_wp2_with fail
  refine (Fits_calls _ _ _ _ _ _ ht ht2 hq hq2 (by omega)).mono ?_
  rintro e w1 ⟨rfl, hu1⟩
  rw [H5.out]
  obtain ⟨hc, hf⟩ := bcell hu1
  have hk0 : w1.cell? ⟨w.heap.size + 1, 0, none⟩ = some (.int .i64 0) := by rw [hc _ _ (by simp)]; simp
  have hk1 : w1.cell? ⟨w.heap.size + 1, 1, none⟩ = some (.slice none 0 0) := by rw [hc _ _ (by simp)]; simp
  have hk2 : w1.cell? ⟨w.heap.size + 1, 2, none⟩ = some (.slice none 0 0) := by rw [hc _ _ (by simp)]; simp
  go_wp2_with fail
  have hall : Below w.heap.size w w1 := (((Up.refl w).alloc _).alloc _).trans hu1
  refine bodyPost_ret (v := .tuple #[.agg #[.int .i64 0, .slice none 0 0, .slice none 0 0], .bool false]) (by simp [results, Try.results75, go_sem, hk0, hk1, hk2]) rfl ⟨rfl, ?_⟩
  exact ((hall.setCell (by simp) _).setCell (by simp) _).setCell (by simp) _

set_option maxHeartbeats 4000000 in
theorem cipherRead_no4 (n : Nat) (t q b : Int) (s : ByteArray) (w : World) (hs : s.size ≤ maxLen) (hn : n ≤ 16) (ht : 1 ≤ t) (ht2 : t ≤ 1021) (hq : 0 ≤ q) (hq2 : q ≤ 1073741823) (h6 : 6 ≤ s.size) (h : byteL s.data.toList 0 = 67) (h5 : fitsB t q (ctE s.data.toList) = true) (h3 : okL (s.extract 6 (midN s)).data.toList n 4 q = false) : ReadNoC n t q b s w := by
  have hs2 : (s.size : Int) ≤ 9223372036854775807 := by unfold maxLen at hs; omega
  have h6i : (6 : Int) ≤ (s.size : Int) := by omega
  have h0 : 0 < s.size := by omega
  rw [byteL_in s 0 h0] at h
  have hne2 : (((s[0]'h0).toNat : Int) != 67) = false := by rw [h]; rfl
  have hE : ctE s.data.toList < 1099511627776 := numL_le5 s.data.toList 1 5 (by omega)
  have HN : Hid _ := ctE_ext s h6
  have H5 : Hid _ := h5
  have HL1 : Hid (∀ W, Calls Try.prog 95 #[.string (s.extract 6 (midN s)), .int .i64 4, .int .i64 n, .int .i64 q] W fun e w' => e = .returned (.tuple #[.slice none 0 0, .bool false]) ∧ Up W w') := fun W =>
    Numbers_no (s.extract 6 (midN s)) n 4 q W (by simp; unfold midN; omega) (by omega) (by omega) (by omega) h3
  have HMid : Hid _ := midN_int s h6
  have hM1 : (6 : Int) ≤ (midN s : Int) := by unfold midN; omega
  have hM2 : (midN s : Int) ≤ (s.size : Int) := by unfold midN; omega
  generalize midN s = M at HL1 HMid hM1 hM2
  generalize ctE s.data.toList = E at HN H5 hE
  clear h h5 h3
  go_enter Try.func75, Try.ntmps75
  go_wp2_with fail
  refine Calls.mono (HN.out _) ?_
  rintro e w1 ⟨rfl, rfl⟩
  go_wp2_with fail
  refine (Fits_calls _ _ _ _ _ _ ht ht2 hq hq2 (by omega)).mono ?_
  rintro e w1 ⟨rfl, hu1⟩
  rw [H5.out]
  obtain ⟨hc, hf⟩ := bcell hu1
  have hq0 : w1.cell? ⟨w.heap.size, 0, none⟩ = some (.int .i64 (n : Int)) := by rw [hc _ _ (by simp; omega)]; simp
  have hq1 : w1.cell? ⟨w.heap.size, 2, none⟩ = some (.int .i64 q) := by rw [hc _ _ (by simp; omega)]; simp
  clear hc hf
  go_wp2_with fail
  rw [HMid.out]
  go_region_held3 (fun w' => w'.cell? ⟨w.heap.size, 0, none⟩ = some (.int .i64 (n : Int)) ∧ w'.cell? ⟨w.heap.size, 2, none⟩ = some (.int .i64 q))
    (first | go_keep | exact ⟨keepU hu2 (And.left (by assumption)), keepU hu2 (And.right (by assumption))⟩)
    ((first | (go_at_call 95; refine Calls.mono (HL1.out _) ?_; rintro e w2 ⟨rfl, hu2⟩)))
  have hu02 : Up ((w.alloc (.cells #[.int .i64 n, .int .i64 t, .int .i64 q, .int .i64 b] 26)).alloc (.cells #[.int .i64 0, .slice none 0 0, .slice none 0 0] 85)) w2 := Up.trans hu1 (Up.trans (Up.drew (Up.refl _)) hu2)
  clear hu2 hq0 hq1
  obtain ⟨hc, hf⟩ := bcell hu02
  have hk0 : w2.cell? ⟨w.heap.size + 1, 0, none⟩ = some (.int .i64 0) := by rw [hc _ _ (by simp)]; simp
  have hk1 : w2.cell? ⟨w.heap.size + 1, 1, none⟩ = some (.slice none 0 0) := by rw [hc _ _ (by simp)]; simp
  have hk2 : w2.cell? ⟨w.heap.size + 1, 2, none⟩ = some (.slice none 0 0) := by rw [hc _ _ (by simp)]; simp
  go_wp2_with fail
  clear hc hf
  have hall : Below w.heap.size w w2 := (((Up.refl w).alloc _).alloc _).trans hu02
  refine bodyPost_ret (v := .tuple #[.agg #[.int .i64 0, .slice none 0 0, .slice none 0 0], .bool false]) (by simp [results, Try.results75, go_sem, hk0, hk1, hk2]) rfl ⟨rfl, ?_⟩
  exact ((hall.setCell (by simp) _).setCell (by simp) _).setCell (by simp) _

set_option maxHeartbeats 4000000 in
theorem cipherRead_no5 (n : Nat) (t q b : Int) (s : ByteArray) (w : World) (hs : s.size ≤ maxLen) (hn : n ≤ 16) (ht : 1 ≤ t) (ht2 : t ≤ 1021) (hq : 0 ≤ q) (hq2 : q ≤ 1073741823) (h6 : 6 ≤ s.size) (h : byteL s.data.toList 0 = 67) (h5 : fitsB t q (ctE s.data.toList) = true) (h3 : okL (s.extract 6 (midN s)).data.toList n 4 q = true) (h4 : okL (s.extract (midN s) s.size).data.toList n 4 q = false) : ReadNoC n t q b s w := by
  have hs2 : (s.size : Int) ≤ 9223372036854775807 := by unfold maxLen at hs; omega
  have h6i : (6 : Int) ≤ (s.size : Int) := by omega
  have h0 : 0 < s.size := by omega
  rw [byteL_in s 0 h0] at h
  have hne2 : (((s[0]'h0).toNat : Int) != 67) = false := by rw [h]; rfl
  have hE : ctE s.data.toList < 1099511627776 := numL_le5 s.data.toList 1 5 (by omega)
  have HN : Hid _ := ctE_ext s h6
  have H5 : Hid _ := h5
  have HL1 : Hid (∀ W, Calls Try.prog 95 #[.string (s.extract 6 (midN s)), .int .i64 4, .int .i64 n, .int .i64 q] W fun e w' => ∃ v, e = .returned (.tuple #[v, .bool true]) ∧ Up W w') := fun W => by
    refine (Numbers_ok (s.extract 6 (midN s)) n 4 q W (by simp; unfold midN; omega) (by omega) (by omega) (by omega) h3).mono ?_
    rintro e w' ⟨v, rfl, _, hu⟩
    exact ⟨v, rfl, hu⟩
  have HL2 : Hid (∀ W, Calls Try.prog 95 #[.string (s.extract (midN s) s.size), .int .i64 4, .int .i64 n, .int .i64 q] W fun e w' => e = .returned (.tuple #[.slice none 0 0, .bool false]) ∧ Up W w') := fun W =>
    Numbers_no (s.extract (midN s) s.size) n 4 q W (by simp; unfold midN; omega) (by omega) (by omega) (by omega) h4
  have HMid : Hid _ := midN_int s h6
  have hM1 : (6 : Int) ≤ (midN s : Int) := by unfold midN; omega
  have hM2 : (midN s : Int) ≤ (s.size : Int) := by unfold midN; omega
  generalize midN s = M at HL1 HL2 HMid hM1 hM2
  generalize ctE s.data.toList = E at HN H5 hE
  clear h h5 h3 h4
  go_enter Try.func75, Try.ntmps75
  go_wp2_with fail
  refine Calls.mono (HN.out _) ?_
  rintro e w1 ⟨rfl, rfl⟩
  go_wp2_with fail
  refine (Fits_calls _ _ _ _ _ _ ht ht2 hq hq2 (by omega)).mono ?_
  rintro e w1 ⟨rfl, hu1⟩
  rw [H5.out]
  obtain ⟨hc, hf⟩ := bcell hu1
  have hq0 : w1.cell? ⟨w.heap.size, 0, none⟩ = some (.int .i64 (n : Int)) := by rw [hc _ _ (by simp; omega)]; simp
  have hq1 : w1.cell? ⟨w.heap.size, 2, none⟩ = some (.int .i64 q) := by rw [hc _ _ (by simp; omega)]; simp
  clear hc hf
  go_wp2_with fail
  rw [HMid.out]
  go_region_held3 (fun w' => w'.cell? ⟨w.heap.size, 0, none⟩ = some (.int .i64 (n : Int)) ∧ w'.cell? ⟨w.heap.size, 2, none⟩ = some (.int .i64 q))
    (first | go_keep | exact ⟨keepU hu2 (And.left (by assumption)), keepU hu2 (And.right (by assumption))⟩)
    ((first | (go_at_call 95; refine Calls.mono (HL1.out _) ?_; rintro e w2 ⟨v2, rfl, hu2⟩)))
  have hu02 : Up ((w.alloc (.cells #[.int .i64 n, .int .i64 t, .int .i64 q, .int .i64 b] 26)).alloc (.cells #[.int .i64 0, .slice none 0 0, .slice none 0 0] 85)) w2 := Up.trans hu1 (Up.trans (Up.drew (Up.refl _)) hu2)
  clear hu2 hq0 hq1
  obtain ⟨hc, hf⟩ := bcell hu02
  have hq0 : w2.cell? ⟨w.heap.size, 0, none⟩ = some (.int .i64 (n : Int)) := by rw [hc _ _ (by simp; omega)]; simp
  have hq1 : w2.cell? ⟨w.heap.size, 2, none⟩ = some (.int .i64 q) := by rw [hc _ _ (by simp; omega)]; simp
  clear hc hf
  go_wp2_with fail
  go_region_held3 (fun w' => w'.cell? ⟨w.heap.size, 0, none⟩ = some (.int .i64 (n : Int)) ∧ w'.cell? ⟨w.heap.size, 2, none⟩ = some (.int .i64 q))
    (first | go_keep | exact ⟨keepU hu3 (And.left (by assumption)), keepU hu3 (And.right (by assumption))⟩)
    ((first | (go_at_call 95; refine Calls.mono (HL2.out _) ?_; rintro e w3 ⟨rfl, hu3⟩)))
  have hu03 := hu02.trans (Up.trans (Up.drew (Up.refl _)) hu3)
  clear hu3 hq0 hq1
  obtain ⟨hc, hf⟩ := bcell hu03
  have hk0 : w3.cell? ⟨w.heap.size + 1, 0, none⟩ = some (.int .i64 0) := by rw [hc _ _ (by simp)]; simp
  have hk1 : w3.cell? ⟨w.heap.size + 1, 1, none⟩ = some (.slice none 0 0) := by rw [hc _ _ (by simp)]; simp
  have hk2 : w3.cell? ⟨w.heap.size + 1, 2, none⟩ = some (.slice none 0 0) := by rw [hc _ _ (by simp)]; simp
  go_wp2_with fail
  clear hc hf
  have hall : Below w.heap.size w w3 := (((Up.refl w).alloc _).alloc _).trans hu03
  refine bodyPost_ret (v := .tuple #[.agg #[.int .i64 0, .slice none 0 0, .slice none 0 0], .bool false]) (by simp [results, Try.results75, go_sem, hk0, hk1, hk2]) rfl ⟨rfl, ?_⟩
  exact ((hall.setCell (by simp) _).setCell (by simp) _).setCell (by simp) _

theorem cipherRead_no (n : Nat) (t q b : Int) (s : ByteArray) (w : World) (hs : s.size ≤ maxLen) (hn : n ≤ 16) (ht : 1 ≤ t) (ht2 : t ≤ 1021) (hq : 0 ≤ q) (hq2 : q ≤ 1073741823) (h : ctB s.data.toList n t q = false) : ReadNoC n t q b s w := by
  by_cases h6 : 6 ≤ s.size
  · by_cases h1 : byteL s.data.toList 0 = 67
    · cases h5 : fitsB t q (ctE s.data.toList) with
      | false => exact cipherRead_no3 n t q b s w hs ht ht2 hq hq2 h6 h1 h5
      | true =>
        cases h3 : okL (s.extract 6 (midN s)).data.toList n 4 q with
        | false => exact cipherRead_no4 n t q b s w hs hn ht ht2 hq hq2 h6 h1 h5 h3
        | true =>
          cases h4 : okL (s.extract (midN s) s.size).data.toList n 4 q with
          | false => exact cipherRead_no5 n t q b s w hs hn ht ht2 hq hq2 h6 h1 h5 h3 h4
          | true => rw [(ctB_mid s n t q h6).2 ⟨h1, h5, h3, h4⟩] at h; exact absurd h (by decide)
    · exact cipherRead_no2 n t q b s w hs h6 h1
  · exact cipherRead_no1 n t q b s w hs (by omega)

end Go.Proofs.Ytfpmonifpddbdaa
