/-
  Walks: the program's reading of a ciphertext.
  Walks: the program's refusing of what is no ciphertext.
-/
import Derived.Test.YtcjhgbljhpflfabGreatCodeG
import Derived.Test.YtcjhgbljhpflfabGreatCodeU
namespace Go.Proofs.YtcjhgbljhpflfabGreat
open Go.RowKit
set_option linter.unusedVariables false
set_option maxRecDepth 100000

theorem ext_six (s : ByteArray) : (s.extract 6 s.size).data.toList = s.data.toList.drop 6 := by
  rw [ext_list s _ s.size (Nat.le_refl _), List.take_of_length_le (by simp)]

theorem ct_row0 (l : List UInt8) (n : Nat) : rowL (l.drop 6) 4 n 0 = ct0 l n := by
  refine List.map_congr_left fun i _ => ?_
  rw [numL_drop, show 6 + (0 * (4 * n) + i * 4) = 6 + 4 * i by omega]

theorem ct_row1 (l : List UInt8) (n : Nat) : rowL (l.drop 6) 4 n 1 = ct1 l n := by
  refine List.map_congr_left fun i _ => ?_
  rw [numL_drop, show 6 + (1 * (4 * n) + i * 4) = 6 + 4 * n + 4 * i by omega]

theorem ctB_two (l : List UInt8) (n : Nat) (t q : Int) (hn : 1 ≤ n) (h6 : 6 ≤ l.length) : ctB l n t q = true ↔ byteL l 0 = 67 ∧ fitsB t q (ctE l) = true ∧ okL (l.drop 6) (2 * n) 4 q = true := by
  have e0 : ((l.drop 6).take (0 * (4 * n) + 4 * n)).drop (0 * (4 * n)) = (l.take (6 + 4 * n)).drop 6 := by
    rw [Nat.zero_mul, List.drop_zero, Nat.zero_add, List.drop_take, Nat.add_sub_cancel_left]
  rw [ctB_iff, okL_chunks _ _ _ _ _ hn]
  have e1 : l.length = 6 + 8 * n → ((l.drop 6).take (1 * (4 * n) + 4 * n)).drop (1 * (4 * n)) = l.drop (6 + 4 * n) := fun hl => by
    rw [List.take_of_length_le (by rw [List.length_drop]; omega), List.drop_drop, Nat.one_mul]
  constructor
  · rintro ⟨h1, h2, h3, h4, h5⟩
    refine ⟨h2, h5, by rw [List.length_drop]; omega, fun k hk => ?_⟩
    match k, hk with
    | 0, _ => rw [e0]; exact h3
    | 1, _ => rw [e1 h1]; exact h4
  · rintro ⟨h2, h5, h1, hk⟩
    have hl : l.length = 6 + 8 * n := by rw [List.length_drop] at h1; omega
    have h3 := hk 0 (by omega)
    have h4 := hk 1 (by omega)
    rw [e0] at h3
    rw [e1 hl] at h4
    exact ⟨hl, h2, h3, h4, h5⟩

theorem ctE_ext (s : ByteArray) (h6 : 6 ≤ s.size) (w : World) : Calls Tryz.prog 130 #[.string (s.extract 1 6)] w fun e w' => e = .returned (.int .i64 (ctE s.data.toList : Nat)) ∧ w' = w := by
  have h := textNumber_calls (s.extract 1 6) w (by simp; omega)
  have e := numL_ext s 1 5 (by omega)
  rw [e] at h
  exact h

theorem keepSet3 {W : World} {H r k a b c : Nat} {x y z u : Value} (hne : H ≠ r) (h : W.cell? ⟨H, k, none⟩ = some u) : (((W.setCell ⟨r, a, none⟩ x).setCell ⟨r, b, none⟩ y).setCell ⟨r, c, none⟩ z).drew.cell? ⟨H, k, none⟩ = some u := by
  show (((W.setCell ⟨r, a, none⟩ x).setCell ⟨r, b, none⟩ y).setCell ⟨r, c, none⟩ z).cell? ⟨H, k, none⟩ = some u
  rw [World.cell?_setCell_far _ ⟨r, c, none⟩ ⟨H, k, none⟩ _ (fun e => hne e.symm), World.cell?_setCell_far _ ⟨r, b, none⟩ ⟨H, k, none⟩ _ (fun e => hne e.symm), World.cell?_setCell_far _ ⟨r, a, none⟩ ⟨H, k, none⟩ _ (fun e => hne e.symm)]
  exact h

set_option maxHeartbeats 4000000 in
theorem cipherRead_ok (n : Nat) (t q b : Int) (s : ByteArray) (w : World) (hs : s.size ≤ maxLen) (hn : n ≤ 16) (hn1 : 2 ≤ n) (ht : 1 ≤ t) (ht2 : t ≤ 1021) (hq : 0 ≤ q) (hq2 : q ≤ 1073741823) (h : ctB s.data.toList n t q = true) :
    Calls Tryz.prog 84 #[.agg #[.int .i64 n, .int .i64 t, .int .i64 q, .int .i64 b], .string s] w fun e w' => ∃ g0 c0 g1 c1, e = .returned (.tuple #[.agg #[.int .i64 (ctE s.data.toList), .slice (some ⟨g0, 0, none⟩) n c0, .slice (some ⟨g1, 0, none⟩) n c1], .bool true]) ∧
      IsI w' g0 (ct0 s.data.toList n) ∧ IsI w' g1 (ct1 s.data.toList n) ∧ Up w w' := by
  obtain ⟨h1, h2, h3, h4, h5⟩ := (ctB_iff _ _ _ _).1 h
  have hl : s.size = 6 + 8 * n := by simpa using h1
  have h6 : 6 ≤ s.size := by omega
  have h0 : 0 < s.size := by omega
  rw [byteL_in s 0 h0] at h2
  have hne2 : (((s[0]'h0).toNat : Int) != 67) = false := by rw [h2]; rfl
  have hE : ctE s.data.toList < 1099511627776 := numL_le5 s.data.toList 1 5 (by omega)
  have HN : Hid _ := ctE_ext s h6
  have HL1 : Hid (∀ W, Calls Tryz.prog 88 #[.string (s.extract 6 s.size), .int .i64 4, .int .i64 n, .int .i64 2, .int .i64 q] W fun e w' => ∃ H cap gs caps, e = .returned (.tuple #[.slice (some ⟨H, 0, none⟩) 2 cap, .bool true]) ∧ RowsAt w' H 2 n gs caps (rowL (s.data.toList.drop 6) 4 n) ∧ W.heap.size ≤ H ∧ Up W w') := fun W => by
    have := Lists_ok (s.extract 6 s.size) n 2 4 q W (by omega) (by omega) (by omega) (by omega) (by omega) (by omega) (by rw [ext_six]; exact ((ctB_two s.data.toList n t q (by omega) (by simp; omega)).1 h).2.2)
    rw [ext_six] at this
    exact this
  have H5 : Hid _ := h5
  have hsz : (s.size : Int) ≤ 134 := by omega
  have h6i : (6 : Int) ≤ (s.size : Int) := by omega
  generalize hEe : ctE s.data.toList = E at HN H5 hE
  have HEe : Hid _ := hEe
  clear h1 h2 h3 h4 h h5 hl hEe
  go_enter Tryz.func84, Tryz.ntmps84
  go_wp2_with fail
  refine Calls.mono (HN.out _) ?_
  rintro e w1 ⟨rfl, rfl⟩
  go_wp2_with fail
  refine (Fits_calls _ _ _ _ _ _ ht ht2 hq hq2 (by omega)).mono ?_
  rintro e w1 ⟨rfl, hu1⟩
  rw [H5.out]
  obtain ⟨hc, hf⟩ := bcell hu1
  have hq0 : w1.cell? ⟨w.heap.size, 0, none⟩ = some (.int .i64 (n : Int)) := by rw [hc _ _ (by simp; omega)]; simp
  have hq1 : w1.cell? ⟨w.heap.size, 2, none⟩ = some (.int .i64 q) := by rw [hc _ _ (by simp; omega)]; simp
  clear hc hf
  go_wp2_with fail
  go_region_held3 (fun w' => w'.cell? ⟨w.heap.size, 0, none⟩ = some (.int .i64 (n : Int)) ∧ w'.cell? ⟨w.heap.size, 2, none⟩ = some (.int .i64 q))
    (first | go_keep | exact ⟨keepU hu2 (And.left (by assumption)), keepU hu2 (And.right (by assumption))⟩)
    ((first | (go_at_call 88; refine Calls.mono (HL1.out _) ?_; rintro e w2 ⟨H, cap, gs, caps, rfl, hR, hH, hu2⟩)))
  have hu02 : Up ((w.alloc (.cells #[.int .i64 n, .int .i64 t, .int .i64 q, .int .i64 b] 28)).alloc (.cells #[.int .i64 0, .slice none 0 0, .slice none 0 0] 84)) w2 := Up.trans hu1 (Up.trans (Up.drew (Up.refl _)) hu2)
  have hs1 : w.heap.size + 2 ≤ w1.heap.size := by have := hu1.size; simp at this; omega
  have hHne : H ≠ w.heap.size + 1 := by simp at hH; omega
  clear hu2 hq0 hq1 hu1
  obtain ⟨hc, hf⟩ := bcell hu02
  have hk0 : w2.cell? ⟨w.heap.size + 1, 0, none⟩ = some (.int .i64 0) := by rw [hc _ _ (by simp)]; simp
  have hk1 : w2.cell? ⟨w.heap.size + 1, 1, none⟩ = some (.slice none 0 0) := by rw [hc _ _ (by simp)]; simp
  have hk2 : w2.cell? ⟨w.heap.size + 1, 2, none⟩ = some (.slice none 0 0) := by rw [hc _ _ (by simp)]; simp
  have hz0 : w2.frozen? ⟨w.heap.size + 1, 0, none⟩ = false := by rw [hf _ _ (by simp)]; simp
  have hz1 : w2.frozen? ⟨w.heap.size + 1, 1, none⟩ = false := by rw [hf _ _ (by simp)]; simp
  have hz2 : w2.frozen? ⟨w.heap.size + 1, 2, none⟩ = false := by rw [hf _ _ (by simp)]; simp
  have hh0 := hR.head 0 (by omega)
  have hh1 := hR.head 1 (by omega)
  have j0 := hR.row 0 (by omega)
  have j1 := hR.row 1 (by omega)
  rw [ct_row0] at j0
  rw [ct_row1] at j1
  clear hc hf
  go_wp2_with fail
  go_region_held3 (fun w' => w'.cell? ⟨H, 0, none⟩ = some (.slice (some ⟨gs 0, 0, none⟩) n (caps 0)) ∧ w'.cell? ⟨H, 1, none⟩ = some (.slice (some ⟨gs 1, 0, none⟩) n (caps 1)))
    (first | exact ⟨keepSet3 hHne hh0, keepSet3 hHne hh1⟩ | go_keep)
    (fail)
  have n0 := j0.ne (by rw [ct0_length]; omega) hk1
  have n1 := j1.ne (by rw [ct1_length]; omega) hk1
  have hall : Below w.heap.size w w2 := (((Up.refl w).alloc _).alloc _).trans hu02
  clear hh0 hh1 hu02 hR
  go_wp2_with fail
  refine bodyPost_ret (v := .tuple #[.agg #[.int .i64 (E : Int), .slice (some ⟨gs 0, 0, none⟩) n (caps 0), .slice (some ⟨gs 1, 0, none⟩) n (caps 1)], .bool true]) (by simp [results, Tryz.results84, go_sem, hk0, hk1, hk2]) rfl ⟨gs 0, caps 0, gs 1, caps 1, rfl, ?_, ?_, ?_⟩
  · exact (((j0.set n0 _ _).set n0 _ _).set n0 _ _).up (Up.drew (Up.refl _))
  · exact (((j1.set n1 _ _).set n1 _ _).set n1 _ _).up (Up.drew (Up.refl _))
  · exact Up.drew (((hall.setCell (by simp) _).setCell (by simp) _).setCell (by simp) _)

end Go.Proofs.YtcjhgbljhpflfabGreat

namespace Go.Proofs.YtcjhgbljhpflfabGreat
open Go.RowKit
set_option linter.unusedVariables false
set_option maxRecDepth 100000

end Go.Proofs.YtcjhgbljhpflfabGreat
