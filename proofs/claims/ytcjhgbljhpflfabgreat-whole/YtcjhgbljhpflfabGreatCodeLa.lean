/-
  Walks: the program's reading of a layer.
  Walks: the program's reading of a layer, where it is none.
-/
import Derived.Test.YtcjhgbljhpflfabGreatCodeJ
import Derived.Test.YtcjhgbljhpflfabGreatCodeQ
import Derived.Test.YtcjhgbljhpflfabGreatWalksNa
namespace Go.Proofs.YtcjhgbljhpflfabGreat
open Go.RowKit
set_option linter.unusedVariables false
set_option maxRecDepth 100000

theorem okL_split (l : List UInt8) (a c w : Nat) (m : Int) : okL l (a + c) w m = true ↔ okL (l.take (a * w)) a w m = true ∧ okL (l.drop (a * w)) c w m = true := by
  have hstep : ∀ i, i < a → i * w + w ≤ a * w := fun i hi => by rw [← Nat.succ_mul]; exact Nat.mul_le_mul_right _ hi
  rw [okL_iff, okL_iff, okL_iff, List.length_take, List.length_drop, Nat.add_mul]
  constructor
  · rintro ⟨h1, h2⟩
    refine ⟨⟨by omega, fun i hi => ?_⟩, by omega, fun i hi => ?_⟩
    · rw [numL_take _ _ _ _ (hstep i hi)]
      exact h2 i (by omega)
    · rw [numL_drop, ← Nat.add_mul]
      exact h2 (a + i) (by omega)
  · rintro ⟨⟨h1, h2⟩, h3, h4⟩
    refine ⟨by omega, fun i hi => ?_⟩
    rcases Nat.lt_or_ge i a with c1 | c1
    · have := h2 i c1
      rw [numL_take _ _ _ _ (hstep i c1)] at this
      exact this
    · have := h4 (i - a) (by omega)
      rw [numL_drop, ← Nat.add_mul, Nat.add_sub_cancel' c1] at this
      exact this

/-- the k-th row of a layer's matrix -/
def matR (n : Nat) (l : List UInt8) (k : Nat) : List Int := (List.range (n / 2)).map fun i => (numL l (entN n k i) 2 : Int)
/-- a layer's bias -/
def biasI (n : Nat) (l : List UInt8) : List Int := (List.range n).map fun i => (apB n l i : Int)

theorem matR_length (n : Nat) (l : List UInt8) (k : Nat) : (matR n l k).length = n / 2 := by simp [matR]
theorem biasI_length (n : Nat) (l : List UInt8) : (biasI n l).length = n := by simp [biasI]

theorem mat_row (n : Nat) (l l' : List UInt8) (k : Nat) (hl : l' = ((l.drop 3).take (n / 2 * (n / 2) * 2))) (hk : k < n / 2) : rowL l' 2 (n / 2) k = matR n l k := by
  subst hl
  refine List.map_congr_left fun i hi => ?_
  have hi := List.mem_range.1 hi
  have h1 : k * (2 * (n / 2)) + i * 2 + 2 ≤ n / 2 * (n / 2) * 2 := by
    have h2 : (k + 1) * (n / 2) ≤ n / 2 * (n / 2) := Nat.mul_le_mul_right _ hk
    rw [Nat.succ_mul] at h2
    rw [Nat.mul_left_comm]
    omega
  rw [numL_take _ _ _ _ h1, numL_drop]
  show ((numL l (3 + (k * (2 * (n / 2)) + i * 2)) 2 : Nat) : Int) = ((numL l (3 + 2 * (k * (n / 2) + i)) 2 : Nat) : Int)
  rw [Nat.mul_left_comm, Nat.mul_add, Nat.mul_comm i 2]

theorem bias_row (n : Nat) (l : List UInt8) : numsL (l.drop (3 + 2 * (n / 2 * (n / 2)))) 2 n = biasI n l := by
  rw [numsL_range]
  refine List.map_congr_left fun i hi => ?_
  rw [numL_drop]
  show ((numL l (3 + 2 * (n / 2 * (n / 2)) + i * 2) 2 : Nat) : Int) = ((numL l (3 + 2 * (n / 2 * (n / 2)) + 2 * i) 2 : Nat) : Int)
  rw [Nat.mul_comm i 2]

theorem layB_two (l : List UInt8) (n : Nat) (t : Int) : layB l n t = true ↔ (3 + 2 * (n / 2 * (n / 2)) ≤ l.length ∧ byteL l 0 = 76) ∧ (byteL l 1 ≤ 1 ∧ byteL l 2 ≤ 7) ∧ okL ((l.drop 3).take (n / 2 * (n / 2) * 2)) (n / 2 * (n / 2)) 2 t = true ∧ okL (l.drop (3 + 2 * (n / 2 * (n / 2)))) n 2 t = true := by
  rw [layB_iff, okL_split, List.drop_drop, show 3 + n / 2 * (n / 2) * 2 = 3 + 2 * (n / 2 * (n / 2)) by omega]
  unfold sizN
  constructor
  · rintro ⟨h1, h2, h3, h4, h5, h6⟩
    exact ⟨⟨by omega, h2⟩, ⟨h3, h4⟩, h5, h6⟩
  · rintro ⟨⟨h1, h2⟩, ⟨h3, h4⟩, h5, h6⟩
    have := ((okL_iff _ _ _ _).1 h6).1
    rw [List.length_drop] at this
    exact ⟨by omega, h2, h3, h4, h5, h6⟩

theorem ext_cut (s : ByteArray) (a c : Nat) (h : a + c ≤ s.size) : (s.extract a (a + c)).data.toList = (s.data.toList.drop a).take c := by
  rw [ext_list s a (a + c) h, List.drop_take, Nat.add_sub_cancel_left]

theorem RowsAt.set {w : World} {H m n r : Nat} {gs caps : Nat → Nat} {P : Nat → List Int} (h : RowsAt w H m n gs caps P) (hne : H ≠ r) (hg : ∀ k, k < m → gs k ≠ r) (o : Nat) (v : Value) : RowsAt (w.setCell ⟨r, o, none⟩ v) H m n gs caps P :=
  ⟨by have := h.lt; simpa using this, fun k hk => by rw [World.cell?_setCell_far w ⟨r, o, none⟩ ⟨H, k, none⟩ v (fun c => hne c.symm)]; exact h.head k hk, fun k hk => (h.row k hk).set (hg k hk) o v⟩

abbrev LayNoC (n : Nat) (t q b : Int) (s : ByteArray) (w : World) : Prop :=
  Calls Tryz.prog 34 #[.agg #[.int .i64 n, .int .i64 t, .int .i64 q, .int .i64 b], .string s] w fun e w' => e = .returned (.tuple #[.agg #[.bool false, .int .i64 0, .slice none 0 0, .slice none 0 0], .bool false]) ∧ Up w w'

theorem lay_cases (n : Nat) (hn : n = 4 ∨ n = 8 ∨ n = 16) : ∃ d mid, n / 2 = d ∧ 3 + 2 * (n / 2 * (n / 2)) = mid ∧ ((d = 2 ∧ mid = 11) ∨ (d = 4 ∧ mid = 35) ∨ (d = 8 ∧ mid = 131)) := by
  rcases hn with rfl | rfl | rfl
  · exact ⟨2, 11, rfl, rfl, Or.inl ⟨rfl, rfl⟩⟩
  · exact ⟨4, 35, rfl, rfl, Or.inr (Or.inl ⟨rfl, rfl⟩)⟩
  · exact ⟨8, 131, rfl, rfl, Or.inr (Or.inr ⟨rfl, rfl⟩)⟩

set_option maxHeartbeats 8000000 in
theorem layRead_ok (n d : Nat) (t q b : Int) (s : ByteArray) (w : World) (hs : s.size ≤ maxLen) (hn : n = 4 ∨ n = 8 ∨ n = 16) (hd : n / 2 = d) (h : layB s.data.toList n t = true) :
    Calls Tryz.prog 34 #[.agg #[.int .i64 n, .int .i64 t, .int .i64 q, .int .i64 b], .string s] w fun e w' => ∃ (bb : Bool) (sh : Int) (H cap : Nat) (gs caps : Nat → Nat) (gb cb : Nat), e = .returned (.tuple #[.agg #[.bool bb, .int .i64 sh, .slice (some ⟨H, 0, none⟩) d cap, .slice (some ⟨gb, 0, none⟩) n cb], .bool true]) ∧
      bb = (byteL s.data.toList 1 == 1) ∧ sh = (byteL s.data.toList 2 : Int) ∧ RowsAt w' H d d gs caps (matR n s.data.toList) ∧ IsI w' gb (biasI n s.data.toList) ∧ Up w w' := by
  have hsz : s.size = sizN n := by simpa using ((layB_iff _ _ _).1 h).1
  obtain ⟨⟨h1, h2⟩, ⟨h3, h4⟩, h5, h6⟩ := (layB_two _ _ _).1 h
  obtain ⟨d', mid, hd', hmid, hcs⟩ := lay_cases n hn
  obtain rfl : d' = d := by rw [← hd', hd]
  have hszm : s.size = mid + 2 * n := by rw [hsz]; unfold sizN; omega
  have k3 : 3 ≤ s.size := by omega
  have h0 : 0 < s.size := by omega
  have h01 : 1 < s.size := by omega
  have h02 : 2 < s.size := by omega
  rw [byteL_in s 0 h0] at h2
  have hne2 : (((s[0]'h0).toNat : Int) != 76) = false := by rw [h2]; rfl
  rw [byteL_in s 1 h01] at h3
  rw [byteL_in s 2 h02] at h4
  rw [byteL_in s 1 h01, byteL_in s 2 h02]
  have hL1 : ∀ W, Calls Tryz.prog 88 #[.string (s.extract 3 mid), .int .i64 2, .int .i64 (d' : Nat), .int .i64 (d' : Nat), .int .i64 t] W fun e w' => ∃ H cap gs caps, e = .returned (.tuple #[.slice (some ⟨H, 0, none⟩) d' cap, .bool true]) ∧ RowsAt w' H d' d' gs caps (matR n s.data.toList) ∧ W.heap.size ≤ H ∧ Up W w' := fun W => by
    have e0 : mid = 3 + d' * d' * 2 := by rw [← hmid, hd]; omega
    have hle : 3 + d' * d' * 2 ≤ s.size := by rw [← e0]; omega
    rw [hd] at h5
    rw [e0]
    have := Lists_ok (s.extract 3 (3 + d' * d' * 2)) d' d' 2 t W (by omega) (by omega) (by omega) (by omega) (by omega) (by omega) (by rw [ext_cut s 3 _ hle]; exact h5)
    refine this.mono ?_
    rintro e w' ⟨H, cap, gs, caps, rfl, hR, hH, hu⟩
    refine ⟨H, cap, gs, caps, rfl, hR.congr fun k hk => ?_, hH, hu⟩
    have := mat_row n s.data.toList (s.extract 3 (3 + d' * d' * 2)).data.toList k (by rw [hd]; exact ext_cut s 3 _ hle) (by rw [hd]; exact hk)
    rw [hd] at this
    exact this
  have hL2 : ∀ W, Calls Tryz.prog 89 #[.string (s.extract mid s.size), .int .i64 2, .int .i64 n, .int .i64 t] W fun e w' => ∃ g cap, e = .returned (.tuple #[.slice (some ⟨g, 0, none⟩) n cap, .bool true]) ∧ IsI w' g (biasI n s.data.toList) ∧ Up W w' := fun W => by
    refine (Numbers_ok (s.extract mid s.size) n 2 t W (by simp; omega) (by omega) (by omega) (by omega) (by rw [ext_from, ← hmid]; exact h6)).mono ?_
    rintro e w' ⟨v, rfl, ho, hu⟩
    rw [ext_from, ← hmid, bias_row] at ho
    obtain ⟨g, cap, rfl, _, i⟩ := ho.is (ne_nil_of_length (biasI_length _ _) (by omega))
    rw [biasI_length]
    exact ⟨g, cap, rfl, i, hu⟩
  have hb1 := (s[1]'h01).toNat_lt
  have hb2 := (s[2]'h02).toNat_lt
  have h3' : ¬ (1 : Int) < ((s[1]'h01).toNat : Int) := by omega
  have h4' : ¬ (7 : Int) < ((s[2]'h02).toNat : Int) := by omega
  have HMl : Hid (∀ k, k < d' → (matR n s.data.toList k).length = d') := fun k _ => by rw [matR_length, hd]
  generalize matR n s.data.toList = MR at hL1 HMl
  have HBl : Hid _ := biasI_length n s.data.toList
  generalize biasI n s.data.toList = BI at hL2 HBl
  have hNd : (n : Int) / 2 = (d' : Int) := by omega
  have hsi : (s.size : Int) = (mid : Int) + 2 * (n : Int) := by omega
  have hn16 : n ≤ 16 := by omega
  have hn4 : 4 ≤ n := by omega
  obtain ⟨W, hW⟩ : ∃ W, W = (w.alloc (.cells #[.int .i64 n, .int .i64 t, .int .i64 q, .int .i64 b] 28)).alloc (.cells #[.bool false, .int .i64 0, .slice none 0 0, .slice none 0 0] 80) := ⟨_, rfl⟩
  clear h h1 h2 h5 h6 hsz hmid hd' hd h3 h4 hn hszm
  rcases hcs with ⟨rfl, rfl⟩ | ⟨rfl, rfl⟩ | ⟨rfl, rfl⟩
  all_goals
    simp only [Int.cast_ofNat_Int] at hsi hL1 hL2 hNd
    have HL1 : Hid _ := hL1
    have HL2 : Hid _ := hL2
    clear hL1 hL2
    go_enter Tryz.func34, Tryz.ntmps34
    go_wp2_with fail
    rw [← hW]
    have huW : Up w W := by rw [hW]; exact ((Up.refl _).alloc _).alloc _
    have hsW : W.heap.size = w.heap.size + 2 := by rw [hW]; simp
    have hS0 : W.cell? ⟨w.heap.size, 0, none⟩ = some (.int .i64 (n : Int)) := by rw [hW]; simp [go_sem]
    have hS1 : W.cell? ⟨w.heap.size, 1, none⟩ = some (.int .i64 t) := by rw [hW]; simp [go_sem]
    have HK0 : Hid (W.cell? ⟨w.heap.size + 1, 0, none⟩ = some (.bool false)) := show W.cell? ⟨w.heap.size + 1, 0, none⟩ = some (.bool false) from by rw [hW]; simp [go_sem]
    have HK1 : Hid (W.cell? ⟨w.heap.size + 1, 1, none⟩ = some (.int .i64 0)) := show W.cell? ⟨w.heap.size + 1, 1, none⟩ = some (.int .i64 0) from by rw [hW]; simp [go_sem]
    have HK2 : Hid (W.cell? ⟨w.heap.size + 1, 2, none⟩ = some (.slice none 0 0)) := show W.cell? ⟨w.heap.size + 1, 2, none⟩ = some (.slice none 0 0) from by rw [hW]; simp [go_sem]
    have HK3 : Hid (W.cell? ⟨w.heap.size + 1, 3, none⟩ = some (.slice none 0 0)) := show W.cell? ⟨w.heap.size + 1, 3, none⟩ = some (.slice none 0 0) from by rw [hW]; simp [go_sem]
    have HZ : Hid (∀ o, W.frozen? ⟨w.heap.size + 1, o, none⟩ = false) := show ∀ o, W.frozen? ⟨w.heap.size + 1, o, none⟩ = false from fun o => by rw [hW]; simp [go_sem]
    clear hW
    go_region_held3 (fun w' => w'.cell? ⟨w.heap.size, 1, none⟩ = some (.int .i64 t))
      (first | go_keep | exact keepC hu2 (by assumption))
      ((first | (go_at_call 88; refine Calls.mono (HL1.out _) ?_; rintro e w2 ⟨H, cap, gs, caps, rfl, hR, hH, hu2⟩)))
    have hu02 : Up W w2 := Up.trans (Up.drew (Up.refl _)) hu2
    have hT0 := keepC hu02 hS0
    have hT1 := keepC hu02 hS1
    clear hS0 hS1 hu2
    go_wp2_with fail
    go_region_held3 (fun w' => w'.cell? ⟨w.heap.size, 0, none⟩ = some (.int .i64 (n : Int)) ∧ w'.cell? ⟨w.heap.size, 1, none⟩ = some (.int .i64 t))
      (first | go_keep | exact ⟨keepC hu3 (And.left (by assumption)), keepC hu3 (And.right (by assumption))⟩)
      ((first | (go_at_call 89; refine Calls.mono (HL2.out _) ?_; rintro e w3 ⟨gb, cb, rfl, ib, hu3⟩)))
    have hu23 : Up w2 w3 := Up.trans (Up.drew (Up.refl _)) hu3
    have hu03 := hu02.trans hu23
    have hR3 := hR.up hu23
    have hk0 := keepC hu03 HK0.out
    have hk1 := keepC hu03 HK1.out
    have hk2 := keepC hu03 HK2.out
    have hk3 := keepC hu03 HK3.out
    have hz0 := ((bcell hu03).2 _ _ (by omega)).trans (HZ.out 0)
    have hz1 := ((bcell hu03).2 _ _ (by omega)).trans (HZ.out 1)
    have hz2 := ((bcell hu03).2 _ _ (by omega)).trans (HZ.out 2)
    have hz3 := ((bcell hu03).2 _ _ (by omega)).trans (HZ.out 3)
    have e2 := wrap_byte
    clear hT0 hT1 hu3 hR
    have n0 : gb ≠ w.heap.size + 1 := by
      rintro rfl
      have := ib.2 2 (by rw [HBl.out]; omega)
      rw [hk2] at this
      cases this
    have hHne : H ≠ w.heap.size + 1 := by have hH2 : W.heap.size ≤ H := hH; omega
    have hall : Below w.heap.size w w3 := huW.trans hu03
    have hRn : ∀ k, k < _ → gs k ≠ w.heap.size + 1 := fun k hk => by
      rintro e
      have h1 := (hR3.row k hk).2 0 (by rw [HMl.out k hk]; omega)
      rw [e, hk0] at h1
      cases h1
    go_wp2_with fail
    go_region_held3 (fun w' => True) (first | go_keep | trivial) (fail)
    go_wp2_with fail
    all_goals
      refine bodyPost_ret (v := .tuple #[.agg #[.bool (((s[1]'h01).toNat : Int) == 1), .int .i64 ((s[2]'h02).toNat : Int), .slice (some ⟨H, 0, none⟩) _ cap, .slice (some ⟨gb, 0, none⟩) n cb], .bool true]) (by simp [results, Tryz.results34, go_sem, hk0, hk1, hk2, hk3]) rfl
        ⟨_, _, H, cap, gs, caps, gb, cb, rfl, (by rw [Bool.eq_iff_iff, beq_iff_eq, beq_iff_eq]; omega), rfl, ((((hR3.set hHne hRn _ _).set hHne hRn _ _).set hHne hRn _ _).set hHne hRn _ _).up (Up.drew (Up.refl _)), ((((ib.set n0 _ _).set n0 _ _).set n0 _ _).set n0 _ _).up (Up.drew (Up.refl _)), Up.drew ((((hall.setCell (by dsimp only; omega) _).setCell (by dsimp only; omega) _).setCell (by dsimp only; omega) _).setCell (by dsimp only; omega) _)⟩

end Go.Proofs.YtcjhgbljhpflfabGreat

namespace Go.Proofs.YtcjhgbljhpflfabGreat
open Go.RowKit
set_option linter.unusedVariables false
set_option maxRecDepth 100000

set_option maxHeartbeats 8000000 in
theorem layRead_no (n : Nat) (t q b : Int) (s : ByteArray) (w : World) (hs : s.size ≤ maxLen) (hn : n = 4 ∨ n = 8 ∨ n = 16) (h : layB s.data.toList n t = false) : LayNoC n t q b s w := by
  have hs2 : (s.size : Int) ≤ 9223372036854775807 := by unfold maxLen at hs; omega
  obtain ⟨d', mid, hd', hmid, hcs⟩ := lay_cases n hn
  have hNd : (n : Int) / 2 = (d' : Int) := by omega
  have hn16 : n ≤ 16 := by omega
  have hn4 : 4 ≤ n := by omega
  obtain ⟨W, hW⟩ : ∃ W, W = (w.alloc (.cells #[.int .i64 n, .int .i64 t, .int .i64 q, .int .i64 b] 28)).alloc (.cells #[.bool false, .int .i64 0, .slice none 0 0, .slice none 0 0] 80) := ⟨_, rfl⟩
  have huW : Up w W := by rw [hW]; exact ((Up.refl _).alloc _).alloc _
  have hsW : W.heap.size = w.heap.size + 2 := by rw [hW]; simp
  have hS0 : W.cell? ⟨w.heap.size, 0, none⟩ = some (.int .i64 (n : Int)) := by rw [hW]; simp [go_sem]
  have hS1 : W.cell? ⟨w.heap.size, 1, none⟩ = some (.int .i64 t) := by rw [hW]; simp [go_sem]
  have HK0 : Hid (W.cell? ⟨w.heap.size + 1, 0, none⟩ = some (.bool false)) := show W.cell? ⟨w.heap.size + 1, 0, none⟩ = some (.bool false) from by rw [hW]; simp [go_sem]
  have HK1 : Hid (W.cell? ⟨w.heap.size + 1, 1, none⟩ = some (.int .i64 0)) := show W.cell? ⟨w.heap.size + 1, 1, none⟩ = some (.int .i64 0) from by rw [hW]; simp [go_sem]
  have HK2 : Hid (W.cell? ⟨w.heap.size + 1, 2, none⟩ = some (.slice none 0 0)) := show W.cell? ⟨w.heap.size + 1, 2, none⟩ = some (.slice none 0 0) from by rw [hW]; simp [go_sem]
  have HK3 : Hid (W.cell? ⟨w.heap.size + 1, 3, none⟩ = some (.slice none 0 0)) := show W.cell? ⟨w.heap.size + 1, 3, none⟩ = some (.slice none 0 0) from by rw [hW]; simp [go_sem]
  have HZ : Hid (∀ o, W.frozen? ⟨w.heap.size + 1, o, none⟩ = false) := show ∀ o, W.frozen? ⟨w.heap.size + 1, o, none⟩ = false from fun o => by rw [hW]; simp [go_sem]
  have hall : Below w.heap.size w W := huW
  by_cases c1 : mid ≤ s.size
  · have h0 : 0 < s.size := by omega
    have h01 : 1 < s.size := by omega
    have h02 : 2 < s.size := by omega
    have hb1 := (s[1]'h01).toNat_lt
    have hb2 := (s[2]'h02).toNat_lt
    by_cases c2 : byteL s.data.toList 0 = 76
    · have c2' := c2
      rw [byteL_in s 0 h0] at c2'
      have hne2 : (((s[0]'h0).toNat : Int) != 76) = false := by rw [c2']; rfl
      by_cases c3 : byteL s.data.toList 1 ≤ 1 ∧ byteL s.data.toList 2 ≤ 7
      · have c3' := c3
        rw [byteL_in s 1 h01, byteL_in s 2 h02] at c3'
        have h3' : ¬ (1 : Int) < ((s[1]'h01).toNat : Int) := by omega
        have h4' : ¬ (7 : Int) < ((s[2]'h02).toNat : Int) := by omega
        cases c4 : okL ((s.data.toList.drop 3).take (n / 2 * (n / 2) * 2)) (n / 2 * (n / 2)) 2 t with
        | true =>
          cases c5 : okL (s.data.toList.drop (3 + 2 * (n / 2 * (n / 2)))) n 2 t with
          | true =>
            rw [(layB_two _ _ _).2 ⟨⟨by simpa [hmid] using c1, c2⟩, c3, c4, c5⟩] at h
            exact absurd h (by decide)
          | false =>
            have hL1 : ∀ W, Calls Tryz.prog 88 #[.string (s.extract 3 mid), .int .i64 2, .int .i64 (d' : Nat), .int .i64 (d' : Nat), .int .i64 t] W fun e w' => ∃ H cap, e = .returned (.tuple #[.slice (some ⟨H, 0, none⟩) d' cap, .bool true]) ∧ Up W w' := fun W => by
              have e0 : mid = 3 + d' * d' * 2 := by rw [← hmid, hd']; omega
              have hle : 3 + d' * d' * 2 ≤ s.size := by rw [← e0]; omega
              rw [hd'] at c4
              rw [e0]
              refine (Lists_ok (s.extract 3 (3 + d' * d' * 2)) d' d' 2 t W (by omega) (by omega) (by omega) (by omega) (by omega) (by omega) (by rw [ext_cut s 3 _ hle]; exact c4)).mono ?_
              rintro e w' ⟨H, cap, gs, caps, rfl, hR, hH, hu⟩
              exact ⟨H, cap, rfl, hu⟩
            have hL2 : ∀ W, Calls Tryz.prog 89 #[.string (s.extract mid s.size), .int .i64 2, .int .i64 n, .int .i64 t] W fun e w' => e = .returned (.tuple #[.slice none 0 0, .bool false]) ∧ Up W w' := fun W => Numbers_no (s.extract mid s.size) n 2 t W (by simp; omega) (by omega) (by omega) (by omega) (by rw [ext_from, ← hmid]; exact c5)
            clear h hmid hd' c2 c2' c3 c3' c4 c5 hn
            rcases hcs with ⟨rfl, rfl⟩ | ⟨rfl, rfl⟩ | ⟨rfl, rfl⟩
            all_goals
              have hsi : (_ : Int) ≤ (s.size : Int) := Int.ofNat_le.2 c1
              simp only [Int.cast_ofNat_Int] at hsi hL1 hL2 hNd
              have HL1 : Hid _ := hL1
              have HL2 : Hid _ := hL2
              clear hL1 hL2 c1
              go_enter Tryz.func34, Tryz.ntmps34
              go_wp2_with fail
              rw [← hW]
              clear hW
              go_region_held3 (fun w' => w'.cell? ⟨w.heap.size, 1, none⟩ = some (.int .i64 t))
                (first | go_keep | exact keepC hu2 (by assumption))
                ((first | (go_at_call 88; refine Calls.mono (HL1.out _) ?_; rintro e w2 ⟨H, cap, rfl, hu2⟩)))
              have hu02 : Up W w2 := Up.trans (Up.drew (Up.refl _)) hu2
              have hT0 := keepC hu02 hS0
              have hT1 := keepC hu02 hS1
              clear hS0 hS1 hu2
              go_wp2_with fail
              go_region_held3 (fun w' => w'.cell? ⟨w.heap.size, 0, none⟩ = some (.int .i64 (n : Int)) ∧ w'.cell? ⟨w.heap.size, 1, none⟩ = some (.int .i64 t))
                (first | go_keep | exact ⟨keepC hu3 (And.left (by assumption)), keepC hu3 (And.right (by assumption))⟩)
                ((first | (go_at_call 89; refine Calls.mono (HL2.out _) ?_; rintro e w3 ⟨rfl, hu3⟩)))
              have hu03 : Up W w3 := hu02.trans (Up.trans (Up.drew (Up.refl _)) hu3)
              have hk0 := keepC hu03 HK0.out
              have hk1 := keepC hu03 HK1.out
              have hk2 := keepC hu03 HK2.out
              have hk3 := keepC hu03 HK3.out
              have hz0 := ((bcell hu03).2 _ _ (by omega)).trans (HZ.out 0)
              have hz1 := ((bcell hu03).2 _ _ (by omega)).trans (HZ.out 1)
              have hz2 := ((bcell hu03).2 _ _ (by omega)).trans (HZ.out 2)
              have hz3 := ((bcell hu03).2 _ _ (by omega)).trans (HZ.out 3)
              have hal3 : Below w.heap.size w w3 := hall.trans (hu03.mono hall.size)
              clear hT0 hT1 hu3
              go_wp2_with fail
              all_goals
                refine bodyPost_ret (v := .tuple #[.agg #[.bool false, .int .i64 0, .slice none 0 0, .slice none 0 0], .bool false]) (by simp [results, Tryz.results34, go_sem, hk0, hk1, hk2, hk3]) rfl ⟨rfl, ?_⟩
                exact (((hal3.setCell (by dsimp only; omega) _).setCell (by dsimp only; omega) _).setCell (by dsimp only; omega) _).setCell (by dsimp only; omega) _
        | false =>
          have hL1 : ∀ W, Calls Tryz.prog 88 #[.string (s.extract 3 mid), .int .i64 2, .int .i64 (d' : Nat), .int .i64 (d' : Nat), .int .i64 t] W fun e w' => e = .returned (.tuple #[.slice none 0 0, .bool false]) ∧ Up W w' := fun W => by
            have e0 : mid = 3 + d' * d' * 2 := by rw [← hmid, hd']; omega
            have hle : 3 + d' * d' * 2 ≤ s.size := by rw [← e0]; omega
            rw [hd'] at c4
            rw [e0]
            exact Lists_no (s.extract 3 (3 + d' * d' * 2)) d' d' 2 t W (by simp; omega) (by omega) (by omega) (by omega) (by omega) (by rw [ext_cut s 3 _ hle]; exact c4)
          clear h hmid hd' c2 c2' c3 c3' c4 hn
          rcases hcs with ⟨rfl, rfl⟩ | ⟨rfl, rfl⟩ | ⟨rfl, rfl⟩
          all_goals
            have hsi : (_ : Int) ≤ (s.size : Int) := Int.ofNat_le.2 c1
            simp only [Int.cast_ofNat_Int] at hsi hL1 hNd
            have HL1 : Hid _ := hL1
            clear hL1 c1
            go_enter Tryz.func34, Tryz.ntmps34
            go_wp2_with fail
            rw [← hW]
            clear hW
            go_region_held3 (fun w' => w'.cell? ⟨w.heap.size, 1, none⟩ = some (.int .i64 t))
              (first | go_keep | exact keepC hu2 (by assumption))
              ((first | (go_at_call 88; refine Calls.mono (HL1.out _) ?_; rintro e w2 ⟨rfl, hu2⟩)))
            have hu03 : Up W w2 := Up.trans (Up.drew (Up.refl _)) hu2
            have hk0 := keepC hu03 HK0.out
            have hk1 := keepC hu03 HK1.out
            have hk2 := keepC hu03 HK2.out
            have hk3 := keepC hu03 HK3.out
            have hz0 := ((bcell hu03).2 _ _ (by omega)).trans (HZ.out 0)
            have hz1 := ((bcell hu03).2 _ _ (by omega)).trans (HZ.out 1)
            have hz2 := ((bcell hu03).2 _ _ (by omega)).trans (HZ.out 2)
            have hz3 := ((bcell hu03).2 _ _ (by omega)).trans (HZ.out 3)
            have hal3 : Below w.heap.size w w2 := hall.trans (hu03.mono hall.size)
            clear hS0 hS1 hu2
            go_wp2_with fail
            all_goals
              refine bodyPost_ret (v := .tuple #[.agg #[.bool false, .int .i64 0, .slice none 0 0, .slice none 0 0], .bool false]) (by simp [results, Tryz.results34, go_sem, hk0, hk1, hk2, hk3]) rfl ⟨rfl, ?_⟩
              exact (((hal3.setCell (by dsimp only; omega) _).setCell (by dsimp only; omega) _).setCell (by dsimp only; omega) _).setCell (by dsimp only; omega) _
      · rw [byteL_in s 1 h01, byteL_in s 2 h02] at c3
        have c3' : (1 : Int) < ((s[1]'h01).toNat : Int) ∨ (¬ (1 : Int) < ((s[1]'h01).toNat : Int) ∧ (7 : Int) < ((s[2]'h02).toNat : Int)) := by omega
        clear h hmid hd' c2 c2' c3 hn
        rcases c3' with c3' | ⟨c3', c4'⟩
        all_goals
          rcases hcs with ⟨rfl, rfl⟩ | ⟨rfl, rfl⟩ | ⟨rfl, rfl⟩
          all_goals
            have hsi : (_ : Int) ≤ (s.size : Int) := Int.ofNat_le.2 c1
            simp only [Int.cast_ofNat_Int] at hsi hNd
            clear c1
            go_enter Tryz.func34, Tryz.ntmps34
            go_wp2_with fail
            all_goals
              rw [← hW]
              have hk0 := HK0.out
              have hk1 := HK1.out
              have hk2 := HK2.out
              have hk3 := HK3.out
              refine bodyPost_ret (v := .tuple #[.agg #[.bool false, .int .i64 0, .slice none 0 0, .slice none 0 0], .bool false]) (by simp [results, Tryz.results34, go_sem, hk0, hk1, hk2, hk3]) rfl ⟨rfl, ?_⟩
              first | exact hall | exact (((hall.setCell (by dsimp only; omega) _).setCell (by dsimp only; omega) _).setCell (by dsimp only; omega) _).setCell (by dsimp only; omega) _
    · rw [byteL_in s 0 h0] at c2
      have hne2 : (((s[0]'h0).toNat : Int) != 76) = true := by rw [bne_iff_ne]; omega
      clear h hmid hd' c2 hn
      rcases hcs with ⟨rfl, rfl⟩ | ⟨rfl, rfl⟩ | ⟨rfl, rfl⟩
      all_goals
        have hsi : (_ : Int) ≤ (s.size : Int) := Int.ofNat_le.2 c1
        simp only [Int.cast_ofNat_Int] at hsi hNd
        clear c1
        go_enter Tryz.func34, Tryz.ntmps34
        go_wp2_with fail
        all_goals
          rw [← hW]
          have hk0 := HK0.out
          have hk1 := HK1.out
          have hk2 := HK2.out
          have hk3 := HK3.out
          refine bodyPost_ret (v := .tuple #[.agg #[.bool false, .int .i64 0, .slice none 0 0, .slice none 0 0], .bool false]) (by simp [results, Tryz.results34, go_sem, hk0, hk1, hk2, hk3]) rfl ⟨rfl, ?_⟩
          first | exact hall | exact (((hall.setCell (by dsimp only; omega) _).setCell (by dsimp only; omega) _).setCell (by dsimp only; omega) _).setCell (by dsimp only; omega) _
  · clear h hmid hd' hn
    rcases hcs with ⟨rfl, rfl⟩ | ⟨rfl, rfl⟩ | ⟨rfl, rfl⟩
    all_goals
      have hsi : (s.size : Int) < (_ : Int) := Int.ofNat_lt.2 (Nat.lt_of_not_le c1)
      simp only [Int.cast_ofNat_Int] at hsi hNd
      clear c1
      go_enter Tryz.func34, Tryz.ntmps34
      go_wp2_with fail
      all_goals
        rw [← hW]
        have hk0 := HK0.out
        have hk1 := HK1.out
        have hk2 := HK2.out
        have hk3 := HK3.out
        refine bodyPost_ret (v := .tuple #[.agg #[.bool false, .int .i64 0, .slice none 0 0, .slice none 0 0], .bool false]) (by simp [results, Tryz.results34, go_sem, hk0, hk1, hk2, hk3]) rfl ⟨rfl, ?_⟩
        first | exact hall | exact (((hall.setCell (by dsimp only; omega) _).setCell (by dsimp only; omega) _).setCell (by dsimp only; omega) _).setCell (by dsimp only; omega) _

end Go.Proofs.YtcjhgbljhpflfabGreat
