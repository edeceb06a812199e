/-
  Walks: the reference's Read and Told.
-/
import Derived.Test.YtjiekfplgmfgiabGreatWalksRe
namespace Go.Proofs.YtjiekfplgmfgiabGreat
open Go.RowKit
set_option linter.unusedVariables false
set_option maxRecDepth 100000

/-- a ciphertext's parts -/
def ctE (l : List UInt8) : Nat := numL l 1 5
def ct0 (l : List UInt8) (n : Nat) : List Int := (List.range n).map fun i => (numL l (6 + 4 * i) 4 : Int)
def ct1 (l : List UInt8) (n : Nat) : List Int := (List.range n).map fun i => (numL l (6 + 4 * n + 4 * i) 4 : Int)

/-- is the text a ciphertext? -/
def ctB (l : List UInt8) (n : Nat) (t q : Int) : Bool :=
  decide (l.length = 6 + 8 * n) && decide (byteL l 0 = 67) && okL ((l.take (6 + 4 * n)).drop 6) n 4 q && okL (l.drop (6 + 4 * n)) n 4 q && fitsB t q (ctE l)

theorem byteL_drop (l : List UInt8) (k i : Nat) : byteL (l.drop k) i = byteL l (k + i) := by
  unfold byteL
  simp [List.getD_eq_getElem?_getD, List.getElem?_drop]

theorem byteL_take (l : List UInt8) (k i : Nat) (h : i < k) : byteL (l.take k) i = byteL l i := by
  unfold byteL
  simp [List.getD_eq_getElem?_getD, h]

theorem numL_drop (l : List UInt8) (k i m : Nat) : numL (l.drop k) i m = numL l (k + i) m := by
  induction m with
  | zero => rfl
  | succ m ih => simp only [numL]; rw [ih, byteL_drop, Nat.add_assoc]

theorem numL_take (l : List UInt8) (k i m : Nat) (h : i + m ≤ k) : numL (l.take k) i m = numL l i m := by
  induction m with
  | zero => rfl
  | succ m ih => simp only [numL]; rw [ih (by omega), byteL_take _ _ _ (by omega)]

theorem ct0_eq (l : List UInt8) (n : Nat) : numsL ((l.take (6 + 4 * n)).drop 6) 4 n = ct0 l n := by
  rw [numsL_range]
  refine List.map_congr_left fun i hi => ?_
  have := List.mem_range.1 hi
  rw [numL_drop, numL_take _ _ _ _ (by omega), Nat.mul_comm i 4]

theorem ct1_eq (l : List UInt8) (n : Nat) : numsL (l.drop (6 + 4 * n)) 4 n = ct1 l n := by
  rw [numsL_range]
  refine List.map_congr_left fun i hi => ?_
  rw [numL_drop, Nat.mul_comm i 4]

theorem ct0_length (l : List UInt8) (n : Nat) : (ct0 l n).length = n := by simp [ct0]
theorem ct1_length (l : List UInt8) (n : Nat) : (ct1 l n).length = n := by simp [ct1]

theorem ctB_iff (l : List UInt8) (n : Nat) (t q : Int) : ctB l n t q = true ↔ l.length = 6 + 8 * n ∧ byteL l 0 = 67 ∧ okL ((l.take (6 + 4 * n)).drop 6) n 4 q = true ∧ okL (l.drop (6 + 4 * n)) n 4 q = true ∧ fitsB t q (ctE l) = true := by
  unfold ctB
  simp [and_assoc]

theorem ext_mid (s : ByteArray) (n : Nat) (h : s.size = 6 + 8 * n) : (s.extract 6 (6 + 4 * n)).data.toList = (s.data.toList.take (6 + 4 * n)).drop 6 := ext_list s 6 (6 + 4 * n) (by omega)
theorem ext_end (s : ByteArray) (n : Nat) : (s.extract (6 + 4 * n) s.size).data.toList = s.data.toList.drop (6 + 4 * n) := by
  rw [ext_list s _ s.size (Nat.le_refl _)]
  have : s.data.toList.take s.size = s.data.toList := List.take_of_length_le (by simp)
  rw [this]

set_option maxRecDepth 100000 in
set_option maxHeartbeats 4000000 in
theorem Read_ok (n : Nat) (t q b : Int) (s : ByteArray) (w : World) (hs : s.size ≤ maxLen) (hn : n ≤ 16) (hn1 : 1 ≤ n) (ht : 1 ≤ t) (ht2 : t ≤ 1021) (hq : 0 ≤ q) (hq2 : q ≤ 1073741823) (h : ctB s.data.toList n t q = true) :
    Calls Tryz.prog 21 #[.agg #[.int .i64 n, .int .i64 t, .int .i64 q, .int .i64 b], .string s] w fun e w' => ∃ g0 c0 g1 c1, e = .returned (.tuple #[.agg #[.int .i64 (ctE s.data.toList), .slice (some ⟨g0, 0, none⟩) n c0, .slice (some ⟨g1, 0, none⟩) n c1], .bool true]) ∧
      OwnI w' w.heap.size (.slice (some ⟨g0, 0, none⟩) n c0) (ct0 s.data.toList n) ∧ OwnI w' w.heap.size (.slice (some ⟨g1, 0, none⟩) n c1) (ct1 s.data.toList n) ∧ Up w w' := by
  obtain ⟨h1, h2, h3, h4, h5⟩ := (ctB_iff _ _ _ _).1 h
  have hl : s.size = 6 + 8 * n := by simpa using h1
  have hne : ((s.size : Int) != 6 + 8 * (n : Int)) = false := by rw [hl]; simp
  have h0 : 0 < s.size := by omega
  rw [byteL_in s 0 h0] at h2
  have hne2 : (((s[0]'h0).toNat : Int) != 67) = false := by rw [h2]; rfl
  have hE := numL_le5 s.data.toList 1 5 (by omega)
  have HL1 : Hid (∀ W, Calls Tryz.prog 51 #[.string (s.extract 6 (6 + 4 * n)), .int .i64 n, .int .i64 4, .int .i64 q] W fun e w' => ∃ g cap, e = .returned (.tuple #[.slice (some ⟨g, 0, none⟩) n cap, .bool true]) ∧ OwnI w' W.heap.size (.slice (some ⟨g, 0, none⟩) n cap) (ct0 s.data.toList n) ∧ Up W w') := fun W => by
    refine (List_ok (s.extract 6 (6 + 4 * n)) n 4 q W (by simp; omega) (by omega) (by omega) (by rw [ext_mid s n hl]; exact h3)).mono ?_
    rintro e w' ⟨v, rfl, hown, hu⟩
    rw [ext_mid s n hl, ct0_eq] at hown
    obtain ⟨g, cap, rfl, _, _⟩ := hown.is (ne_nil_of_length (ct0_length _ _) (by omega))
    rw [ct0_length] at hown ⊢
    exact ⟨g, cap, rfl, hown, hu⟩
  have HL2 : Hid (∀ W, Calls Tryz.prog 51 #[.string (s.extract (6 + 4 * n) s.size), .int .i64 n, .int .i64 4, .int .i64 q] W fun e w' => ∃ g cap, e = .returned (.tuple #[.slice (some ⟨g, 0, none⟩) n cap, .bool true]) ∧ OwnI w' W.heap.size (.slice (some ⟨g, 0, none⟩) n cap) (ct1 s.data.toList n) ∧ Up W w') := fun W => by
    refine (List_ok (s.extract (6 + 4 * n) s.size) n 4 q W (by simp; omega) (by omega) (by omega) (by rw [ext_end s n]; exact h4)).mono ?_
    rintro e w' ⟨v, rfl, hown, hu⟩
    rw [ext_end s n, ct1_eq] at hown
    obtain ⟨g, cap, rfl, _, _⟩ := hown.is (ne_nil_of_length (ct1_length _ _) (by omega))
    rw [ct1_length] at hown ⊢
    exact ⟨g, cap, rfl, hown, hu⟩
  have H5 : Hid _ := h5
  have HL : Hid _ := hl
  clear h1 h2 h3 h4 h h5 hl
  go_enter Tryz.func21, Tryz.ntmps21
  go_wp2_with fail
  refine (Number_calls s 1 5 _ hs (by omega) (by omega) (by omega)).mono ?_
  rintro e w1 ⟨rfl, rfl⟩
  have e1 : IntKind.i64.wrap (4 * (n : Int)) = 4 * (n : Int) := IntWalk.i64_in _ (by omega)
  have e2 : IntKind.i64.wrap (6 + 4 * (n : Int)) = 6 + 4 * (n : Int) := IntWalk.i64_in _ (by omega)
  have e3 : ((6 : Int) + 4 * (n : Int)).toNat = 6 + 4 * n := by omega
  have b1 : (6 : Int) ≤ 6 + 4 * (n : Int) := by omega
  have b2 : (6 : Int) + 4 * (n : Int) ≤ (s.size : Int) := by have := HL.out; omega
  have b3 : (0 : Int) ≤ 6 + 4 * (n : Int) := by omega
  go_wp2_with fail
  go_region_held3 (fun w' => w'.cell? ⟨w.heap.size, 0, none⟩ = some (.int .i64 (n : Int)) ∧ w'.cell? ⟨w.heap.size, 2, none⟩ = some (.int .i64 q))
    (first | go_keep | exact ⟨keepU hu2 (And.left (by assumption)), keepU hu2 (And.right (by assumption))⟩)
    ((first | (go_at_call 51; refine Calls.mono (HL1.out _) ?_; rintro e w2 ⟨g0, c0, rfl, ho0, hu2⟩)))
  have hu2' : Up ((w.alloc (.cells #[.int .i64 n, .int .i64 t, .int .i64 q, .int .i64 b] 23)).alloc (.cells #[.int .i64 0, .slice none 0 0, .slice none 0 0] 59)) w2 := Up.trans (Up.drew (Up.refl _)) hu2
  clear hu2
  obtain ⟨hc, hf⟩ := bcell hu2'
  have hq0 : w2.cell? ⟨w.heap.size, 0, none⟩ = some (.int .i64 (n : Int)) := by rw [hc _ _ (by simp; omega)]; simp
  have hq1 : w2.cell? ⟨w.heap.size, 2, none⟩ = some (.int .i64 q) := by rw [hc _ _ (by simp; omega)]; simp
  clear hc hf
  go_wp2_with fail
  go_region_held3 (fun w' => w'.cell? ⟨w.heap.size, 0, none⟩ = some (.int .i64 (n : Int)) ∧ w'.cell? ⟨w.heap.size, 2, none⟩ = some (.int .i64 q))
    (first | go_keep | exact ⟨keepU hu3 (And.left (by assumption)), keepU hu3 (And.right (by assumption))⟩)
    ((first | (go_at_call 51; refine Calls.mono (HL2.out _) ?_; rintro e w3 ⟨g1, c1, rfl, ho1, hu3⟩)))
  have hu3' : Up w2 w3 := Up.trans (Up.drew (Up.refl _)) hu3
  have ho0' := ho0.up hu3'
  have hu03 := hu2'.trans hu3'
  have hsz2 : w.heap.size ≤ w2.heap.size := by have := hu2'.size; simp at this; omega
  obtain ⟨hc, hf⟩ := bcell hu03
  clear hu3 ho0 hq0 hq1 e1 e2 e3 b1 b2 b3
  go_wp2_with fail
  refine (refFits_calls _ _ _ _ _ _ ht ht2 hq hq2 (by omega) (by omega)).mono ?_
  rintro e w4 ⟨rfl, hu4⟩
  rw [show fitsB t q ((numL s.data.toList 1 5 : Nat) : Int) = true from H5.out]
  have hu04 := hu03.trans hu4
  have ho0'' := ho0'.up hu4
  have ho1'' := ho1.up hu4
  clear hc hf
  obtain ⟨hc, hf⟩ := bcell hu04
  have hk0 : w4.cell? ⟨w.heap.size + 1, 0, none⟩ = some (.int .i64 0) := by rw [hc _ _ (by simp)]; simp
  have hk1 : w4.cell? ⟨w.heap.size + 1, 1, none⟩ = some (.slice none 0 0) := by rw [hc _ _ (by simp)]; simp
  have hk2 : w4.cell? ⟨w.heap.size + 1, 2, none⟩ = some (.slice none 0 0) := by rw [hc _ _ (by simp)]; simp
  go_wp2_with fail
  clear hc hf
  have hb0 := ho0''.base (base' := w.heap.size + 2) (by simp)
  have hb1 := ho1''.base (base' := w.heap.size + 2) (by have := hu2'.size; simp at this ⊢; omega)
  have hall : Below w.heap.size w w4 := (((Up.refl w).alloc _).alloc _).trans hu04
  clear ho0'' ho1'' ho0' ho1 hu04 hu03 hu4 hu3' hu2'
  refine bodyPost_ret (v := .tuple #[.agg #[.int .i64 (ctE s.data.toList), .slice (some ⟨g0, 0, none⟩) n c0, .slice (some ⟨g1, 0, none⟩) n c1], .bool true]) (by simp [results, Tryz.results21, go_sem, hk0, hk1, hk2, ctE]) rfl ⟨g0, c0, g1, c1, rfl, ?_, ?_, ?_⟩
  · exact OwnI.base (ownsRow_setCell_below (ownsRow_setCell_below (ownsRow_setCell_below hb0 (by simp) _) (by simp) _) (by simp) _) (by omega)
  · exact OwnI.base (ownsRow_setCell_below (ownsRow_setCell_below (ownsRow_setCell_below hb1 (by simp) _) (by simp) _) (by simp) _) (by omega)
  · exact ((hall.setCell (by simp) _).setCell (by simp) _).setCell (by simp) _

theorem List_any (s : ByteArray) (n size : Nat) (m : Int) (w : World) (hs : s.size ≤ maxLen) (hn : n ≤ 1048576) (hsz : size ≤ 5) :
    Calls Tryz.prog 51 #[.string s, .int .i64 n, .int .i64 size, .int .i64 m] w fun e w' => ∃ a x y, e = .returned (.tuple #[.slice a x y, .bool (okL s.data.toList n size m)]) ∧ Up w w' := by
  cases h : okL s.data.toList n size m with
  | true =>
    refine (List_ok s n size m w hs hn hsz h).mono ?_
    rintro e w' ⟨v, rfl, hown, hu⟩
    rcases hown.2 with ⟨rfl, _⟩ | ⟨g, cap, cur, rfl, _⟩
    · exact ⟨_, _, _, rfl, hu⟩
    · exact ⟨_, _, _, rfl, hu⟩
  | false =>
    refine (List_no s n size m w hs hn hsz h).mono ?_
    rintro e w' ⟨rfl, hu⟩
    exact ⟨_, _, _, rfl, hu⟩

/-- Read's answer where the text is no ciphertext -/
abbrev ReadNo (n : Nat) (t q b : Int) (s : ByteArray) (w : World) : Prop :=
  Calls Tryz.prog 21 #[.agg #[.int .i64 n, .int .i64 t, .int .i64 q, .int .i64 b], .string s] w fun e w' => ∃ (x : Int) (p0 : Option Addr) (x0 y0 : Nat) (p1 : Option Addr) (x1 y1 : Nat), e = .returned (.tuple #[.agg #[.int .i64 x, .slice p0 x0 y0, .slice p1 x1 y1], .bool false]) ∧ Up w w'

set_option maxHeartbeats 1000000 in
theorem Read_no1 (n : Nat) (t q b : Int) (s : ByteArray) (w : World) (hs : s.size ≤ maxLen) (hn : n ≤ 16) (h : s.size ≠ 6 + 8 * n) : ReadNo n t q b s w := by
  have hne : ((s.size : Int) != 6 + 8 * (n : Int)) = true := by rw [bne_iff_ne]; omega
  unfold ReadNo
  go_enter Tryz.func21, Tryz.ntmps21
  go_wp2_with fail
  exact bodyPost_ret (v := .tuple #[.agg #[.int .i64 0, .slice none 0 0, .slice none 0 0], .bool false]) (by simp [results, Tryz.results21, go_sem]) rfl ⟨_, _, _, _, _, _, _, rfl, ((Up.refl w).alloc _).alloc _⟩

set_option maxHeartbeats 1000000 in
theorem Read_no2 (n : Nat) (t q b : Int) (s : ByteArray) (w : World) (hs : s.size ≤ maxLen) (hn : n ≤ 16) (hl : s.size = 6 + 8 * n) (h : byteL s.data.toList 0 ≠ 67) : ReadNo n t q b s w := by
  have hne : ((s.size : Int) != 6 + 8 * (n : Int)) = false := by rw [hl]; simp
  have h0 : 0 < s.size := by omega
  rw [byteL_in s 0 h0] at h
  have hne2 : (((s[0]'h0).toNat : Int) != 67) = true := by rw [bne_iff_ne]; omega
  have HL : Hid _ := hl
  clear hl h
  unfold ReadNo
  go_enter Tryz.func21, Tryz.ntmps21
  go_wp2_with fail
  exact bodyPost_ret (v := .tuple #[.agg #[.int .i64 0, .slice none 0 0, .slice none 0 0], .bool false]) (by simp [results, Tryz.results21, go_sem]) rfl ⟨_, _, _, _, _, _, _, rfl, ((Up.refl w).alloc _).alloc _⟩

set_option maxRecDepth 100000 in
set_option maxHeartbeats 4000000 in
theorem Read_no3 (n : Nat) (t q b : Int) (s : ByteArray) (w : World) (hs : s.size ≤ maxLen) (hn : n ≤ 16) (hn1 : 1 ≤ n) (ht : 1 ≤ t) (ht2 : t ≤ 1021) (hq : 0 ≤ q) (hq2 : q ≤ 1073741823) (hl : s.size = 6 + 8 * n) (h2 : byteL s.data.toList 0 = 67) (o0 o1 : Bool)
    (h3 : okL ((s.data.toList.take (6 + 4 * n)).drop 6) n 4 q = o0) (h4 : okL (s.data.toList.drop (6 + 4 * n)) n 4 q = o1) (h : o0 = false ∨ (o0 = true ∧ o1 = false) ∨ (o0 = true ∧ o1 = true ∧ fitsB t q (ctE s.data.toList) = false)) : ReadNo n t q b s w := by
  have hne : ((s.size : Int) != 6 + 8 * (n : Int)) = false := by rw [hl]; simp
  have h0 : 0 < s.size := by omega
  rw [byteL_in s 0 h0] at h2
  have hne2 : (((s[0]'h0).toNat : Int) != 67) = false := by rw [h2]; rfl
  have hE := numL_le5 s.data.toList 1 5 (by omega)
  have HL1 : Hid (∀ W, Calls Tryz.prog 51 #[.string (s.extract 6 (6 + 4 * n)), .int .i64 n, .int .i64 4, .int .i64 q] W fun e w' => ∃ a x y, e = .returned (.tuple #[.slice a x y, .bool o0]) ∧ Up W w') := fun W => by
    have := List_any (s.extract 6 (6 + 4 * n)) n 4 q W (by simp; omega) (by omega) (by omega)
    rw [ext_mid s n hl, h3] at this
    exact this
  have HL2 : Hid (∀ W, Calls Tryz.prog 51 #[.string (s.extract (6 + 4 * n) s.size), .int .i64 n, .int .i64 4, .int .i64 q] W fun e w' => ∃ a x y, e = .returned (.tuple #[.slice a x y, .bool o1]) ∧ Up W w') := fun W => by
    have := List_any (s.extract (6 + 4 * n) s.size) n 4 q W (by simp; omega) (by omega) (by omega)
    rw [ext_end s n, h4] at this
    exact this
  have HL : Hid _ := hl
  have H : Hid _ := h
  clear h2 h3 h4 h hl
  unfold ReadNo
  go_enter Tryz.func21, Tryz.ntmps21
  go_wp2_with fail
  refine (Number_calls s 1 5 _ hs (by omega) (by omega) (by omega)).mono ?_
  rintro e w1 ⟨rfl, rfl⟩
  have e1 : IntKind.i64.wrap (4 * (n : Int)) = 4 * (n : Int) := IntWalk.i64_in _ (by omega)
  have e2 : IntKind.i64.wrap (6 + 4 * (n : Int)) = 6 + 4 * (n : Int) := IntWalk.i64_in _ (by omega)
  have e3 : ((6 : Int) + 4 * (n : Int)).toNat = 6 + 4 * n := by omega
  have b1 : (6 : Int) ≤ 6 + 4 * (n : Int) := by omega
  have b2 : (6 : Int) + 4 * (n : Int) ≤ (s.size : Int) := by have := HL.out; omega
  have b3 : (0 : Int) ≤ 6 + 4 * (n : Int) := by omega
  go_wp2_with fail
  go_region_held3 (fun w' => w'.cell? ⟨w.heap.size, 0, none⟩ = some (.int .i64 (n : Int)) ∧ w'.cell? ⟨w.heap.size, 2, none⟩ = some (.int .i64 q))
    (first | go_keep | exact ⟨keepU hu2 (And.left (by assumption)), keepU hu2 (And.right (by assumption))⟩)
    ((first | (go_at_call 51; refine Calls.mono (HL1.out _) ?_; rintro e w2 ⟨p0, x0, y0, rfl, hu2⟩)))
  have hu2' : Up ((w.alloc (.cells #[.int .i64 n, .int .i64 t, .int .i64 q, .int .i64 b] 23)).alloc (.cells #[.int .i64 0, .slice none 0 0, .slice none 0 0] 59)) w2 := Up.trans (Up.drew (Up.refl _)) hu2
  clear hu2
  obtain ⟨hc, hf⟩ := bcell hu2'
  have hq0 : w2.cell? ⟨w.heap.size, 0, none⟩ = some (.int .i64 (n : Int)) := by rw [hc _ _ (by simp; omega)]; simp
  have hq1 : w2.cell? ⟨w.heap.size, 2, none⟩ = some (.int .i64 q) := by rw [hc _ _ (by simp; omega)]; simp
  clear hc hf
  go_wp2_with fail
  go_region_held3 (fun w' => w'.cell? ⟨w.heap.size, 0, none⟩ = some (.int .i64 (n : Int)) ∧ w'.cell? ⟨w.heap.size, 2, none⟩ = some (.int .i64 q))
    (first | go_keep | exact ⟨keepU hu3 (And.left (by assumption)), keepU hu3 (And.right (by assumption))⟩)
    ((first | (go_at_call 51; refine Calls.mono (HL2.out _) ?_; rintro e w3 ⟨p1, x1, y1, rfl, hu3⟩)))
  have hu03 := hu2'.trans (Up.trans (Up.drew (Up.refl _)) hu3)
  clear hu3 hu2' hq0 hq1 e1 e2 e3 b1 b2 b3
  obtain ⟨hc, hf⟩ := bcell hu03
  have hall : Below w.heap.size w w3 := (((Up.refl w).alloc _).alloc _).trans hu03
  have hk0 : w3.cell? ⟨w.heap.size + 1, 0, none⟩ = some (.int .i64 0) := by rw [hc _ _ (by simp)]; simp
  have hk1 : w3.cell? ⟨w.heap.size + 1, 1, none⟩ = some (.slice none 0 0) := by rw [hc _ _ (by simp)]; simp
  have hk2 : w3.cell? ⟨w.heap.size + 1, 2, none⟩ = some (.slice none 0 0) := by rw [hc _ _ (by simp)]; simp
  rcases H.out with rfl | ⟨rfl, rfl⟩ | ⟨rfl, rfl, hfit⟩
  · go_wp2_with fail
    clear hc hf
    exact bodyPost_ret (v := .tuple #[.agg #[.int .i64 (ctE s.data.toList), .slice p0 x0 y0, .slice p1 x1 y1], .bool false]) (by simp [results, Tryz.results21, go_sem, hk0, hk1, hk2, ctE]) rfl (by first | exact ⟨_, _, _, _, _, _, _, rfl, ((hall.setCell (by simp) _).setCell (by simp) _).setCell (by simp) _⟩ | exact ⟨⟨_, _, _, _, _, _, _, rfl⟩, ((hall.setCell (by simp) _).setCell (by simp) _).setCell (by simp) _⟩)
  · go_wp2_with fail
    clear hc hf
    exact bodyPost_ret (v := .tuple #[.agg #[.int .i64 (ctE s.data.toList), .slice p0 x0 y0, .slice p1 x1 y1], .bool false]) (by simp [results, Tryz.results21, go_sem, hk0, hk1, hk2, ctE]) rfl (by first | exact ⟨_, _, _, _, _, _, _, rfl, ((hall.setCell (by simp) _).setCell (by simp) _).setCell (by simp) _⟩ | exact ⟨⟨_, _, _, _, _, _, _, rfl⟩, ((hall.setCell (by simp) _).setCell (by simp) _).setCell (by simp) _⟩)
  · go_wp2_with fail
    refine (refFits_calls _ _ _ _ _ _ ht ht2 hq hq2 (by omega) (by omega)).mono ?_
    rintro e w4 ⟨rfl, hu4⟩
    rw [show fitsB t q ((numL s.data.toList 1 5 : Nat) : Int) = false from hfit]
    have hall4 : Below w.heap.size w w4 := hall.trans (hu4.mono (by have := hall.size; omega))
    clear hc hf
    obtain ⟨hc, hf⟩ := bcell (hu03.trans hu4)
    have hj0 : w4.cell? ⟨w.heap.size + 1, 0, none⟩ = some (.int .i64 0) := by rw [hc _ _ (by simp)]; simp
    have hj1 : w4.cell? ⟨w.heap.size + 1, 1, none⟩ = some (.slice none 0 0) := by rw [hc _ _ (by simp)]; simp
    have hj2 : w4.cell? ⟨w.heap.size + 1, 2, none⟩ = some (.slice none 0 0) := by rw [hc _ _ (by simp)]; simp
    go_wp2_with fail
    clear hc hf
    exact bodyPost_ret (v := .tuple #[.agg #[.int .i64 (ctE s.data.toList), .slice p0 x0 y0, .slice p1 x1 y1], .bool false]) (by simp [results, Tryz.results21, go_sem, hj0, hj1, hj2, ctE]) rfl (by first | exact ⟨_, _, _, _, _, _, _, rfl, ((hall4.setCell (by simp) _).setCell (by simp) _).setCell (by simp) _⟩ | exact ⟨⟨_, _, _, _, _, _, _, rfl⟩, ((hall4.setCell (by simp) _).setCell (by simp) _).setCell (by simp) _⟩)

theorem Read_no (n : Nat) (t q b : Int) (s : ByteArray) (w : World) (hs : s.size ≤ maxLen) (hn : n ≤ 16) (hn1 : 1 ≤ n) (ht : 1 ≤ t) (ht2 : t ≤ 1021) (hq : 0 ≤ q) (hq2 : q ≤ 1073741823) (h : ctB s.data.toList n t q = false) : ReadNo n t q b s w := by
  by_cases h1 : s.size = 6 + 8 * n
  · by_cases h2 : byteL s.data.toList 0 = 67
    · refine Read_no3 n t q b s w hs hn hn1 ht ht2 hq hq2 h1 h2 _ _ rfl rfl ?_
      cases h3 : okL ((s.data.toList.take (6 + 4 * n)).drop 6) n 4 q with
      | false => exact Or.inl rfl
      | true =>
        cases h4 : okL (s.data.toList.drop (6 + 4 * n)) n 4 q with
        | false => exact Or.inr (Or.inl ⟨rfl, rfl⟩)
        | true =>
          cases h5 : fitsB t q (ctE s.data.toList) with
          | false => exact Or.inr (Or.inr ⟨rfl, rfl, rfl⟩)
          | true =>
            rw [(ctB_iff _ _ _ _).2 ⟨by simpa using h1, h2, h3, h4, h5⟩] at h
            exact absurd h (by decide)
    · exact Read_no2 n t q b s w hs hn h1 h2
  · exact Read_no1 n t q b s w hs hn h1

end Go.Proofs.YtjiekfplgmfgiabGreat
