/-
  Walks: the reference's Read and Told.
  Walks: the reference's Told, Bound, Encrypt.
  Walks: the reference's Encrypt.
  Walks: the reference's Decrypt.
-/
import Derived.Test.YtcjhgbljhpflfabGreatWalksRa
namespace Go.Proofs.YtcjhgbljhpflfabGreat
open Go.RowKit
set_option linter.unusedVariables false
set_option maxRecDepth 100000

/-- a ciphertext's parts -/
def ctE (l : List UInt8) : Nat := numL l 1 5
def ct0 (l : List UInt8) (n : Nat) : List Int := (List.range n).map fun i => (numL l (6 + 4 * i) 4 : Int)
def ct1 (l : List UInt8) (n : Nat) : List Int := (List.range n).map fun i => (numL l (6 + 4 * n + 4 * i) 4 : Int)

/-- is the text a ciphertext? -/
def ctB (l : List UInt8) (n : Nat) (t q : Int) : Bool :=
  decide (l.length = 6 + 8 * n) && decide (byteL l 0 = 67) && okL ((l.take (6 + 4 * n)).drop 6) n 4 q && okL (l.drop (6 + 4 * n)) n 4 q && fitsB t q (ctE l)

theorem byteL_drop (l : List UInt8) (k i : Nat) : byteL (l.drop k) i = byteL l (k + i) := by
  unfold byteL
  simp [List.getD_eq_getElem?_getD, List.getElem?_drop]

theorem byteL_take (l : List UInt8) (k i : Nat) (h : i < k) : byteL (l.take k) i = byteL l i := by
  unfold byteL
  simp [List.getD_eq_getElem?_getD, h]

theorem numL_drop (l : List UInt8) (k i m : Nat) : numL (l.drop k) i m = numL l (k + i) m := by
  induction m with
  | zero => rfl
  | succ m ih => simp only [numL]; rw [ih, byteL_drop, Nat.add_assoc]

theorem numL_take (l : List UInt8) (k i m : Nat) (h : i + m ≤ k) : numL (l.take k) i m = numL l i m := by
  induction m with
  | zero => rfl
  | succ m ih => simp only [numL]; rw [ih (by omega), byteL_take _ _ _ (by omega)]

theorem ct0_eq (l : List UInt8) (n : Nat) : numsL ((l.take (6 + 4 * n)).drop 6) 4 n = ct0 l n := by
  rw [numsL_range]
  refine List.map_congr_left fun i hi => ?_
  have := List.mem_range.1 hi
  rw [numL_drop, numL_take _ _ _ _ (by omega), Nat.mul_comm i 4]

theorem ct1_eq (l : List UInt8) (n : Nat) : numsL (l.drop (6 + 4 * n)) 4 n = ct1 l n := by
  rw [numsL_range]
  refine List.map_congr_left fun i hi => ?_
  rw [numL_drop, Nat.mul_comm i 4]

theorem ct0_length (l : List UInt8) (n : Nat) : (ct0 l n).length = n := by simp [ct0]
theorem ct1_length (l : List UInt8) (n : Nat) : (ct1 l n).length = n := by simp [ct1]

theorem ctB_iff (l : List UInt8) (n : Nat) (t q : Int) : ctB l n t q = true ↔ l.length = 6 + 8 * n ∧ byteL l 0 = 67 ∧ okL ((l.take (6 + 4 * n)).drop 6) n 4 q = true ∧ okL (l.drop (6 + 4 * n)) n 4 q = true ∧ fitsB t q (ctE l) = true := by
  unfold ctB
  simp [and_assoc]

theorem ext_mid (s : ByteArray) (n : Nat) (h : s.size = 6 + 8 * n) : (s.extract 6 (6 + 4 * n)).data.toList = (s.data.toList.take (6 + 4 * n)).drop 6 := ext_list s 6 (6 + 4 * n) (by omega)
theorem ext_end (s : ByteArray) (n : Nat) : (s.extract (6 + 4 * n) s.size).data.toList = s.data.toList.drop (6 + 4 * n) := by
  rw [ext_list s _ s.size (Nat.le_refl _)]
  have : s.data.toList.take s.size = s.data.toList := List.take_of_length_le (by simp)
  rw [this]

set_option maxRecDepth 100000 in
set_option maxHeartbeats 4000000 in
theorem Read_ok (n : Nat) (t q b : Int) (s : ByteArray) (w : World) (hs : s.size ≤ maxLen) (hn : n ≤ 16) (hn1 : 1 ≤ n) (ht : 1 ≤ t) (ht2 : t ≤ 1021) (hq : 0 ≤ q) (hq2 : q ≤ 1073741823) (h : ctB s.data.toList n t q = true) :
    Calls Tryz.prog 42 #[.agg #[.int .i64 n, .int .i64 t, .int .i64 q, .int .i64 b], .string s] w fun e w' => ∃ g0 c0 g1 c1, e = .returned (.tuple #[.agg #[.int .i64 (ctE s.data.toList), .slice (some ⟨g0, 0, none⟩) n c0, .slice (some ⟨g1, 0, none⟩) n c1], .bool true]) ∧
      OwnI w' w.heap.size (.slice (some ⟨g0, 0, none⟩) n c0) (ct0 s.data.toList n) ∧ OwnI w' w.heap.size (.slice (some ⟨g1, 0, none⟩) n c1) (ct1 s.data.toList n) ∧ Up w w' := by
  obtain ⟨h1, h2, h3, h4, h5⟩ := (ctB_iff _ _ _ _).1 h
  have hl : s.size = 6 + 8 * n := by simpa using h1
  have hne : ((s.size : Int) != 6 + 8 * (n : Int)) = false := by rw [hl]; simp
  have h0 : 0 < s.size := by omega
  rw [byteL_in s 0 h0] at h2
  have hne2 : (((s[0]'h0).toNat : Int) != 67) = false := by rw [h2]; rfl
  have hE := numL_le5 s.data.toList 1 5 (by omega)
  have HL1 : Hid (∀ W, Calls Tryz.prog 98 #[.string (s.extract 6 (6 + 4 * n)), .int .i64 n, .int .i64 4, .int .i64 q] W fun e w' => ∃ g cap, e = .returned (.tuple #[.slice (some ⟨g, 0, none⟩) n cap, .bool true]) ∧ OwnI w' W.heap.size (.slice (some ⟨g, 0, none⟩) n cap) (ct0 s.data.toList n) ∧ Up W w') := fun W => by
    refine (List_ok (s.extract 6 (6 + 4 * n)) n 4 q W (by simp; omega) (by omega) (by omega) (by rw [ext_mid s n hl]; exact h3)).mono ?_
    rintro e w' ⟨v, rfl, hown, hu⟩
    rw [ext_mid s n hl, ct0_eq] at hown
    obtain ⟨g, cap, rfl, _, _⟩ := hown.is (ne_nil_of_length (ct0_length _ _) (by omega))
    rw [ct0_length] at hown ⊢
    exact ⟨g, cap, rfl, hown, hu⟩
  have HL2 : Hid (∀ W, Calls Tryz.prog 98 #[.string (s.extract (6 + 4 * n) s.size), .int .i64 n, .int .i64 4, .int .i64 q] W fun e w' => ∃ g cap, e = .returned (.tuple #[.slice (some ⟨g, 0, none⟩) n cap, .bool true]) ∧ OwnI w' W.heap.size (.slice (some ⟨g, 0, none⟩) n cap) (ct1 s.data.toList n) ∧ Up W w') := fun W => by
    refine (List_ok (s.extract (6 + 4 * n) s.size) n 4 q W (by simp; omega) (by omega) (by omega) (by rw [ext_end s n]; exact h4)).mono ?_
    rintro e w' ⟨v, rfl, hown, hu⟩
    rw [ext_end s n, ct1_eq] at hown
    obtain ⟨g, cap, rfl, _, _⟩ := hown.is (ne_nil_of_length (ct1_length _ _) (by omega))
    rw [ct1_length] at hown ⊢
    exact ⟨g, cap, rfl, hown, hu⟩
  have H5 : Hid _ := h5
  have HL : Hid _ := hl
  clear h1 h2 h3 h4 h h5 hl
  go_enter Tryz.func42, Tryz.ntmps42
  go_wp2_with fail
  refine (Number_calls s 1 5 _ hs (by omega) (by omega) (by omega)).mono ?_
  rintro e w1 ⟨rfl, rfl⟩
  have e1 : IntKind.i64.wrap (4 * (n : Int)) = 4 * (n : Int) := IntWalk.i64_in _ (by omega)
  have e2 : IntKind.i64.wrap (6 + 4 * (n : Int)) = 6 + 4 * (n : Int) := IntWalk.i64_in _ (by omega)
  have e3 : ((6 : Int) + 4 * (n : Int)).toNat = 6 + 4 * n := by omega
  have b1 : (6 : Int) ≤ 6 + 4 * (n : Int) := by omega
  have b2 : (6 : Int) + 4 * (n : Int) ≤ (s.size : Int) := by have := HL.out; omega
  have b3 : (0 : Int) ≤ 6 + 4 * (n : Int) := by omega
  go_wp2_with fail
  go_region_held3 (fun w' => w'.cell? ⟨w.heap.size, 0, none⟩ = some (.int .i64 (n : Int)) ∧ w'.cell? ⟨w.heap.size, 2, none⟩ = some (.int .i64 q))
    (first | go_keep | exact ⟨keepU hu2 (And.left (by assumption)), keepU hu2 (And.right (by assumption))⟩)
    ((first | (go_at_call 98; refine Calls.mono (HL1.out _) ?_; rintro e w2 ⟨g0, c0, rfl, ho0, hu2⟩)))
  have hu2' : Up ((w.alloc (.cells #[.int .i64 n, .int .i64 t, .int .i64 q, .int .i64 b] 23)).alloc (.cells #[.int .i64 0, .slice none 0 0, .slice none 0 0] 98)) w2 := Up.trans (Up.drew (Up.refl _)) hu2
  clear hu2
  obtain ⟨hc, hf⟩ := bcell hu2'
  have hq0 : w2.cell? ⟨w.heap.size, 0, none⟩ = some (.int .i64 (n : Int)) := by rw [hc _ _ (by simp; omega)]; simp
  have hq1 : w2.cell? ⟨w.heap.size, 2, none⟩ = some (.int .i64 q) := by rw [hc _ _ (by simp; omega)]; simp
  clear hc hf
  go_wp2_with fail
  go_region_held3 (fun w' => w'.cell? ⟨w.heap.size, 0, none⟩ = some (.int .i64 (n : Int)) ∧ w'.cell? ⟨w.heap.size, 2, none⟩ = some (.int .i64 q))
    (first | go_keep | exact ⟨keepU hu3 (And.left (by assumption)), keepU hu3 (And.right (by assumption))⟩)
    ((first | (go_at_call 98; refine Calls.mono (HL2.out _) ?_; rintro e w3 ⟨g1, c1, rfl, ho1, hu3⟩)))
  have hu3' : Up w2 w3 := Up.trans (Up.drew (Up.refl _)) hu3
  have ho0' := ho0.up hu3'
  have hu03 := hu2'.trans hu3'
  have hsz2 : w.heap.size ≤ w2.heap.size := by have := hu2'.size; simp at this; omega
  obtain ⟨hc, hf⟩ := bcell hu03
  clear hu3 ho0 hq0 hq1 e1 e2 e3 b1 b2 b3
  go_wp2_with fail
  refine (refFits_calls _ _ _ _ _ _ ht ht2 hq hq2 (by omega) (by omega)).mono ?_
  rintro e w4 ⟨rfl, hu4⟩
  rw [show fitsB t q ((numL s.data.toList 1 5 : Nat) : Int) = true from H5.out]
  have hu04 := hu03.trans hu4
  have ho0'' := ho0'.up hu4
  have ho1'' := ho1.up hu4
  clear hc hf
  obtain ⟨hc, hf⟩ := bcell hu04
  have hk0 : w4.cell? ⟨w.heap.size + 1, 0, none⟩ = some (.int .i64 0) := by rw [hc _ _ (by simp)]; simp
  have hk1 : w4.cell? ⟨w.heap.size + 1, 1, none⟩ = some (.slice none 0 0) := by rw [hc _ _ (by simp)]; simp
  have hk2 : w4.cell? ⟨w.heap.size + 1, 2, none⟩ = some (.slice none 0 0) := by rw [hc _ _ (by simp)]; simp
  go_wp2_with fail
  clear hc hf
  have hb0 := ho0''.base (base' := w.heap.size + 2) (by simp)
  have hb1 := ho1''.base (base' := w.heap.size + 2) (by have := hu2'.size; simp at this ⊢; omega)
  have hall : Below w.heap.size w w4 := (((Up.refl w).alloc _).alloc _).trans hu04
  clear ho0'' ho1'' ho0' ho1 hu04 hu03 hu4 hu3' hu2'
  refine bodyPost_ret (v := .tuple #[.agg #[.int .i64 (ctE s.data.toList), .slice (some ⟨g0, 0, none⟩) n c0, .slice (some ⟨g1, 0, none⟩) n c1], .bool true]) (by simp [results, Tryz.results42, go_sem, hk0, hk1, hk2, ctE]) rfl ⟨g0, c0, g1, c1, rfl, ?_, ?_, ?_⟩
  · exact OwnI.base (ownsRow_setCell_below (ownsRow_setCell_below (ownsRow_setCell_below hb0 (by simp) _) (by simp) _) (by simp) _) (by omega)
  · exact OwnI.base (ownsRow_setCell_below (ownsRow_setCell_below (ownsRow_setCell_below hb1 (by simp) _) (by simp) _) (by simp) _) (by omega)
  · exact ((hall.setCell (by simp) _).setCell (by simp) _).setCell (by simp) _

theorem List_any (s : ByteArray) (n size : Nat) (m : Int) (w : World) (hs : s.size ≤ maxLen) (hn : n ≤ 1048576) (hsz : size ≤ 5) :
    Calls Tryz.prog 98 #[.string s, .int .i64 n, .int .i64 size, .int .i64 m] w fun e w' => ∃ a x y, e = .returned (.tuple #[.slice a x y, .bool (okL s.data.toList n size m)]) ∧ Up w w' := by
  cases h : okL s.data.toList n size m with
  | true =>
    refine (List_ok s n size m w hs hn hsz h).mono ?_
    rintro e w' ⟨v, rfl, hown, hu⟩
    rcases hown.2 with ⟨rfl, _⟩ | ⟨g, cap, cur, rfl, _⟩
    · exact ⟨_, _, _, rfl, hu⟩
    · exact ⟨_, _, _, rfl, hu⟩
  | false =>
    refine (List_no s n size m w hs hn hsz h).mono ?_
    rintro e w' ⟨rfl, hu⟩
    exact ⟨_, _, _, rfl, hu⟩

/-- Read's answer where the text is no ciphertext -/
abbrev ReadNo (n : Nat) (t q b : Int) (s : ByteArray) (w : World) : Prop :=
  Calls Tryz.prog 42 #[.agg #[.int .i64 n, .int .i64 t, .int .i64 q, .int .i64 b], .string s] w fun e w' => ∃ (x : Int) (p0 : Option Addr) (x0 y0 : Nat) (p1 : Option Addr) (x1 y1 : Nat), e = .returned (.tuple #[.agg #[.int .i64 x, .slice p0 x0 y0, .slice p1 x1 y1], .bool false]) ∧ Up w w'

set_option maxHeartbeats 1000000 in
theorem Read_no1 (n : Nat) (t q b : Int) (s : ByteArray) (w : World) (hs : s.size ≤ maxLen) (hn : n ≤ 16) (h : s.size ≠ 6 + 8 * n) : ReadNo n t q b s w := by
  have hne : ((s.size : Int) != 6 + 8 * (n : Int)) = true := by rw [bne_iff_ne]; omega
  unfold ReadNo
  go_enter Tryz.func42, Tryz.ntmps42
  go_wp2_with fail
  exact bodyPost_ret (v := .tuple #[.agg #[.int .i64 0, .slice none 0 0, .slice none 0 0], .bool false]) (by simp [results, Tryz.results42, go_sem]) rfl ⟨_, _, _, _, _, _, _, rfl, ((Up.refl w).alloc _).alloc _⟩

set_option maxHeartbeats 1000000 in
theorem Read_no2 (n : Nat) (t q b : Int) (s : ByteArray) (w : World) (hs : s.size ≤ maxLen) (hn : n ≤ 16) (hl : s.size = 6 + 8 * n) (h : byteL s.data.toList 0 ≠ 67) : ReadNo n t q b s w := by
  have hne : ((s.size : Int) != 6 + 8 * (n : Int)) = false := by rw [hl]; simp
  have h0 : 0 < s.size := by omega
  rw [byteL_in s 0 h0] at h
  have hne2 : (((s[0]'h0).toNat : Int) != 67) = true := by rw [bne_iff_ne]; omega
  have HL : Hid _ := hl
  clear hl h
  unfold ReadNo
  go_enter Tryz.func42, Tryz.ntmps42
  go_wp2_with fail
  exact bodyPost_ret (v := .tuple #[.agg #[.int .i64 0, .slice none 0 0, .slice none 0 0], .bool false]) (by simp [results, Tryz.results42, go_sem]) rfl ⟨_, _, _, _, _, _, _, rfl, ((Up.refl w).alloc _).alloc _⟩

set_option maxRecDepth 100000 in
set_option maxHeartbeats 4000000 in
theorem Read_no3 (n : Nat) (t q b : Int) (s : ByteArray) (w : World) (hs : s.size ≤ maxLen) (hn : n ≤ 16) (hn1 : 1 ≤ n) (ht : 1 ≤ t) (ht2 : t ≤ 1021) (hq : 0 ≤ q) (hq2 : q ≤ 1073741823) (hl : s.size = 6 + 8 * n) (h2 : byteL s.data.toList 0 = 67) (o0 o1 : Bool)
    (h3 : okL ((s.data.toList.take (6 + 4 * n)).drop 6) n 4 q = o0) (h4 : okL (s.data.toList.drop (6 + 4 * n)) n 4 q = o1) (h : o0 = false ∨ (o0 = true ∧ o1 = false) ∨ (o0 = true ∧ o1 = true ∧ fitsB t q (ctE s.data.toList) = false)) : ReadNo n t q b s w := by
  have hne : ((s.size : Int) != 6 + 8 * (n : Int)) = false := by rw [hl]; simp
  have h0 : 0 < s.size := by omega
  rw [byteL_in s 0 h0] at h2
  have hne2 : (((s[0]'h0).toNat : Int) != 67) = false := by rw [h2]; rfl
  have hE := numL_le5 s.data.toList 1 5 (by omega)
  have HL1 : Hid (∀ W, Calls Tryz.prog 98 #[.string (s.extract 6 (6 + 4 * n)), .int .i64 n, .int .i64 4, .int .i64 q] W fun e w' => ∃ a x y, e = .returned (.tuple #[.slice a x y, .bool o0]) ∧ Up W w') := fun W => by
    have := List_any (s.extract 6 (6 + 4 * n)) n 4 q W (by simp; omega) (by omega) (by omega)
    rw [ext_mid s n hl, h3] at this
    exact this
  have HL2 : Hid (∀ W, Calls Tryz.prog 98 #[.string (s.extract (6 + 4 * n) s.size), .int .i64 n, .int .i64 4, .int .i64 q] W fun e w' => ∃ a x y, e = .returned (.tuple #[.slice a x y, .bool o1]) ∧ Up W w') := fun W => by
    have := List_any (s.extract (6 + 4 * n) s.size) n 4 q W (by simp; omega) (by omega) (by omega)
    rw [ext_end s n, h4] at this
    exact this
  have HL : Hid _ := hl
  have H : Hid _ := h
  clear h2 h3 h4 h hl
  unfold ReadNo
  go_enter Tryz.func42, Tryz.ntmps42
  go_wp2_with fail
  refine (Number_calls s 1 5 _ hs (by omega) (by omega) (by omega)).mono ?_
  rintro e w1 ⟨rfl, rfl⟩
  have e1 : IntKind.i64.wrap (4 * (n : Int)) = 4 * (n : Int) := IntWalk.i64_in _ (by omega)
  have e2 : IntKind.i64.wrap (6 + 4 * (n : Int)) = 6 + 4 * (n : Int) := IntWalk.i64_in _ (by omega)
  have e3 : ((6 : Int) + 4 * (n : Int)).toNat = 6 + 4 * n := by omega
  have b1 : (6 : Int) ≤ 6 + 4 * (n : Int) := by omega
  have b2 : (6 : Int) + 4 * (n : Int) ≤ (s.size : Int) := by have := HL.out; omega
  have b3 : (0 : Int) ≤ 6 + 4 * (n : Int) := by omega
  go_wp2_with fail
  go_region_held3 (fun w' => w'.cell? ⟨w.heap.size, 0, none⟩ = some (.int .i64 (n : Int)) ∧ w'.cell? ⟨w.heap.size, 2, none⟩ = some (.int .i64 q))
    (first | go_keep | exact ⟨keepU hu2 (And.left (by assumption)), keepU hu2 (And.right (by assumption))⟩)
    ((first | (go_at_call 98; refine Calls.mono (HL1.out _) ?_; rintro e w2 ⟨p0, x0, y0, rfl, hu2⟩)))
  have hu2' : Up ((w.alloc (.cells #[.int .i64 n, .int .i64 t, .int .i64 q, .int .i64 b] 23)).alloc (.cells #[.int .i64 0, .slice none 0 0, .slice none 0 0] 98)) w2 := Up.trans (Up.drew (Up.refl _)) hu2
  clear hu2
  obtain ⟨hc, hf⟩ := bcell hu2'
  have hq0 : w2.cell? ⟨w.heap.size, 0, none⟩ = some (.int .i64 (n : Int)) := by rw [hc _ _ (by simp; omega)]; simp
  have hq1 : w2.cell? ⟨w.heap.size, 2, none⟩ = some (.int .i64 q) := by rw [hc _ _ (by simp; omega)]; simp
  clear hc hf
  go_wp2_with fail
  go_region_held3 (fun w' => w'.cell? ⟨w.heap.size, 0, none⟩ = some (.int .i64 (n : Int)) ∧ w'.cell? ⟨w.heap.size, 2, none⟩ = some (.int .i64 q))
    (first | go_keep | exact ⟨keepU hu3 (And.left (by assumption)), keepU hu3 (And.right (by assumption))⟩)
    ((first | (go_at_call 98; refine Calls.mono (HL2.out _) ?_; rintro e w3 ⟨p1, x1, y1, rfl, hu3⟩)))
  have hu03 := hu2'.trans (Up.trans (Up.drew (Up.refl _)) hu3)
  clear hu3 hu2' hq0 hq1 e1 e2 e3 b1 b2 b3
  obtain ⟨hc, hf⟩ := bcell hu03
  have hall : Below w.heap.size w w3 := (((Up.refl w).alloc _).alloc _).trans hu03
  have hk0 : w3.cell? ⟨w.heap.size + 1, 0, none⟩ = some (.int .i64 0) := by rw [hc _ _ (by simp)]; simp
  have hk1 : w3.cell? ⟨w.heap.size + 1, 1, none⟩ = some (.slice none 0 0) := by rw [hc _ _ (by simp)]; simp
  have hk2 : w3.cell? ⟨w.heap.size + 1, 2, none⟩ = some (.slice none 0 0) := by rw [hc _ _ (by simp)]; simp
  rcases H.out with rfl | ⟨rfl, rfl⟩ | ⟨rfl, rfl, hfit⟩
  · go_wp2_with fail
    clear hc hf
    exact bodyPost_ret (v := .tuple #[.agg #[.int .i64 (ctE s.data.toList), .slice p0 x0 y0, .slice p1 x1 y1], .bool false]) (by simp [results, Tryz.results42, go_sem, hk0, hk1, hk2, ctE]) rfl (by first | exact ⟨_, _, _, _, _, _, _, rfl, ((hall.setCell (by simp) _).setCell (by simp) _).setCell (by simp) _⟩ | exact ⟨⟨_, _, _, _, _, _, _, rfl⟩, ((hall.setCell (by simp) _).setCell (by simp) _).setCell (by simp) _⟩)
  · go_wp2_with fail
    clear hc hf
    exact bodyPost_ret (v := .tuple #[.agg #[.int .i64 (ctE s.data.toList), .slice p0 x0 y0, .slice p1 x1 y1], .bool false]) (by simp [results, Tryz.results42, go_sem, hk0, hk1, hk2, ctE]) rfl (by first | exact ⟨_, _, _, _, _, _, _, rfl, ((hall.setCell (by simp) _).setCell (by simp) _).setCell (by simp) _⟩ | exact ⟨⟨_, _, _, _, _, _, _, rfl⟩, ((hall.setCell (by simp) _).setCell (by simp) _).setCell (by simp) _⟩)
  · go_wp2_with fail
    refine (refFits_calls _ _ _ _ _ _ ht ht2 hq hq2 (by omega) (by omega)).mono ?_
    rintro e w4 ⟨rfl, hu4⟩
    rw [show fitsB t q ((numL s.data.toList 1 5 : Nat) : Int) = false from hfit]
    have hall4 : Below w.heap.size w w4 := hall.trans (hu4.mono (by have := hall.size; omega))
    clear hc hf
    obtain ⟨hc, hf⟩ := bcell (hu03.trans hu4)
    have hj0 : w4.cell? ⟨w.heap.size + 1, 0, none⟩ = some (.int .i64 0) := by rw [hc _ _ (by simp)]; simp
    have hj1 : w4.cell? ⟨w.heap.size + 1, 1, none⟩ = some (.slice none 0 0) := by rw [hc _ _ (by simp)]; simp
    have hj2 : w4.cell? ⟨w.heap.size + 1, 2, none⟩ = some (.slice none 0 0) := by rw [hc _ _ (by simp)]; simp
    go_wp2_with fail
    clear hc hf
    exact bodyPost_ret (v := .tuple #[.agg #[.int .i64 (ctE s.data.toList), .slice p0 x0 y0, .slice p1 x1 y1], .bool false]) (by simp [results, Tryz.results42, go_sem, hj0, hj1, hj2, ctE]) rfl (by first | exact ⟨_, _, _, _, _, _, _, rfl, ((hall4.setCell (by simp) _).setCell (by simp) _).setCell (by simp) _⟩ | exact ⟨⟨_, _, _, _, _, _, _, rfl⟩, ((hall4.setCell (by simp) _).setCell (by simp) _).setCell (by simp) _⟩)

theorem Read_no (n : Nat) (t q b : Int) (s : ByteArray) (w : World) (hs : s.size ≤ maxLen) (hn : n ≤ 16) (hn1 : 1 ≤ n) (ht : 1 ≤ t) (ht2 : t ≤ 1021) (hq : 0 ≤ q) (hq2 : q ≤ 1073741823) (h : ctB s.data.toList n t q = false) : ReadNo n t q b s w := by
  by_cases h1 : s.size = 6 + 8 * n
  · by_cases h2 : byteL s.data.toList 0 = 67
    · refine Read_no3 n t q b s w hs hn hn1 ht ht2 hq hq2 h1 h2 _ _ rfl rfl ?_
      cases h3 : okL ((s.data.toList.take (6 + 4 * n)).drop 6) n 4 q with
      | false => exact Or.inl rfl
      | true =>
        cases h4 : okL (s.data.toList.drop (6 + 4 * n)) n 4 q with
        | false => exact Or.inr (Or.inl ⟨rfl, rfl⟩)
        | true =>
          cases h5 : fitsB t q (ctE s.data.toList) with
          | false => exact Or.inr (Or.inr ⟨rfl, rfl, rfl⟩)
          | true =>
            rw [(ctB_iff _ _ _ _).2 ⟨by simpa using h1, h2, h3, h4, h5⟩] at h
            exact absurd h (by decide)
    · exact Read_no2 n t q b s w hs hn h1 h2
  · exact Read_no1 n t q b s w hs hn h1

end Go.Proofs.YtcjhgbljhpflfabGreat

namespace Go.Proofs.YtcjhgbljhpflfabGreat
open Go.RowKit
set_option linter.unusedVariables false
set_option maxRecDepth 100000

/-- a ciphertext as bytes -/
def toldL (e : Nat) (c0 c1 : List Int) : List UInt8 := [67] ++ textL e 5 ++ textsL 4 c0 ++ textsL 4 c1

theorem keep3 {a : Nat} {u0 u1 u2 : Value} {W W' : World} (hu : Up W W') (hS : W.cell? ⟨a, 0, none⟩ = some u0 ∧ W.cell? ⟨a, 1, none⟩ = some u1 ∧ W.cell? ⟨a, 2, none⟩ = some u2) :
    W'.cell? ⟨a, 0, none⟩ = some u0 ∧ W'.cell? ⟨a, 1, none⟩ = some u1 ∧ W'.cell? ⟨a, 2, none⟩ = some u2 :=
  ⟨keepU hu hS.1, keepU hu hS.2.1, keepU hu hS.2.2⟩

set_option maxHeartbeats 1000000 in
theorem Told_no (n e : Nat) (t q b : Int) (v0 v1 : Value) (p0 p1 : Option Addr) (x0 y0 x1 y1 : Nat) (w : World) (ht : 1 ≤ t) (ht2 : t ≤ 1021) (hq : 0 ≤ q) (hq2 : q ≤ 1073741823) (he : e ≤ 1125899906842624) (hf : fitsB t q e = false) :
    Calls Tryz.prog 103 #[.agg #[.int .i64 n, .int .i64 t, .int .i64 q, .int .i64 b], .agg #[.int .i64 e, .slice p0 x0 y0, .slice p1 x1 y1]] w fun r w' => r = .returned (.tuple #[.string ⟨#[]⟩, .int .i64 4]) ∧ Up w w' := by
  go_enter Tryz.func103, Tryz.ntmps103
  go_wp2_with fail
  refine (refFits_calls _ _ _ _ _ _ ht ht2 hq hq2 (by omega) (by omega)).mono ?_
  rintro r w1 ⟨rfl, hu1⟩
  go_wp2_with fail
  go_ret2
  exact ⟨rfl, (((Up.refl _).alloc _).alloc _).trans hu1⟩

set_option maxRecDepth 100000 in
set_option maxHeartbeats 4000000 in
theorem Told_ok (n e : Nat) (t q b : Int) (c0 c1 : List Int) (g0 g1 k0 k1 : Nat) (w : World) (hn : n ≤ 16) (ht : 1 ≤ t) (ht2 : t ≤ 1021) (hq : 0 ≤ q) (hq2 : q ≤ 1073741823) (he : e ≤ 1125899906842624) (hf : fitsB t q e = true)
    (hl0 : c0.length = n) (hl1 : c1.length = n) (hb0 : ∀ i, i < c0.length → 0 ≤ c0.getD i 0 ∧ c0.getD i 0 ≤ 4611686018427387904) (hb1 : ∀ i, i < c1.length → 0 ≤ c1.getD i 0 ∧ c1.getD i 0 ≤ 4611686018427387904) (i0 : IsI w g0 c0) (i1 : IsI w g1 c1) :
    Calls Tryz.prog 103 #[.agg #[.int .i64 n, .int .i64 t, .int .i64 q, .int .i64 b], .agg #[.int .i64 e, .slice (some ⟨g0, 0, none⟩) n k0, .slice (some ⟨g1, 0, none⟩) n k1]] w fun r w' => r = .returned (.tuple #[.string ⟨(toldL e c0 c1).toArray⟩, .int .i64 0]) ∧ Up w w' := by
  have hadd1 : ∀ W, (Op.stringOp .add ⟨#[67]⟩ ⟨(textL e 5).toArray⟩).run Tryz.prog W = .ok (.string ⟨([67] ++ textL e 5).toArray⟩) W := add_str [67] (textL e 5) (by simp) (by rw [textL_length]; omega)
  have hadd2 := add_str ([67] ++ textL e 5) (textsL 4 c0) (by rw [List.length_append, textL_length]; simp) (by rw [textsL_length]; omega)
  have hadd3 := add_str ([67] ++ textL e 5 ++ textsL 4 c0) (textsL 4 c1) (by rw [List.length_append, List.length_append, textL_length, textsL_length]; simp; omega) (by rw [textsL_length]; omega)
  generalize hT : toldL e c0 c1 = T
  have hT' : [67] ++ textL e 5 ++ textsL 4 c0 ++ textsL 4 c1 = T := hT
  rw [hT'] at hadd3
  have H0 : Hid _ := hb0
  have H1 : Hid _ := hb1
  have HL0 : Hid _ := hl0
  have HL1 : Hid _ := hl1
  have HTx : Hid (∀ W, Calls Tryz.prog 105 #[.int .i64 (e : Int), .int .i64 5] W fun r w' => r = .returned (.string ⟨(textL e 5).toArray⟩) ∧ Up W w') := fun W => by
    have := Text_calls 5 (by omega) (e : Int) 5 W (by omega) (by omega) rfl
    rw [Int.toNat_natCast] at this
    exact this
  have HT0 : Hid (∀ W, IsI W g0 c0 → Calls Tryz.prog 50 #[.slice (some ⟨g0, 0, none⟩) n k0, .int .i64 4] W fun r w' => r = .returned (.string ⟨(textsL 4 c0).toArray⟩) ∧ Up W w') := fun W hi => by
    have := Texts_calls c0 g0 k0 4 W (by omega) (by omega) H0.out hi
    rw [HL0.out] at this
    exact this
  have HT1 : Hid (∀ W, IsI W g1 c1 → Calls Tryz.prog 50 #[.slice (some ⟨g1, 0, none⟩) n k1, .int .i64 4] W fun r w' => r = .returned (.string ⟨(textsL 4 c1).toArray⟩) ∧ Up W w') := fun W hi => by
    have := Texts_calls c1 g1 k1 4 W (by omega) (by omega) H1.out hi
    rw [HL1.out] at this
    exact this
  clear hb0 hb1 hl0 hl1 hT hT' H0 H1
  generalize [67] ++ textL e 5 ++ textsL 4 c0 = t3 at hadd2 hadd3
  generalize [67] ++ textL e 5 = t2 at hadd1 hadd2
  generalize textL e 5 = t1 at hadd1 HTx
  generalize textsL 4 c0 = s0 at hadd2 HT0
  generalize textsL 4 c1 = s1 at hadd3 HT1
  go_enter Tryz.func103, Tryz.ntmps103
  go_wp2_with fail
  refine (refFits_calls _ _ _ _ _ _ ht ht2 hq hq2 (by omega) (by omega)).mono ?_
  rintro r w1 ⟨rfl, hu1⟩
  obtain ⟨hc, hf'⟩ := bcell hu1
  have hS0 : w1.cell? ⟨w.heap.size + 1, 0, none⟩ = some (.int .i64 (e : Int)) := by rw [hc _ _ (by simp)]; simp
  have hS1 : w1.cell? ⟨w.heap.size + 1, 1, none⟩ = some (.slice (some ⟨g0, 0, none⟩) n k0) := by rw [hc _ _ (by simp)]; simp
  have hS2 : w1.cell? ⟨w.heap.size + 1, 2, none⟩ = some (.slice (some ⟨g1, 0, none⟩) n k1) := by rw [hc _ _ (by simp)]; simp
  have i0' := (i0.up (((Up.refl _).alloc _).alloc _)).up hu1
  have i1' := (i1.up (((Up.refl _).alloc _).alloc _)).up hu1
  clear hc hf' i0 i1
  go_wp2_with fail
  go_region_held3 (fun w' => w'.cell? ⟨w.heap.size + 1, 0, none⟩ = some (.int .i64 (e : Int)) ∧ w'.cell? ⟨w.heap.size + 1, 1, none⟩ = some (.slice (some ⟨g0, 0, none⟩) n k0) ∧ w'.cell? ⟨w.heap.size + 1, 2, none⟩ = some (.slice (some ⟨g1, 0, none⟩) n k1))
    (first | go_keep | exact keep3 hu4 (by assumption) | exact keep3 hu3 (by assumption) | exact keep3 hu2 (by assumption))
    ((first | (go_at_call 105; refine Calls.mono (HTx.out _) ?_; rintro r w2 ⟨rfl, hu2⟩) | (go_at_call_of 50 (Value.slice (some ⟨g0, 0, none⟩) n k0); refine Calls.mono (HT0.out _ (by exact (i0'.up (Up.drew (Up.refl _))).up hu2)) ?_; rintro r w3 ⟨rfl, hu3⟩) | (go_at_call_of 50 (Value.slice (some ⟨g1, 0, none⟩) n k1); refine Calls.mono (HT1.out _ (by exact ((i1'.up (Up.drew (Up.refl _))).up hu2).up hu3)) ?_; rintro r w4 ⟨rfl, hu4⟩)))
  go_wp2_with fail
  go_ret2
  exact ⟨rfl, ((((Up.refl _).alloc _).alloc _).trans hu1).trans (Up.trans (Up.trans (Up.trans (Up.drew (Up.refl _)) hu2) hu3) hu4)⟩

set_option maxHeartbeats 400000 in
theorem refEncrypt_bad (n t q b : Int) (k v s : ByteArray) (w : World) (hg : goodB n t q b = false) :
    Calls Tryz.prog 143 #[.agg #[.int .i64 n, .int .i64 t, .int .i64 q, .int .i64 b], .string k, .string v, .string s] w fun e w' => e = .returned (.tuple #[.string ⟨#[]⟩, .int .i64 1]) ∧ Up w w' := by
  go_enter Tryz.func143, Tryz.ntmps143
  go_wp2_with (go_at_call 40; refine (refGood_calls _ _ _ _ _).mono ?_; rintro e w' ⟨rfl, hu⟩)
  go_ret2
  exact ⟨rfl, ((Up.refl _).alloc _).trans hu⟩

set_option maxHeartbeats 1000000 in
theorem refEncrypt_form (n : Nat) (t q b : Int) (k v s : ByteArray) (w : World) (hk : k.size ≤ maxLen) (hn : n ≤ 16) (hg : goodB n t q b = true) (h : secB k.data.toList n = false) :
    Calls Tryz.prog 143 #[.agg #[.int .i64 n, .int .i64 t, .int .i64 q, .int .i64 b], .string k, .string v, .string s] w fun e w' => e = .returned (.tuple #[.string ⟨#[]⟩, .int .i64 2]) ∧ Up w w' := by
  go_enter Tryz.func143, Tryz.ntmps143
  go_wp2_with fail
  refine (refGood_calls _ _ _ _ _).mono ?_
  rintro e w1 ⟨rfl, hu1⟩
  obtain ⟨hc, hf⟩ := bcell hu1
  go_wp2_with fail
  refine (Secret_no n t q b k _ hk hn h).mono ?_
  rintro e w2 ⟨rfl, hu2⟩
  go_wp2_with fail
  go_ret2
  exact ⟨rfl, (((Up.refl _).alloc _).trans hu1).trans hu2⟩

set_option maxHeartbeats 1000000 in
theorem refEncrypt_val (n : Nat) (t q b : Int) (k v s : ByteArray) (w : World) (hk : k.size ≤ maxLen) (hv : v.size ≤ maxLen) (hn : n ≤ 16) (hn1 : 1 ≤ n) (hg : goodB n t q b = true) (h : secB k.data.toList n = true) (hok : okL v.data.toList n 2 t = false) :
    Calls Tryz.prog 143 #[.agg #[.int .i64 n, .int .i64 t, .int .i64 q, .int .i64 b], .string k, .string v, .string s] w fun e w' => e = .returned (.tuple #[.string ⟨#[]⟩, .int .i64 3]) ∧ Up w w' := by
  go_enter Tryz.func143, Tryz.ntmps143
  go_wp2_with fail
  refine (refGood_calls _ _ _ _ _).mono ?_
  rintro e w1 ⟨rfl, hu1⟩
  obtain ⟨hc, hf⟩ := bcell hu1
  go_wp2_with fail
  refine (Secret_ok n t q b k _ hk hn hn1 h).mono ?_
  rintro e w2 ⟨v2, rfl, ho2, hu2⟩
  clear hc hf
  obtain ⟨hc, hf⟩ := bcell (hu1.trans hu2)
  go_wp2_with fail
  refine (Values_no n t q b v _ hv hn hok).mono ?_
  rintro e w3 ⟨rfl, hu3⟩
  clear hc hf
  go_wp2_with fail
  go_ret2
  exact ⟨rfl, ((((Up.refl _).alloc _).trans hu1).trans hu2).trans hu3⟩

end Go.Proofs.YtcjhgbljhpflfabGreat

namespace Go.Proofs.YtcjhgbljhpflfabGreat
open Go.RowKit
set_option linter.unusedVariables false
set_option maxRecDepth 100000

/-- what Encrypt answers -/
def hideL (n t : Nat) (q : Int) (k v d : List UInt8) : List UInt8 :=
  toldL 2 (hidI n (secI k n) (encI n t (numsL v 2 n)) (q / (t : Int)) q d 0) (pairA d q n 0)

set_option maxRecDepth 100000 in
set_option maxHeartbeats 4000000 in
theorem refEncrypt_ok (n t : Nat) (q b : Int) (k v s : ByteArray) (w : World) (hk : k.size ≤ maxLen) (hv : v.size ≤ maxLen) (hs : s.size ≤ maxLen) (g : NT n t) (hq : 2 ≤ q) (hq2 : q ≤ 1073741823) (hg : goodB n t q b = true) (hfit : fitsB t q 2 = true) (h : secB k.data.toList n = true) (hok : okL v.data.toList n 2 t = true) :
    Calls Tryz.prog 143 #[.agg #[.int .i64 n, .int .i64 t, .int .i64 q, .int .i64 b], .string k, .string v, .string s] w fun e w' => e = .returned (.tuple #[.string ⟨(hideL n t q k.data.toList v.data.toList s.data.toList).toArray⟩, .int .i64 0]) ∧ Up w w' := by
  have ht := g.t3
  have ht2 := g.ht
  obtain ⟨hd1, hd2, hd3⟩ := g.half
  have HB : Hid _ := numsL_lt v.data.toList 2 n t hok
  have hdel1 : 0 ≤ q / (t : Int) := Int.ediv_nonneg (by omega) (by omega)
  have hdel2 : q / (t : Int) ≤ 1073741823 := by have := Int.ediv_le_self (t : Int) (a := q) (by omega); omega
  have eq1 : IntKind.i64.wrap (q.tdiv (t : Int)) = q / (t : Int) := IntWalk.i64_quo _ _ (by omega)
  have et0 : ((t : Int) == 0) = false := beq_eq_false_iff_ne.2 (by omega)
  have et1 : ¬ (t : Int) = 0 := by omega
  have et2 : ¬ t = 0 := by omega
  have HA : Hid (hideL n t q k.data.toList v.data.toList s.data.toList = toldL 2 (hidI n (secI k.data.toList n) (encI n t (numsL v.data.toList 2 n)) (q / (t : Int)) q s.data.toList 0) (pairA s.data.toList q n 0)) := rfl
  generalize hideL n t q k.data.toList v.data.toList s.data.toList = ans at HA
  go_enter Tryz.func143, Tryz.ntmps143
  go_wp2_with fail
  refine (refGood_calls _ _ _ _ _).mono ?_
  rintro e w1 ⟨rfl, hu1⟩
  obtain ⟨hc, hf⟩ := bcell hu1
  go_wp2_with fail
  refine (Secret_ok n t q b k _ hk (by omega) (by omega) h).mono ?_
  rintro e w2 ⟨v2, rfl, ho2, hu2⟩
  obtain ⟨gs, cs, rfl, _, is2⟩ := ho2.is (ne_nil_of_length (secI_length _ _) (by omega))
  rw [secI_length]
  clear hc hf ho2
  obtain ⟨hc, hf⟩ := bcell (hu1.trans hu2)
  go_wp2_with fail
  refine (Values_ok n t q b v _ hv (by omega) hok).mono ?_
  rintro e w3 ⟨v3, rfl, ho3, hu3⟩
  obtain ⟨gv, cv, rfl, _, iv3⟩ := ho3.is (ne_nil_of_length (numsL_length _ _ _) (by omega))
  rw [numsL_length]
  clear hc hf ho3
  have hu13 := (hu1.trans hu2).trans hu3
  have is3 := is2.up hu3
  obtain ⟨hc, hf⟩ := bcell hu13
  have hS0 : w3.cell? ⟨w.heap.size, 0, none⟩ = some (.int .i64 (n : Int)) := by rw [hc _ _ (by simp)]; simp
  have hS1 : w3.cell? ⟨w.heap.size, 1, none⟩ = some (.int .i64 (t : Int)) := by rw [hc _ _ (by simp)]; simp
  have hS2 : w3.cell? ⟨w.heap.size, 2, none⟩ = some (.int .i64 q) := by rw [hc _ _ (by simp)]; simp
  have hS3 : w3.cell? ⟨w.heap.size, 3, none⟩ = some (.int .i64 b) := by rw [hc _ _ (by simp)]; simp
  have HSL : Hid _ := secI_length k.data.toList n
  have HVL : Hid _ := numsL_length v.data.toList 2 n
  generalize secI k.data.toList n = ss at is3 HSL HA
  generalize numsL v.data.toList 2 n = vs at iv3 HVL HA HB
  clear hc hf is2 hu1 hu2 hu3
  go_wp2_with fail
  go_region_held3 (fun w' => w'.cell? ⟨w.heap.size, 0, none⟩ = some (.int .i64 (n : Int)) ∧ w'.cell? ⟨w.heap.size, 1, none⟩ = some (.int .i64 (t : Int)) ∧ w'.cell? ⟨w.heap.size, 2, none⟩ = some (.int .i64 q) ∧ w'.cell? ⟨w.heap.size, 3, none⟩ = some (.int .i64 b))
    (first | go_keep | exact keep4 hu5 (by assumption) | exact keep4 hu4 (by assumption))
    ((first | (go_at_call 101; refine (Poly_calls n t q b vs gv cv _ g HVL.out HB.out (by exact iv3.up (Up.drew (Up.refl _)))).mono ?_; rintro e w4 ⟨v4, rfl, ho4, hu4⟩; obtain ⟨g4, c4, rfl, hg4, i4⟩ := ho4.is (ne_nil_of_length (encI_length _ _ _) (by omega)); rw [encI_length]) | (go_at_call 165; refine (hidden_calls n 0 t q b (q / (t : Int)) ss (encI n t vs) gs g4 cs c4 s _ hs (by omega) (by omega) (by omega) (by omega) hq2 (by omega) (by omega) HSL.out (encI_length _ _ _) (by exact (is3.up (Up.drew (Up.refl _))).up hu4) i4).mono ?_; rintro e w5 ⟨vc, va, rfl, hoc, hoa, hu5⟩)))
  obtain ⟨gc, cc, rfl, _, ic⟩ := hoc.is (ne_nil_of_length (hidI_length _ _ _ _ _ _ _) (by omega))
  obtain ⟨ga, ca, rfl, _, ia⟩ := hoa.is (ne_nil_of_length (pairA_length _ _ _ _) (by omega))
  rw [hidI_length, pairA_length]
  have hu15 := hu13.trans (Up.trans (Up.trans (Up.drew (Up.refl _)) hu4) hu5)
  have HBC : Hid _ := hidI_bounds n ss (encI n t vs) (q / (t : Int)) q s.data.toList 0 (by omega)
  have HBA : Hid _ := pairA_bounds s.data.toList q n 0 (by omega)
  have HLC : Hid _ := hidI_length n ss (encI n t vs) (q / (t : Int)) q s.data.toList 0
  have HLA : Hid _ := pairA_length s.data.toList q n 0
  generalize hidI n ss (encI n t vs) (q / (t : Int)) q s.data.toList 0 = cs0 at ic HBC HLC HA
  generalize pairA s.data.toList q n 0 = as0 at ia HBA HLA HA
  clear hoc hoa ho4 i4 hu4 hu5 hS0 hS1 hS2 hS3
  obtain ⟨hc, hf⟩ := bcell hu15
  go_wp2_with fail
  refine (Told_ok n 2 t q b cs0 as0 gc ga cc ca _ (by omega) (by omega) (by omega) (by omega) hq2 (by omega) hfit HLC.out HLA.out (fun i hi => by have := HBC.out i hi; omega) (fun i hi => by have := HBA.out i hi; omega) ic ia).mono ?_
  rintro e w6 ⟨rfl, hu6⟩
  rw [← HA.out]
  clear hc hf
  go_wp2_with fail
  go_ret2
  exact ⟨rfl, (((Up.refl _).alloc _).trans hu15).trans hu6⟩

end Go.Proofs.YtcjhgbljhpflfabGreat

namespace Go.Proofs.YtcjhgbljhpflfabGreat
open Go.RowKit
set_option linter.unusedVariables false
set_option maxRecDepth 100000

/-- what is opened: coefficient i -/
def openC (t q : Int) (vs : List Int) (i : Nat) : Int := (2 * t * vs.getD i 0 + q) / (2 * q) % t
def openI (n : Nat) (t q : Int) (vs : List Int) : List Int := (List.range n).map (openC t q vs)

/-- c0 and c1 times s -/
def mixI (n : Nat) (q : Int) (c s : List UInt8) : List Int := plusI n (ct0 c n) (timesI n (ct1 c n) (secI s n) q) q

def openL (n t : Nat) (q : Int) (k c : List UInt8) : List UInt8 := textsL 2 (decI n t (openI n t q (mixI n q c k)))

set_option maxHeartbeats 400000 in
theorem refDecrypt_bad (n t q b : Int) (k c : ByteArray) (w : World) (hg : goodB n t q b = false) :
    Calls Tryz.prog 144 #[.agg #[.int .i64 n, .int .i64 t, .int .i64 q, .int .i64 b], .string k, .string c] w fun e w' => e = .returned (.tuple #[.string ⟨#[]⟩, .int .i64 1]) ∧ Up w w' := by
  go_enter Tryz.func144, Tryz.ntmps144
  go_wp2_with (go_at_call 40; refine (refGood_calls _ _ _ _ _).mono ?_; rintro e w' ⟨rfl, hu⟩)
  go_ret2
  exact ⟨rfl, ((Up.refl _).alloc _).trans hu⟩

set_option maxHeartbeats 1000000 in
theorem refDecrypt_key (n : Nat) (t q b : Int) (k c : ByteArray) (w : World) (hk : k.size ≤ maxLen) (hn : n ≤ 16) (hg : goodB n t q b = true) (h : secB k.data.toList n = false) :
    Calls Tryz.prog 144 #[.agg #[.int .i64 n, .int .i64 t, .int .i64 q, .int .i64 b], .string k, .string c] w fun e w' => e = .returned (.tuple #[.string ⟨#[]⟩, .int .i64 2]) ∧ Up w w' := by
  go_enter Tryz.func144, Tryz.ntmps144
  go_wp2_with fail
  refine (refGood_calls _ _ _ _ _).mono ?_
  rintro e w1 ⟨rfl, hu1⟩
  obtain ⟨hc, hf⟩ := bcell hu1
  go_wp2_with fail
  refine (Secret_no n t q b k _ hk hn h).mono ?_
  rintro e w2 ⟨rfl, hu2⟩
  go_wp2_with fail
  go_ret2
  exact ⟨rfl, (((Up.refl _).alloc _).trans hu1).trans hu2⟩

set_option maxHeartbeats 1000000 in
theorem refDecrypt_form (n t : Nat) (q b : Int) (k c : ByteArray) (w : World) (hk : k.size ≤ maxLen) (hcl : c.size ≤ maxLen) (g : NT n t) (hq : 2 ≤ q) (hq2 : q ≤ 1073741823) (hg : goodB n t q b = true) (h : secB k.data.toList n = true) (h2 : ctB c.data.toList n t q = false) :
    Calls Tryz.prog 144 #[.agg #[.int .i64 n, .int .i64 t, .int .i64 q, .int .i64 b], .string k, .string c] w fun e w' => e = .returned (.tuple #[.string ⟨#[]⟩, .int .i64 2]) ∧ Up w w' := by
  have ht := g.t3
  have ht2 := g.ht
  obtain ⟨hd1, hd2, hd3⟩ := g.half
  go_enter Tryz.func144, Tryz.ntmps144
  go_wp2_with fail
  refine (refGood_calls _ _ _ _ _).mono ?_
  rintro e w1 ⟨rfl, hu1⟩
  obtain ⟨hc, hf⟩ := bcell hu1
  go_wp2_with fail
  refine (Secret_ok n t q b k _ hk (by omega) (by omega) h).mono ?_
  rintro e w2 ⟨v2, rfl, ho2, hu2⟩
  clear hc hf
  obtain ⟨hc, hf⟩ := bcell (hu1.trans hu2)
  go_wp2_with fail
  refine Calls.mono (Read_no n t q b c _ hcl (by omega) (by omega) (by omega) (by omega) (by omega) hq2 h2) ?_
  rintro e w3 ⟨x, p0, x0, y0, p1, x1, y1, rfl, hu3⟩
  clear hc hf
  go_wp2_with fail
  go_ret2
  exact ⟨rfl, Up.alloc (((((Up.refl _).alloc _).trans hu1).trans hu2).trans hu3) _⟩

theorem openI_length (n : Nat) (t q : Int) (vs : List Int) : ((List.range n).map (openC t q vs)).length = n := by simp

theorem openI_bounds (n : Nat) (t q : Int) (vs : List Int) (ht : 0 < t) (ht2 : t ≤ 1021) : ∀ i, i < ((List.range n).map (openC t q vs)).length → 0 ≤ ((List.range n).map (openC t q vs)).getD i 0 ∧ ((List.range n).map (openC t q vs)).getD i 0 < 65536 := by
  intro i hi
  rw [openI_length] at hi
  rw [getD_range hi]
  have := mod_bounds ht ((2 * t * vs.getD i 0 + q) / (2 * q))
  unfold openC
  omega

theorem OwnI.isI {w : World} {base g cap n : Nat} {xs : List Int} (h : OwnI w base (.slice (some ⟨g, 0, none⟩) n cap) xs) : IsI w g xs := by
  have h1 := h.block_lt
  refine ⟨h1.2, fun i hi => ?_⟩
  rcases h.2 with ⟨c, _⟩ | ⟨g', cap', cur, he, _, h5, _, _, _, h9⟩
  · simp at c
  · simp only [Value.slice.injEq, Option.some.injEq, Addr.mk.injEq, and_true] at he
    obtain ⟨rfl, _, _⟩ := he
    have hc : w.cell? ⟨g, i, none⟩ = cur.toList[i]? := by
      simp [World.cell?, h5]
    rw [hc]
    have h10 : (cur.toList.take (xs.length * 1))[i]? = (xs.map (Value.int .i64))[i]? := by rw [h9]
    rw [List.getElem?_take, if_pos (by omega)] at h10
    rw [h10, List.getElem?_map, List.getD_eq_getElem?_getD, List.getElem?_eq_getElem hi]
    rfl

theorem ct0_bnd (l : List UInt8) (n : Nat) (t q : Int) (h : ctB l n t q = true) (hq2 : q ≤ 1073741823) (m : Int) (hm : 1073741823 ≤ m) : Bnd (ct0 l n) m := by
  obtain ⟨_, _, h3, _, _⟩ := (ctB_iff _ _ _ _).1 h
  refine Bnd_map (by omega) fun i hi => ?_
  have := ((okL_iff _ _ _ _).1 h3).2 i hi
  rw [numL_drop, numL_take _ _ _ _ (by omega), Nat.mul_comm i 4] at this
  omega

theorem ct1_bnd (l : List UInt8) (n : Nat) (t q : Int) (h : ctB l n t q = true) (hq2 : q ≤ 1073741823) (m : Int) (hm : 1073741823 ≤ m) : Bnd (ct1 l n) m := by
  obtain ⟨_, _, _, h4, _⟩ := (ctB_iff _ _ _ _).1 h
  refine Bnd_map (by omega) fun i hi => ?_
  have := ((okL_iff _ _ _ _).1 h4).2 i hi
  rw [numL_drop, Nat.mul_comm i 4] at this
  omega

set_option maxRecDepth 100000 in
set_option maxHeartbeats 4000000 in
theorem refDecrypt_ok (n t : Nat) (q b : Int) (k c : ByteArray) (w : World) (hk : k.size ≤ maxLen) (hcl : c.size ≤ maxLen) (g : NT n t) (hq : 2 ≤ q) (hq2 : q ≤ 1073741823) (hg : goodB n t q b = true) (h : secB k.data.toList n = true) (h2 : ctB c.data.toList n t q = true) :
    Calls Tryz.prog 144 #[.agg #[.int .i64 n, .int .i64 t, .int .i64 q, .int .i64 b], .string k, .string c] w fun e w' => e = .returned (.tuple #[.string ⟨(openL n t q k.data.toList c.data.toList).toArray⟩, .int .i64 0]) ∧ Up w w' := by
  have ht := g.t3
  have ht2 := g.ht
  obtain ⟨hd1, hd2, hd3⟩ := g.half
  have HB0 : Hid _ := ct0_bnd c.data.toList n t q h2 hq2 4294967296 (by omega)
  have HB1 : Hid _ := ct1_bnd c.data.toList n t q h2 hq2 1073741824 (by omega)
  have HA : Hid (openL n t q k.data.toList c.data.toList = textsL 2 (decI n t (openI n t q (plusI n (ct0 c.data.toList n) (timesI n (ct1 c.data.toList n) (secI k.data.toList n) q) q)))) := rfl
  generalize openL n t q k.data.toList c.data.toList = ans at HA
  go_enter Tryz.func144, Tryz.ntmps144
  go_wp2_with fail
  refine (refGood_calls _ _ _ _ _).mono ?_
  rintro e w1 ⟨rfl, hu1⟩
  obtain ⟨hc, hf⟩ := bcell hu1
  go_wp2_with fail
  refine (Secret_ok n t q b k _ hk (by omega) (by omega) h).mono ?_
  rintro e w2 ⟨v2, rfl, ho2, hu2⟩
  obtain ⟨gs, cs, rfl, _, is2⟩ := ho2.is (ne_nil_of_length (secI_length _ _) (by omega))
  rw [secI_length]
  clear hc hf ho2
  obtain ⟨hc, hf⟩ := bcell (hu1.trans hu2)
  go_wp2_with fail
  refine (Read_ok n t q b c _ hcl (by omega) (by omega) (by omega) (by omega) (by omega) hq2 h2).mono ?_
  rintro e w3 ⟨g0, c0, g1, c1, rfl, ho0, ho1, hu3⟩
  have i0 := ho0.isI
  have i1 := ho1.isI
  have hu13 := (hu1.trans hu2).trans hu3
  have is3 := is2.up hu3
  have HSL : Hid _ := secI_length k.data.toList n
  have HL0 : Hid _ := ct0_length c.data.toList n
  have HL1 : Hid _ := ct1_length c.data.toList n
  generalize secI k.data.toList n = ss at is3 HSL HA
  generalize ct0 c.data.toList n = a0 at i0 HL0 HB0 HA
  generalize ct1 c.data.toList n = a1 at i1 HL1 HB1 HA
  clear hc hf is2 hu1 hu2 hu3 ho0 ho1
  obtain ⟨hc, hf⟩ := bcell hu13
  have hS0 : w3.cell? ⟨w.heap.size, 2, none⟩ = some (.int .i64 q) := by rw [hc _ _ (by simp)]; simp
  have hlt3 : w.heap.size < w3.heap.size := by have := hu13.size; simp at this; omega
  clear hc hf
  obtain ⟨W, hW⟩ : ∃ W, W = w3.alloc (.cells #[.int .i64 (ctE c.data.toList), .slice (some ⟨g0, 0, none⟩) n c0, .slice (some ⟨g1, 0, none⟩) n c1] 98) := ⟨_, rfl⟩
  have huW : Up w3 W := by rw [hW]; exact (Up.refl _).alloc _
  have hT0 : W.cell? ⟨w.heap.size, 2, none⟩ = some (.int .i64 q) := keepU huW hS0
  have hT1 : W.cell? ⟨w3.heap.size, 1, none⟩ = some (.slice (some ⟨g0, 0, none⟩) n c0) := by rw [hW]; simp
  have hT2 : W.cell? ⟨w3.heap.size, 2, none⟩ = some (.slice (some ⟨g1, 0, none⟩) n c1) := by rw [hW]; simp
  have is4 := is3.up huW
  have i04 := i0.up huW
  have i14 := i1.up huW
  go_wp2_with fail
  rw [← hW]
  have HW : Hid _ := hW
  clear hW hS0
  go_region_held3 (fun w' => w'.cell? ⟨w.heap.size, 2, none⟩ = some (.int .i64 q) ∧ w'.cell? ⟨w3.heap.size, 1, none⟩ = some (.slice (some ⟨g0, 0, none⟩) n c0) ∧ w'.cell? ⟨w3.heap.size, 2, none⟩ = some (.slice (some ⟨g1, 0, none⟩) n c1))
    (first | go_keep | exact ⟨keepU hu5 (And.left (by assumption)), keepU hu5 (And.left (And.right (by assumption))), keepU hu5 (And.right (And.right (by assumption)))⟩ | exact ⟨keepU hu4 (And.left (by assumption)), keepU hu4 (And.left (And.right (by assumption))), keepU hu4 (And.right (And.right (by assumption)))⟩)
    ((first | (go_at_call 104; refine (Times_calls n a1 ss g1 gs c1 cs q _ (by omega) HL1.out HSL.out (by omega) hq2 HB1.out (by exact i14.up (Up.drew (Up.refl _))) (by exact is4.up (Up.drew (Up.refl _)))).mono ?_; rintro e w4 ⟨v4, rfl, ho4, hu4⟩; obtain ⟨g4, c4, rfl, hg4, i4⟩ := ho4.is (ne_nil_of_length (timesI_length _ _ _ _) (by omega)); rw [timesI_length]) | (go_at_call 109; refine (Plus_calls n a0 _ g0 g4 c0 c4 q _ (by omega) HL0.out (timesI_length _ _ _ _) (by omega) hq2 HB0.out (Bnd_mod (by omega) (by omega) (fun i => ⟨_, rfl⟩)) (by exact (i04.up (Up.drew (Up.refl _))).up hu4) i4).mono ?_; rintro e w5 ⟨v5, rfl, ho5, hu5⟩; obtain ⟨g5, c5, rfl, hg5, i5⟩ := ho5.is (ne_nil_of_length (plusI_length _ _ _ _) (by omega)); rw [plusI_length])))
  have huW5 : Up W w5 := Up.trans (Up.trans (Up.drew (Up.refl _)) hu4) hu5
  have hu15 := (hu13.trans huW).trans huW5
  have HVb : Hid _ := plusI_bounds n a0 (timesI n a1 ss q) q (by omega)
  have HVL : Hid _ := plusI_length n a0 (timesI n a1 ss q) q
  generalize plusI n a0 (timesI n a1 ss q) q = vs at i5 HVb HVL HA
  have hsz5 : w.heap.size < w5.heap.size := by have := hu15.size; simp at this; omega
  clear hT0 hT1 hT2 is4 i04 i14 hu4 hu5 ho4 ho5 i4 huW huW5 hu13
  go_wp2_with fail
  go_loopw [13, 14] (fun m j wr => ∃ i : Nat, i ≤ n ∧ j = .int .i64 (i : Int) ∧ OwnI wr w5.heap.size m ((List.range i).map (openC t q vs)) ∧ Up w5 wr) (fun _ j _ => n - (intOf j).toNat)
  case atStart => exact ⟨0, Nat.zero_le _, rfl, World.ownsRow_nil _ _ _ _, Up.refl _⟩
  case round =>
    obtain ⟨i, hi, rfl, hown, hur⟩ := hrel
    obtain ⟨hc, hf⟩ := bcell (hu15.trans hur)
    by_cases hin : i < n
    · have hcx := (i5.up hur).2 i (by rw [HVL.out]; omega)
      have hxb := HVb.out i (by rw [HVL.out]; omega)
      have HR : Hid ((List.range (i + 1)).map (openC t q vs) = (List.range i).map (openC t q vs) ++ [(2 * (t : Int) * vs.getD i 0 + q) / (2 * q) % (t : Int)]) := map_range_succ _ _
      generalize vs.getD i 0 = x at hcx hxb HR
      have hx1 := hxb.1
      have hx2 := hxb.2
      have h3 : 0 ≤ 2 * (t : Int) * x := Int.mul_nonneg (by omega) hx1
      have h4 : 2 * (t : Int) * x ≤ 2 * 1021 * 1073741823 := Int.mul_le_mul (by omega) (by omega) hx1 (by omega)
      have e1 : IntKind.i64.wrap (2 * (t : Int)) = 2 * (t : Int) := IntWalk.i64_in _ (by omega)
      have e2 : IntKind.i64.wrap (2 * (t : Int) * x) = 2 * (t : Int) * x := IntWalk.i64_in _ (by omega)
      have e3 : IntKind.i64.wrap (2 * (t : Int) * x + q) = 2 * (t : Int) * x + q := IntWalk.i64_in _ (by omega)
      have hi0 : (0 : Int) ≤ (i : Int) := by omega
      have hi1 : (i : Int) < (n : Int) := by omega
      go_wp2_with fail
      go_quiet (fail)
      have hz1 : 0 ≤ 2 * (t : Int) * x + q := by omega
      have hz2 : 2 * (t : Int) * x + q ≤ 4611686018427387904 := by omega
      clear e1 e2 e3
      generalize 2 * (t : Int) * x + q = z at hz1 hz2 HR
      have hd0 : 0 ≤ z / (2 * q) := Int.ediv_nonneg hz1 (by omega)
      have e4 : IntKind.i64.wrap (2 * q) = 2 * q := IntWalk.i64_in _ (by omega)
      have e5 : IntKind.i64.wrap (z.tdiv (2 * q)) = z / (2 * q) := IntWalk.i64_quo _ _ (by omega)
      have e6 : (z / (2 * q)).tmod (t : Int) = z / (2 * q) % (t : Int) := Int.tmod_eq_emod_of_nonneg hd0
      have et1 : ¬ (t : Int) = 0 := by omega
      have et2 : ¬ t = 0 := by omega
      have et0 : ((t : Int) == 0) = false := beq_eq_false_iff_ne.2 et1
      have eq1 : ¬ (2 * q = 0) := by omega
      have eq0 : (2 * q == 0) = false := beq_eq_false_iff_ne.2 eq1
      have eq2 : ¬ (q = 0) := by omega
      have hT1 : wr.cell? ⟨w.heap.size, 1, none⟩ = some (.int .i64 (t : Int)) := by rw [hc _ _ (by simp)]; simp
      have hT2 : wr.cell? ⟨w.heap.size, 2, none⟩ = some (.int .i64 q) := by rw [hc _ _ (by simp)]; simp
      have hT1' : (wr.drewN nq).cell? ⟨w.heap.size, 1, none⟩ = some (.int .i64 (t : Int)) := hT1
      have hT2' : (wr.drewN nq).cell? ⟨w.heap.size, 2, none⟩ = some (.int .i64 q) := hT2
      have hown' := hown.up (Up.drewN (n := nq) (Up.refl wr))
      have hur' := Up.drewN (n := nq) hur
      clear hT1 hT2 hown hur hc hf hcx
      generalize wr.drewN nq = W2 at hT1' hT2' hown' hur' ⊢
      generalize z / (2 * q) % (t : Int) = y at e6 HR
      have hcn : (W2.alloc (.cells #[.int .i64 y] 3)).drew.cell? ⟨W2.heap.size, 0, none⟩ = some (.int .i64 y) := by simp
      have hbs := Nat.le_trans hur'.size (Up.drew (Up.alloc (Up.refl W2) (.cells #[.int .i64 y] 3))).size
      go_wp2_with fail
      go_region_held3 (fun w' => w'.cell? ⟨w.heap.size, 1, none⟩ = some (.int .i64 (t : Int)) ∧ w'.cell? ⟨w.heap.size, 2, none⟩ = some (.int .i64 q))
        (first | go_keep | exact keepS hb4 hsz5 hsz5 (by assumption))
        ((first | (refine step_append_int (W2.alloc (.cells #[.int .i64 y] 3)).drew y W2.heap.size rfl (.tmp 64) (.tmp 73) rfl _ u13 ((List.range i).map (openC t q vs)) rfl (hown'.up (Up.drew (Up.alloc (Up.refl _) _))) rfl hcn (by simp; omega) hbs ?_; intro v6 w6 hown6 hg4 hb4)))
      clear hcn hbs hT1' hT2'
      go_wp2_with fail
      go_roundw
      case rel => exact ⟨i + 1, by omega, by go_num, by rw [HR.out]; exact hown6, Below.trans (Up.drew (Below.alloc hur' hur'.size _)) hb4⟩
      case measure => simp [intOf]; omega
    · obtain rfl : i = n := by omega
      obtain ⟨gm, cm, rfl, _, im⟩ := hown.is (ne_nil_of_length (openI_length i t q vs) (by omega))
      have hob := openI_bounds i t q vs (by omega) (by omega)
      have HOB : Hid _ := hob
      have HA2 : Hid (ans = textsL 2 (decI i t ((List.range i).map (openC t q vs)))) := HA.out
      have HOL : Hid (((List.range i).map (openC t q vs)).length = i) := openI_length i t q vs
      clear hob HA
      rw [show ((List.range i).map (openC t q vs)).length = i from HOL.out]
      generalize (List.range i).map (openC t q vs) = ms at im HOB HA2 HOL
      go_wp2_with fail
      refine (refSlots_calls i t q b ms gm cm _ g HOL.out HOB.out im).mono ?_
      rintro e w6 ⟨v6, rfl, ho6, hu6⟩
      obtain ⟨g6, c6, rfl, _, i6⟩ := ho6.is (ne_nil_of_length (decI_length _ _ _) (by omega))
      clear hc hf ho6
      go_wp2_with fail
      refine (Texts_calls _ g6 c6 2 _ (by omega) (by rw [decI_length]; omega) (fun j hj => by have := decI_bounds g _ j hj; omega) i6).mono ?_
      rintro e w7 ⟨rfl, hu7⟩
      rw [← HA2.out]
      go_wp2_with fail
      go_ret2
      exact ⟨rfl, ((((Up.refl _).alloc _).trans hu15).trans hur).trans (hu6.trans hu7)⟩

end Go.Proofs.YtcjhgbljhpflfabGreat
