/-
  Walks: rows of rows in memory; the program's reading of lists.
-/
import Derived.Test.YtcjhgbljhpflfabGreatCodeT
import Derived.Test.YtcjhgbljhpflfabGreatWalksY
namespace Go.Proofs.YtcjhgbljhpflfabGreat
open Go.RowKit
set_option linter.unusedVariables false
set_option maxRecDepth 100000

theorem IsI.ne {W : World} {g r : Nat} {xs : List Int} {a : Option Addr} {x y : Nat} (h : IsI W g xs) (hl : 2 ≤ xs.length) (hr : W.cell? ⟨r, 1, none⟩ = some (.slice a x y)) : g ≠ r := by
  rintro rfl
  rw [h.2 1 (by omega)] at hr
  cases hr

theorem IsI.set {W : World} {g r : Nat} {xs : List Int} (h : IsI W g xs) (hne : g ≠ r) (o : Nat) (v : Value) : IsI (W.setCell ⟨r, o, none⟩ v) g xs := by
  refine ⟨by have := h.1; simpa using this, fun i hi => ?_⟩
  rw [World.cell?_setCell_far W ⟨r, o, none⟩ ⟨g, i, none⟩ v (fun c => hne c.symm)]
  exact h.2 i hi

/-- m rows of n numbers each, their headers one behind the other in block H -/
structure RowsAt (w : World) (H m n : Nat) (gs caps : Nat → Nat) (P : Nat → List Int) : Prop where
  lt : H < w.heap.size
  head : ∀ k, k < m → w.cell? ⟨H, k, none⟩ = some (.slice (some ⟨gs k, 0, none⟩) n (caps k))
  row : ∀ k, k < m → IsI w (gs k) (P k)

theorem RowsAt.up {w w' : World} {H m n : Nat} {gs caps : Nat → Nat} {P : Nat → List Int} (h : RowsAt w H m n gs caps P) (hu : Up w w') : RowsAt w' H m n gs caps P :=
  ⟨Nat.lt_of_lt_of_le h.lt hu.size, fun k hk => (hu.cell (p := ⟨H, k, none⟩) h.lt).trans (h.head k hk), fun k hk => (h.row k hk).up hu⟩

theorem RowsAt.congr {w : World} {H m n : Nat} {gs caps : Nat → Nat} {P P' : Nat → List Int} (h : RowsAt w H m n gs caps P) (e : ∀ k, k < m → P k = P' k) : RowsAt w H m n gs caps P' :=
  ⟨h.lt, h.head, fun k hk => by rw [← e k hk]; exact h.row k hk⟩

/-- k rows that the call owns -/
structure OwnR (w : World) (B n : Nat) (v : Value) (gs caps : Nat → Nat) (P : Nat → List Int) (k : Nat) : Prop where
  hdr : OwnH w B v (hdL n gs caps k)
  row : ∀ j, j < k → OwnI w B (.slice (some ⟨gs j, 0, none⟩) n (caps j)) (P j)

theorem OwnR.up {w w' : World} {B n : Nat} {v : Value} {gs caps : Nat → Nat} {P : Nat → List Int} {k : Nat} (h : OwnR w B n v gs caps P k) (hu : Up w w') : OwnR w' B n v gs caps P k :=
  ⟨h.hdr.up hu, fun j hj => (h.row j hj).up hu⟩

theorem OwnR.nil (w : World) (B n : Nat) (P : Nat → List Int) : OwnR w B n (.slice none 0 0) (fun _ => 0) (fun _ => 0) P 0 := ⟨World.ownsRow_nil _ _ _ _, fun j hj => absurd hj (Nat.not_lt_zero j)⟩

theorem OwnR.next {w wx w' : World} {B n : Nat} {v v' : Value} {gs caps : Nat → Nat} {P : Nat → List Int} {k g cap : Nat} (h : OwnR w B n v gs caps P k) (hu : Up w wx) (hB : B ≤ w.heap.size)
    (hr : OwnI wx w.heap.size (.slice (some ⟨g, 0, none⟩) n cap) (P k)) (ho : OwnH w' B v' (hdL n gs caps k ++ [.slice (some ⟨g, 0, none⟩) n cap])) (hg : wx.grownBy w' v.ownBlock) :
    OwnR w' B n v' (fun j => if j = k then g else gs j) (fun j => if j = k then cap else caps j) P (k + 1) := by
  have hx := h.up hu
  refine ⟨?_, ?_⟩
  · rw [hdL_succ, if_pos rfl, if_pos rfl, hdL_congr (gs' := gs) (caps' := caps) (fun j hj => by rw [if_neg (by omega), if_neg (by omega)]; exact ⟨rfl, rfl⟩)]
    exact ho
  · intro j hj
    by_cases e : j = k
    · subst e
      rw [if_pos rfl, if_pos rfl]
      exact (hr.base hB).kept hg (own_types hx.hdr hr)
    · rw [if_neg e, if_neg e]
      exact (hx.row j (by omega)).kept hg (own_types hx.hdr (hx.row j (by omega)))

theorem OwnR.rows {w : World} {B n : Nat} {v : Value} {gs caps : Nat → Nat} {P : Nat → List Int} {k : Nat} (h : OwnR w B n v gs caps P k) (hk : 0 < k) :
    ∃ H cap, v = .slice (some ⟨H, 0, none⟩) k cap ∧ B ≤ H ∧ RowsAt w H k n gs caps P := by
  have hh := h.hdr
  rcases hh.2 with ⟨_, h0⟩ | ⟨H, hcap, cur, rfl, hB, h5, _⟩
  · rw [hdL_length] at h0; omega
  · rw [hdL_length]
    refine ⟨H, hcap, rfl, hB, (Array.getElem?_eq_some_iff.1 h5).1, fun j hj => ?_, fun j hj => OwnI.isI (h.row j hj)⟩
    rw [World.ownsRow.cellAt hh j (by rw [hdL_length]; omega)]
    simp [hdL, hj]

/-- the k-th row of n numbers of a text -/
def rowL (l : List UInt8) (width n k : Nat) : List Int := (List.range n).map fun i => (numL l (k * (width * n) + i * width) width : Int)

theorem rowL_length (l : List UInt8) (width n k : Nat) : (rowL l width n k).length = n := by simp [rowL]

theorem chunk_num (l : List UInt8) (a st i width : Nat) (h : i * width + width ≤ st) : numL ((l.take (a + st)).drop a) (i * width) width = numL l (a + i * width) width := by
  rw [numL_drop, numL_take _ _ _ _ (by omega)]

theorem mul_step (i n width : Nat) (h : i < n) : i * width + width ≤ width * n := by
  rw [← Nat.succ_mul, Nat.mul_comm width n]
  exact Nat.mul_le_mul_right _ h

theorem chunk_nums (l : List UInt8) (width n k : Nat) : numsL ((l.take (k * (width * n) + width * n)).drop (k * (width * n))) width n = rowL l width n k := by
  rw [numsL_range]
  refine List.map_congr_left fun i hi => ?_
  rw [chunk_num _ _ _ _ _ (mul_step i n width (List.mem_range.1 hi))]

theorem chunk_len (l : List UInt8) (m st k : Nat) (h : l.length = m * st) (hk : k < m) : ((l.take (k * st + st)).drop (k * st)).length = st := by
  have : k * st + st ≤ m * st := by rw [← Nat.succ_mul]; exact Nat.mul_le_mul_right _ hk
  rw [List.length_drop, List.length_take, h]
  omega

theorem okL_chunks (l : List UInt8) (n m width : Nat) (lim : Int) (hn : 1 ≤ n) : okL l (m * n) width lim = true ↔ l.length = m * (width * n) ∧ ∀ k, k < m → okL ((l.take (k * (width * n) + width * n)).drop (k * (width * n))) n width lim = true := by
  have e1 : m * n * width = m * (width * n) := by rw [Nat.mul_assoc, Nat.mul_comm n width]
  rw [okL_iff, e1]
  constructor
  · rintro ⟨h1, h2⟩
    refine ⟨h1, fun k hk => (okL_iff _ _ _ _).2 ⟨?_, fun i hi => ?_⟩⟩
    · rw [chunk_len l m _ k h1 hk, Nat.mul_comm]
    · rw [chunk_num _ _ _ _ _ (mul_step i n width hi)]
      have h3 := h2 (k * n + i) (by
        have : (k + 1) * n ≤ m * n := Nat.mul_le_mul_right _ hk
        rw [Nat.succ_mul] at this
        omega)
      rw [Nat.add_mul, Nat.mul_assoc, Nat.mul_comm n width] at h3
      exact h3
  · rintro ⟨h1, h2⟩
    refine ⟨h1, fun j hj => ?_⟩
    have hd := Nat.div_add_mod j n
    have hlt := Nat.mod_lt j (show n > 0 by omega)
    have hk : j / n < m := (Nat.div_lt_iff_lt_mul (by omega)).2 hj
    have h3 := ((okL_iff _ _ _ _).1 (h2 (j / n) hk)).2 (j % n) hlt
    rw [chunk_num _ _ _ _ _ (mul_step _ n width hlt)] at h3
    have e2 : j / n * (width * n) + j % n * width = j * width := by
      conv => rhs; rw [← hd, Nat.add_mul, Nat.mul_comm n, Nat.mul_assoc, Nat.mul_comm n width]
    rw [e2] at h3
    exact h3

set_option maxHeartbeats 2000000 in
theorem Lists_ok (s : ByteArray) (n m width : Nat) (lim : Int) (w : World) (hn : 1 ≤ n) (hn2 : n ≤ 64) (hm : 1 ≤ m) (hm2 : m ≤ 1024) (hw : 1 ≤ width) (hw2 : width ≤ 5) (hok : okL s.data.toList (m * n) width lim = true) :
    Calls Tryz.prog 88 #[.string s, .int .i64 width, .int .i64 n, .int .i64 m, .int .i64 lim] w fun e w' => ∃ H cap gs caps, e = .returned (.tuple #[.slice (some ⟨H, 0, none⟩) m cap, .bool true]) ∧ RowsAt w' H m n gs caps (rowL s.data.toList width n) ∧ w.heap.size ≤ H ∧ Up w w' := by
  obtain ⟨h1, h2⟩ := (okL_chunks _ _ _ _ _ hn).1 hok
  have HP : Hid (∀ k, rowL s.data.toList width n k = numsL ((s.data.toList.take (k * (width * n) + width * n)).drop (k * (width * n))) width n) := fun k => (chunk_nums _ _ _ _).symm
  have hst : width * n ≤ 320 := Nat.le_trans (Nat.mul_le_mul hw2 hn2) (by decide)
  have hst1 : 1 ≤ width * n := Nat.mul_pos hw hn
  have ew : IntKind.i64.wrap ((width : Int) * (n : Int)) = ((width * n : Nat) : Int) := by rw [← Int.natCast_mul]; exact IntWalk.i64_in _ (by omega)
  have hlen : s.size = m * (width * n) := by simpa using h1
  have HC : Hid _ := h2
  clear h1 h2 hok
  generalize width * n = st at HP hst hst1 ew hlen HC
  have hb3 : s.size ≤ 327680 := by rw [hlen]; exact Nat.mul_le_mul hm2 hst
  have hd0 : ((st : Int) == 0) = false := beq_eq_false_iff_ne.2 (by omega)
  have hd1 : ¬ (st : Int) = 0 := by omega
  have hd2 : ¬ st = 0 := by omega
  have hl1 : (s.size : Int).tmod (st : Int) = 0 := by
    rw [Int.tmod_eq_emod_of_nonneg (by omega), hlen, Int.natCast_mul]; simp
  have hl2 : IntKind.i64.wrap ((s.size : Int).tdiv (st : Int)) = (m : Int) := by
    rw [Int.tdiv_eq_ediv_of_nonneg (by omega), hlen, Int.natCast_mul, Int.mul_ediv_cancel _ (by omega)]
    exact IntWalk.i64_in _ (by omega)
  have hl3 : (s.size : Int) % (st : Int) = 0 := by rw [hlen, Int.natCast_mul]; simp
  have hl4 : (s.size : Int) / (st : Int) = (m : Int) := by rw [hlen, Int.natCast_mul, Int.mul_ediv_cancel _ (by omega)]
  have HL : Hid _ := hlen
  clear hlen
  go_enter Tryz.func88, Tryz.ntmps88
  go_wp2
  go_loopw [13, 14] (fun v j wr => ∃ (k i : Nat) (gs caps : Nat → Nat), k ≤ m ∧ Hid (i = k * st) ∧ i ≤ s.size ∧ j = .int .i64 (i : Int) ∧ OwnR wr w.heap.size n v gs caps (rowL s.data.toList width n) k ∧ Up w wr) (fun _ j _ => s.size - (intOf j).toNat)
  case atStart => exact ⟨0, 0, _, _, Nat.zero_le _, (Nat.zero_mul _).symm, Nat.zero_le _, rfl, OwnR.nil _ _ _ _, Up.refl _⟩
  case round =>
    obtain ⟨k, i, gs, caps, hk, HI, his, rfl, hown, hu⟩ := hrel
    by_cases hlt : k < m
    · have hi2 : i + st ≤ s.size := by
        rw [HL.out, HI.out, ← Nat.succ_mul]
        exact Nat.mul_le_mul_right _ hlt
      have HN : Hid (∀ W, Calls Tryz.prog 89 #[.string (s.extract i (i + st)), .int .i64 width, .int .i64 n, .int .i64 lim] W fun e w' => ∃ g cap, e = .returned (.tuple #[.slice (some ⟨g, 0, none⟩) n cap, .bool true]) ∧ OwnI w' W.heap.size (.slice (some ⟨g, 0, none⟩) n cap) (rowL s.data.toList width n k) ∧ Up W w') := fun W => by
        have hc := HC.out k hlt
        rw [← HI.out] at hc
        refine (Numbers_ok (s.extract i (i + st)) n width lim W (by unfold maxLen; simp; omega) (by omega) hw hw2 (by rw [ext_list s i (i + st) hi2]; exact hc)).mono ?_
        rintro e w' ⟨v, rfl, ho, hu'⟩
        rw [ext_list s i (i + st) hi2] at ho
        have e1 := HP.out k
        rw [← HI.out] at e1
        rw [← e1] at ho
        obtain ⟨g, cap, rfl, _, _⟩ := ho.is (ne_nil_of_length (rowL_length _ _ _ _) hn)
        rw [rowL_length] at ho ⊢
        exact ⟨g, cap, rfl, ho, hu'⟩
      have hb0 : (i : Int) ≤ (s.size : Int) - (st : Int) := by omega
      have hc1 : (0 : Int) ≤ (i : Int) := by omega
      have hc2 : (i : Int) ≤ (i : Int) + (st : Int) := by omega
      have hc3 : (i : Int) + (st : Int) ≤ (s.size : Int) := by omega
      have ec : ((i : Int) + (st : Int)).toNat = i + st := by omega
      go_wp2_with fail
      refine Calls.mono (HN.out _) ?_
      rintro e w1 ⟨g, cap, rfl, ho1, hu1⟩
      have hown1 := hown.up hu1
      have hsz : w.heap.size ≤ wr.heap.size := hu.size
      have hsz1 : w.heap.size ≤ w1.heap.size := (hu.trans hu1).size
      clear HN
      go_wp2_with (at_builtin; refine append_hdr w1 _ rfl rfl _ _ rfl _ _ _ rfl hown1.hdr rfl (by rw [hdL_length]; omega) hsz1 ?_)
      intro v2 w2 hown2 hg2 hb2
      have hN := hown.next hu1 hsz ho1 hown2 hg2
      clear hown hown1 hown2
      go_wp2
      go_roundw
      case rel => exact ⟨k + 1, i + st, _, _, by omega, (by rw [HI.out]; exact (Nat.succ_mul _ _).symm), hi2, by go_num, hN, Below.trans (hu.trans hu1) hb2⟩
      case measure => simp [intOf]; omega
    · obtain rfl : k = m := by omega
      have e : i = s.size := by rw [HI.out, HL.out]
      subst e
      have hb1 : ¬ (s.size : Int) ≤ (s.size : Int) - (st : Int) := by omega
      obtain ⟨H, cap, rfl, hH, hR⟩ := hown.rows (by omega)
      go_wp2_with fail
      go_ret2
      first | exact ⟨H, cap, gs, caps, rfl, hR, hH, hu⟩ | exact ⟨H, ⟨cap, rfl⟩, ⟨gs, caps, hR⟩, hH, hu⟩

set_option maxHeartbeats 2000000 in
theorem Lists_no (s : ByteArray) (n m width : Nat) (lim : Int) (w : World) (hs : s.size ≤ maxLen) (hn2 : n ≤ 64) (hm2 : m ≤ 1024) (hw : 1 ≤ width) (hw2 : width ≤ 5) (hok : okL s.data.toList (m * n) width lim = false) :
    Calls Tryz.prog 88 #[.string s, .int .i64 width, .int .i64 n, .int .i64 m, .int .i64 lim] w fun e w' => e = .returned (.tuple #[.slice none 0 0, .bool false]) ∧ Up w w' := by
  have hs2 : (s.size : Int) ≤ 9223372036854775807 := by unfold maxLen at hs; omega
  have hst : width * n ≤ 320 := Nat.le_trans (Nat.mul_le_mul hw2 hn2) (by decide)
  have ew : IntKind.i64.wrap ((width : Int) * (n : Int)) = ((width * n : Nat) : Int) := by rw [← Int.natCast_mul]; exact IntWalk.i64_in _ (by omega)
  by_cases hn : 1 ≤ n
  · have hst1 : 1 ≤ width * n := Nat.mul_pos hw hn
    have HC : Hid (s.size = m * (width * n) → ¬ ∀ k, k < m → okL ((s.data.toList.take (k * (width * n) + width * n)).drop (k * (width * n))) n width lim = true) := fun h1 h2 => by
      rw [(okL_chunks _ _ _ _ _ hn).2 ⟨by simpa using h1, h2⟩] at hok
      exact absurd hok (by decide)
    clear hok
    generalize width * n = st at hst hst1 ew HC
    have hd0 : ((st : Int) == 0) = false := beq_eq_false_iff_ne.2 (by omega)
    have hd1 : ¬ (st : Int) = 0 := by omega
    have hd2 : ¬ st = 0 := by omega
    have hq0 : (s.size : Int) / (st : Int) ≤ s.size := Int.ediv_le_self _ (by omega)
    have hq1 : 0 ≤ (s.size : Int) / (st : Int) := Int.ediv_nonneg (by omega) (by omega)
    by_cases hlen : s.size = m * st
    · have HC : Hid _ := HC.out hlen
      have hb3 : s.size ≤ 327680 := by rw [hlen]; exact Nat.mul_le_mul hm2 hst
      have hl1 : (s.size : Int).tmod (st : Int) = 0 := by
        rw [Int.tmod_eq_emod_of_nonneg (by omega), hlen, Int.natCast_mul]; simp
      have hl2 : IntKind.i64.wrap ((s.size : Int).tdiv (st : Int)) = (m : Int) := by
        rw [Int.tdiv_eq_ediv_of_nonneg (by omega), hlen, Int.natCast_mul, Int.mul_ediv_cancel _ (by omega)]
        exact IntWalk.i64_in _ (by omega)
      have hl3 : (s.size : Int) % (st : Int) = 0 := by rw [hlen, Int.natCast_mul]; simp
      have hl4 : (s.size : Int) / (st : Int) = (m : Int) := by rw [hlen, Int.natCast_mul, Int.mul_ediv_cancel _ (by omega)]
      have HL : Hid _ := hlen
      clear hlen
      go_enter Tryz.func88, Tryz.ntmps88
      go_wp2
      go_loopw [13, 14] (fun v j wr => ∃ (k i : Nat) (hs : List Value), k ≤ m ∧ Hid (i = k * st) ∧ i ≤ s.size ∧ j = .int .i64 (i : Int) ∧ hs.length = k ∧ OwnH wr w.heap.size v hs ∧ Up w wr ∧ Hid (∀ j, j < k → okL ((s.data.toList.take (j * st + st)).drop (j * st)) n width lim = true)) (fun _ j _ => s.size - (intOf j).toNat)
      case atStart => exact ⟨0, 0, [], Nat.zero_le _, (Nat.zero_mul _).symm, Nat.zero_le _, rfl, rfl, World.ownsRow_nil _ _ _ _, Up.refl _, fun j hj => absurd hj (Nat.not_lt_zero j)⟩
      case round =>
        obtain ⟨k, i, hds, hk, HI, his, rfl, hhl, hown, hu, hall⟩ := hrel
        have hlt : k < m := by
          rcases Nat.lt_or_ge k m with h | h
          · exact h
          · exact absurd (fun i hi => hall.out i (by omega)) HC.out
        have hi2 : i + st ≤ s.size := by
          rw [HL.out, HI.out, ← Nat.succ_mul]
          exact Nat.mul_le_mul_right _ hlt
        have hb0 : (i : Int) ≤ (s.size : Int) - (st : Int) := by omega
        have hc1 : (0 : Int) ≤ (i : Int) := by omega
        have hc2 : (i : Int) ≤ (i : Int) + (st : Int) := by omega
        have hc3 : (i : Int) + (st : Int) ≤ (s.size : Int) := by omega
        have ec : ((i : Int) + (st : Int)).toNat = i + st := by omega
        have hsz : w.heap.size ≤ wr.heap.size := hu.size
        cases hch : okL ((s.data.toList.take (k * st + st)).drop (k * st)) n width lim with
        | true =>
          have HW : Hid _ := hch
          have HN : Hid (∀ W, Calls Tryz.prog 89 #[.string (s.extract i (i + st)), .int .i64 width, .int .i64 n, .int .i64 lim] W fun e w' => ∃ g cap, e = .returned (.tuple #[.slice (some ⟨g, 0, none⟩) n cap, .bool true]) ∧ Up W w') := fun W => by
            rw [← HI.out] at hch
            refine (Numbers_ok (s.extract i (i + st)) n width lim W (by unfold maxLen; simp; omega) (by omega) hw hw2 (by rw [ext_list s i (i + st) hi2]; exact hch)).mono ?_
            rintro e w' ⟨v, rfl, ho, hu'⟩
            obtain ⟨g, cap, rfl, _, _⟩ := ho.is (ne_nil_of_length (numsL_length _ _ _) hn)
            rw [numsL_length]
            exact ⟨g, cap, rfl, hu'⟩
          clear hch
          go_wp2_with fail
          refine Calls.mono (HN.out _) ?_
          rintro e w1 ⟨g, cap, rfl, hu1⟩
          have hown1 := OwnH.up hown hu1
          have hsz1 : w.heap.size ≤ w1.heap.size := (hu.trans hu1).size
          clear HN
          go_wp2_with (at_builtin; refine append_hdr w1 _ rfl rfl _ _ rfl _ _ _ rfl hown1 rfl (by omega) hsz1 ?_)
          intro v2 w2 hown2 hg2 hb2
          clear hown hown1
          go_wp2
          go_roundw
          case rel => exact ⟨k + 1, i + st, _, by omega, (by rw [HI.out]; exact (Nat.succ_mul _ _).symm), hi2, by go_num, by rw [List.length_append, hhl]; rfl, hown2, Below.trans (hu.trans hu1) hb2, fun j hj => by
            by_cases e : j = k
            · subst e; exact HW.out
            · exact hall.out j (by omega)⟩
          case measure => simp [intOf]; omega
        | false =>
          have HN : Hid (∀ W, Calls Tryz.prog 89 #[.string (s.extract i (i + st)), .int .i64 width, .int .i64 n, .int .i64 lim] W fun e w' => e = .returned (.tuple #[.slice none 0 0, .bool false]) ∧ Up W w') := fun W => by
            rw [← HI.out] at hch
            exact Numbers_no (s.extract i (i + st)) n width lim W (by unfold maxLen; simp; omega) (by omega) hw hw2 (by rw [ext_list s i (i + st) hi2]; exact hch)
          clear hch
          go_wp2_with fail
          refine Calls.mono (HN.out _) ?_
          rintro e w1 ⟨rfl, hu1⟩
          go_wp2_with fail
          go_ret2
          exact ⟨rfl, hu.trans hu1⟩
    · clear HC
      by_cases hev : (s.size : Int) % (st : Int) = 0
      · have hl1 : (s.size : Int).tmod (st : Int) = 0 := by rw [Int.tmod_eq_emod_of_nonneg (by omega)]; exact hev
        have hl2 : IntKind.i64.wrap ((s.size : Int).tdiv (st : Int)) = (s.size : Int) / (st : Int) := by
          rw [Int.tdiv_eq_ediv_of_nonneg (by omega)]
          exact IntWalk.i64_in _ (by omega)
        have hl4 : ((s.size : Int) / (st : Int) != (m : Int)) = true := by
          rw [bne_iff_ne]
          intro c
          have h := Int.mul_ediv_add_emod (s.size : Int) (st : Int)
          rw [hev, c, Int.add_zero, ← Int.natCast_mul, Nat.mul_comm] at h
          omega
        clear hlen
        go_enter Tryz.func88, Tryz.ntmps88
        go_wp2
        go_ret2
        exact ⟨rfl, Up.refl _⟩
      · have hl0 : (s.size : Int).tmod (st : Int) = (s.size : Int) % (st : Int) := Int.tmod_eq_emod_of_nonneg (by omega)
        have hl1 : ((s.size : Int) % (st : Int) != 0) = true := by rw [bne_iff_ne]; exact hev
        clear hlen hev
        go_enter Tryz.func88, Tryz.ntmps88
        go_wp2
        go_ret2
        exact ⟨rfl, Up.refl _⟩
  · obtain rfl : n = 0 := by omega
    clear hok ew hst
    have ew : IntKind.i64.wrap ((width : Int) * 0) = 0 := by rw [Int.mul_zero]; rfl
    go_enter Tryz.func88, Tryz.ntmps88
    go_wp2
    go_ret2
    exact ⟨rfl, Up.refl _⟩

end Go.Proofs.YtcjhgbljhpflfabGreat
