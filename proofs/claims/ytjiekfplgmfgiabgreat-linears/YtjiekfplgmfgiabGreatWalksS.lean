/-
  Walks: slices of numbers: reading a text as numbers.
-/
import Derived.Test.YtjiekfplgmfgiabGreatWalksR
import Derived.Maps.AppendAt
namespace Go.Proofs.YtjiekfplgmfgiabGreat
open Go.RowKit
set_option linter.unusedVariables false

theorem info_int : (Tryz.prog.info? 3).map (fun i => (i.zero, i.size, i.bytes)) = some (some (.int .i64 0), 1, 8) := by kernel_rfl

/-- the slice v owns the numbers xs, in blocks from base on -/
abbrev OwnI (w : World) (base : Nat) (v : Value) (xs : List Int) : Prop := w.ownsRow base 3 1 v xs.length (xs.map (Value.int .i64))

theorem OwnI.lt {w : World} {base : Nat} {v : Value} {xs : List Int} (h : OwnI w base v xs) : ∀ k, v.ownBlock = some k → base ≤ k ∧ k < w.heap.size := World.ownsRow.lt h

theorem OwnI.base {w : World} {base base' : Nat} {v : Value} {xs : List Int} (h : OwnI w base v xs) (hb : base' ≤ base) : OwnI w base' v xs := by
  refine ⟨h.1, ?_⟩
  rcases h.2 with h2 | ⟨g, cap, cur, h3, h4, h5⟩
  · exact Or.inl h2
  · exact Or.inr ⟨g, cap, cur, h3, Nat.le_trans hb h4, h5⟩

theorem OwnI.up {w w' : World} {base : Nat} {v : Value} {xs : List Int} (h : OwnI w base v xs) (hu : Up w w') : OwnI w' base v xs := by
  refine ⟨h.1, ?_⟩
  rcases h.2 with h2 | ⟨g, cap, cur, h3, h4, h5, h6⟩
  · exact Or.inl h2
  · exact Or.inr ⟨g, cap, cur, h3, h4, by rw [hu.block g (Array.getElem?_eq_some_iff.1 h5).1]; exact h5, h6⟩

/-- out = append(out, y), out the call's own -/
theorem append_int {ops : Array Oper} {rest : List Oper} {o : Oper} {a : Act} {Q : Exit → Act → World → Prop} (w : World) (y : Int) (hgd : o.guard = none) (s x : Operand)
    (ho : o.op = .call { callee := .builtin .append, args := #[s, x], argTypes := #[39, 39] })
    (base : Nat) (v : Value) (xs : List Int) (hs : a.eval s = v) (hown : OwnI w base v xs) (hx : a.eval x = .slice (some ⟨w.heap.size, 0, none⟩) 1 1)
    (hlen : xs.length ≤ 1099511627776) (hbase : base ≤ w.heap.size)
    (h : ∀ v' w', OwnI w' base v' (xs ++ [y]) → w.grownBy w' v.ownBlock → Below base w w' → (v'.ownBlock = v.ownBlock ∨ ∃ g, v'.ownBlock = some g ∧ w.heap.size ≤ g) → wpList Tryz.prog ops Q rest (a.put o.dst v') w') :
    wpList Tryz.prog ops Q (o :: rest) a (w.alloc (.cells #[.int .i64 y] 3)) := by
  obtain ⟨i0, hi, hz0, hz1, hz2⟩ := info_parts info_int
  refine wpList_append_own_at _ hgd s x 39 ho base 3 i0 (.int .i64 0) 1 8 Tryz.underlying39 hi hz0 hz1 hz2 rfl (by decide) v xs.length (xs.map (Value.int .i64)) hs (World.ownsRow.alloc hown _)
    ⟨w.heap.size, 0, none⟩ 1 1 [.int .i64 y] hx rfl ?_ ?_ ?_ ?_ ?_ ?_
  · intro j u hj
    match j, hj with
    | 0, hj => simp at hj; subst hj; simp [Addr.add]
  · intro u hu; simp at hu; subst hu; rfl
  · unfold maxLen; omega
  · omega
  · simp; omega
  · intro v' w' h1 h2 h3 h4
    have hg : w.grownBy w' v.ownBlock := ⟨h2.os, h2.tape, h2.output, Nat.le_trans (by simp) h2.size, fun k hk hne => (h2.block k (by simp; omega) hne).trans (heap_alloc_old w _ hk)⟩
    refine h v' w' ?_ hg ?_ ?_
    · simpa [OwnI] using h1
    · exact (Below.refl _ _).grown hg hbase (fun k hk => (World.ownsRow.lt hown k hk).1)
    · rcases h4 with h4 | h4
      · exact Or.inl h4
      · exact Or.inr ⟨_, h4, by simp⟩

/-- the numbers of a text, from the first on: n of them, of so many bytes -/
def numsL (l : List UInt8) (size : Nat) : Nat → List Int
  | 0 => []
  | n + 1 => numsL l size n ++ [(numL l (n * size) size : Int)]

theorem numsL_length (l : List UInt8) (size n : Nat) : (numsL l size n).length = n := by
  induction n with
  | zero => rfl
  | succ n ih => simp [numsL, ih]

set_option maxHeartbeats 1000000 in
theorem List_yes (s : ByteArray) (n size : Nat) (m : Int) (w : World) (hs : s.size ≤ maxLen) (hn : n ≤ 1048576) (hsz : size ≤ 5) (hlen : s.size = n * size) (hm : ∀ i, i < n → (numL s.data.toList (i * size) size : Int) < m) :
    Calls Tryz.prog 51 #[.string s, .int .i64 n, .int .i64 size, .int .i64 m] w fun e w' => ∃ v, e = .returned (.tuple #[v, .bool true]) ∧ OwnI w' w.heap.size v (numsL s.data.toList size n) ∧ Up w w' := by
  have hM : (n : Int) * (size : Int) ≤ 1048576 * 5 := Int.mul_le_mul (by omega) (by omega) (by omega) (by omega)
  have hM0 : 0 ≤ (n : Int) * (size : Int) := Int.mul_nonneg (by omega) (by omega)
  have hl2 : ((s.size : Int) != (n : Int) * (size : Int)) = false := by rw [hlen]; simp
  have HM : Hid _ := hm
  have HS : Hid _ := hlen
  clear hm hlen
  go_enter Tryz.func51, Tryz.ntmps51
  go_wp2
  go_loopw [10, 11] (fun v j wr => ∃ k : Nat, k ≤ n ∧ j = .int .i64 (k : Int) ∧ OwnI wr w.heap.size v (numsL s.data.toList size k) ∧ Up w wr) (fun _ j _ => n - (intOf j).toNat)
  case atStart => exact ⟨0, Nat.zero_le _, rfl, World.ownsRow_nil _ _ _ _, Up.refl _⟩
  case round =>
    obtain ⟨k, hk, rfl, hown, hu⟩ := hrel
    by_cases hlt : k < n
    · have hlt2 := HM.out k hlt
      have hM1 : (k : Int) * (size : Int) ≤ 1048576 * 5 := Int.mul_le_mul (by omega) (by omega) (by omega) (by omega)
      have hM2 : 0 ≤ (k : Int) * (size : Int) := Int.mul_nonneg (by omega) (by omega)
      go_wp2_with fail
      refine (Number_calls _ _ _ _ hs (by omega) (by omega) (by omega)).mono ?_
      rintro e w' ⟨rfl, rfl⟩
      rw [show ((k : Int) * (size : Int)).toNat = k * size from by rw [← Int.natCast_mul, Int.toNat_natCast]]
      go_wp2_with (at_builtin; refine append_int _ _ rfl _ _ rfl _ _ _ rfl hown rfl (by rw [numsL_length]; omega) hu.size ?_)
      intro v1 w1 hown1 hg1 hb1 _
      clear hown
      go_wp2
      go_roundw
      case rel => exact ⟨k + 1, by omega, by go_num, hown1, Below.trans hu hb1⟩
      case measure => simp [intOf]; omega
    · obtain rfl : k = n := by omega
      go_wp2
      go_ret2
      exact ⟨_, rfl, hown, hu⟩

/-- is the text n numbers of so many bytes, each below m, and nothing else? -/
def okL (l : List UInt8) (n size : Nat) (m : Int) : Bool := decide (l.length = n * size) && (List.range n).all fun i => decide ((numL l (i * size) size : Int) < m)

theorem okL_iff (l : List UInt8) (n size : Nat) (m : Int) : okL l n size m = true ↔ l.length = n * size ∧ ∀ i, i < n → (numL l (i * size) size : Int) < m := by
  unfold okL
  simp

theorem List_ok (s : ByteArray) (n size : Nat) (m : Int) (w : World) (hs : s.size ≤ maxLen) (hn : n ≤ 1048576) (hsz : size ≤ 5) (hok : okL s.data.toList n size m = true) :
    Calls Tryz.prog 51 #[.string s, .int .i64 n, .int .i64 size, .int .i64 m] w fun e w' => ∃ v, e = .returned (.tuple #[v, .bool true]) ∧ OwnI w' w.heap.size v (numsL s.data.toList size n) ∧ Up w w' := by
  obtain ⟨h1, h2⟩ := (okL_iff _ _ _ _).1 hok
  exact List_yes s n size m w hs hn hsz (by simpa using h1) h2

set_option maxHeartbeats 1000000 in
theorem List_no (s : ByteArray) (n size : Nat) (m : Int) (w : World) (hs : s.size ≤ maxLen) (hn : n ≤ 1048576) (hsz : size ≤ 5) (hok : okL s.data.toList n size m = false) :
    Calls Tryz.prog 51 #[.string s, .int .i64 n, .int .i64 size, .int .i64 m] w fun e w' => e = .returned (.tuple #[.slice none 0 0, .bool false]) ∧ Up w w' := by
  have hM : (n : Int) * (size : Int) ≤ 1048576 * 5 := Int.mul_le_mul (by omega) (by omega) (by omega) (by omega)
  have hM0 : 0 ≤ (n : Int) * (size : Int) := Int.mul_nonneg (by omega) (by omega)
  by_cases hlen : s.size = n * size
  · have hl2 : ((s.size : Int) != (n : Int) * (size : Int)) = false := by rw [hlen]; simp
    have HM : Hid (¬ ∀ i, i < n → (numL s.data.toList (i * size) size : Int) < m) := by
      intro c
      rw [(okL_iff _ _ _ _).2 ⟨by simpa using hlen, c⟩] at hok
      exact absurd hok (by decide)
    clear hlen hok
    go_enter Tryz.func51, Tryz.ntmps51
    go_wp2
    go_loopw [10, 11] (fun v j wr => ∃ k : Nat, k ≤ n ∧ j = .int .i64 (k : Int) ∧ OwnI wr w.heap.size v (numsL s.data.toList size k) ∧ Up w wr ∧ Hid (∀ i, i < k → (numL s.data.toList (i * size) size : Int) < m)) (fun _ j _ => n - (intOf j).toNat)
    case atStart => exact ⟨0, Nat.zero_le _, rfl, World.ownsRow_nil _ _ _ _, Up.refl _, fun i hi => by omega⟩
    case round =>
      obtain ⟨k, hk, rfl, hown, hu, hall⟩ := hrel
      have hlt : k < n := by
        rcases Nat.lt_or_ge k n with h | h
        · exact h
        · exact absurd (fun i hi => hall.out i (by omega)) HM.out
      have hM1 : (k : Int) * (size : Int) ≤ 1048576 * 5 := Int.mul_le_mul (by omega) (by omega) (by omega) (by omega)
      have hM2 : 0 ≤ (k : Int) * (size : Int) := Int.mul_nonneg (by omega) (by omega)
      by_cases hlt2 : (numL s.data.toList (k * size) size : Int) < m
      · go_wp2_with fail
        refine (Number_calls _ _ _ _ hs (by omega) (by omega) (by omega)).mono ?_
        rintro e w' ⟨rfl, rfl⟩
        rw [show ((k : Int) * (size : Int)).toNat = k * size from by rw [← Int.natCast_mul, Int.toNat_natCast]]
        go_wp2_with (at_builtin; refine append_int _ _ rfl _ _ rfl _ _ _ rfl hown rfl (by rw [numsL_length]; omega) hu.size ?_)
        intro v1 w1 hown1 hg1 hb1 _
        clear hown
        go_wp2
        go_roundw
        case rel => exact ⟨k + 1, by omega, by go_num, hown1, Below.trans hu hb1, fun i hi => by
          by_cases e : i = k
          · subst e; exact hlt2
          · exact hall.out i (by omega)⟩
        case measure => simp [intOf]; omega
      · go_wp2_with fail
        refine (Number_calls _ _ _ _ hs (by omega) (by omega) (by omega)).mono ?_
        rintro e w' ⟨rfl, rfl⟩
        rw [show ((k : Int) * (size : Int)).toNat = k * size from by rw [← Int.natCast_mul, Int.toNat_natCast]]
        go_wp2_with fail
        go_ret2
        exact ⟨rfl, hu⟩
  · have hl2 : ((s.size : Int) != (n : Int) * (size : Int)) = true := by
      rw [bne_iff_ne, ← Int.natCast_mul]
      omega
    go_enter Tryz.func51, Tryz.ntmps51
    go_wp2
    go_ret2
    exact ⟨rfl, Up.refl _⟩

set_option maxHeartbeats 400000 in
theorem Values_ok (n : Nat) (t q b : Int) (s : ByteArray) (w : World) (hs : s.size ≤ maxLen) (hn : n ≤ 16) (hok : okL s.data.toList n 2 t = true) :
    Calls Tryz.prog 22 #[.agg #[.int .i64 n, .int .i64 t, .int .i64 q, .int .i64 b], .string s] w fun e w' => ∃ v, e = .returned (.tuple #[v, .bool true]) ∧ OwnI w' w.heap.size v (numsL s.data.toList 2 n) ∧ Up w w' := by
  go_enter Tryz.func22, Tryz.ntmps22
  go_wp2_with fail
  refine (List_ok s n 2 t _ hs (by omega) (by omega) hok).mono ?_
  rintro e w' ⟨v, rfl, hown, hu⟩
  go_wp2_with fail
  go_ret2
  exact ⟨v, rfl, hown.base (by simp), ((Up.refl _).alloc _).trans hu⟩

set_option maxHeartbeats 400000 in
theorem Values_no (n : Nat) (t q b : Int) (s : ByteArray) (w : World) (hs : s.size ≤ maxLen) (hn : n ≤ 16) (hok : okL s.data.toList n 2 t = false) :
    Calls Tryz.prog 22 #[.agg #[.int .i64 n, .int .i64 t, .int .i64 q, .int .i64 b], .string s] w fun e w' => e = .returned (.tuple #[.slice none 0 0, .bool false]) ∧ Up w w' := by
  go_enter Tryz.func22, Tryz.ntmps22
  go_wp2_with fail
  refine (List_no s n 2 t _ hs (by omega) (by omega) hok).mono ?_
  rintro e w' ⟨rfl, hu⟩
  go_wp2_with fail
  go_ret2
  exact ⟨rfl, ((Up.refl _).alloc _).trans hu⟩

end Go.Proofs.YtjiekfplgmfgiabGreat
