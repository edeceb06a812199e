/-
  Walks: the reference's functions on numbers and bytes.
  Walks: slices of numbers: reading a text as numbers.
  Walks: the reference's writing of numbers.
-/
import Derived.Test.YtcjhgbljhpflfabGreatWalksP
import Derived.Test.YtcjhgbljhpflfabGreatMath
import Derived.Deep.QuietTactic
import Derived.BigQuiet
import Derived.WalkSmall
import Derived.Maps.AppendAt
import Derived.Deep.RegionWith
import Derived.Deep.DrawnRows
namespace Go.Proofs.YtcjhgbljhpflfabGreat
open Go.RowKit
set_option linter.unusedVariables false

theorem Up.drewN {a b : World} {n : Nat} (h : Up a b) : Up a (b.drewN n) := below_drewN h n

set_option maxHeartbeats 400000 in
theorem Byte_calls (s : ByteArray) (i : Int) (w : World) (hs : s.size ≤ maxLen) (h0 : 0 ≤ i) :
    Calls Tryz.prog 97 #[.string s, .int .i64 i] w fun e w' => e = .returned (.int .i64 (byteL s.data.toList i.toNat)) ∧ w' = w := by
  unfold maxLen at hs
  obtain ⟨k, rfl⟩ := Int.eq_ofNat_of_zero_le h0
  rw [Int.toNat_natCast]
  by_cases hk : k < s.size
  · have H : Hid _ := byteL_in s k hk
    have hb := (s[k]).toNat_lt
    go_enter Tryz.func97, Tryz.ntmps97
    go_wp2
    go_ret
    exact ⟨ret_int (by rw [H.out]), rfl⟩
  · have H : Hid _ := byteL_out s.data.toList k (by simp; omega)
    go_enter Tryz.func97, Tryz.ntmps97
    go_wp2
    go_ret
    exact ⟨ret_int (by rw [H.out]; rfl), rfl⟩

set_option maxHeartbeats 400000 in
theorem Number_calls (s : ByteArray) (i : Int) (n : Nat) (w : World) (hs : s.size ≤ maxLen) (h0 : 0 ≤ i) (h1 : i ≤ 4611686018427387904) (hn : n ≤ 5) :
    Calls Tryz.prog 99 #[.string s, .int .i64 i, .int .i64 n] w fun e w' => e = .returned (.int .i64 (numL s.data.toList i.toNat n)) ∧ w' = w := by
  obtain ⟨k, rfl⟩ := Int.eq_ofNat_of_zero_le h0
  rw [Int.toNat_natCast]
  go_enter Tryz.func99, Tryz.ntmps99
  go_wp2
  go_loopw [7, 8] (fun v j wr => ∃ m : Nat, m ≤ n ∧ j = .int .i64 ((k + m : Nat) : Int) ∧ v = .int .i64 (numL s.data.toList k m) ∧ wr = w) (fun _ j _ => k + n - (intOf j).toNat)
  case atStart => exact ⟨0, Nat.zero_le _, by simp, rfl, rfl⟩
  case round =>
    obtain ⟨m, hm, rfl, rfl, rfl⟩ := hrel
    have hb := numL_le5 s.data.toList k m (by omega)
    have hc := byteL_lt s.data.toList (k + m)
    by_cases hlt : m < n
    · go_wp2_with (go_at_call 97; refine (Byte_calls _ _ _ hs (by omega)).mono ?_; rintro e w' ⟨rfl, rfl⟩)
      go_roundw
      case rel => exact ⟨m + 1, by omega, by go_num, by simp only [numL]; go_num, by trivial⟩
      case measure => simp [intOf]; omega
    · obtain rfl : m = n := by omega
      go_wp2
      go_ret
      exact ⟨rfl, rfl⟩

set_option maxHeartbeats 400000 in
theorem raised_calls (v n t : Int) (w : World) (hv : 0 ≤ v) (hv2 : v ≤ 1048576) (hn : 0 ≤ n) (hn2 : n ≤ 4611686018427387904) (ht : 2 ≤ t) (ht2 : t ≤ 1048576) :
    Calls Tryz.prog 107 #[.int .i64 v, .int .i64 n, .int .i64 t] w fun e w' => e = .returned (.int .i64 (v ^ n.toNat % t)) ∧ w' = w := by
  obtain ⟨m, rfl⟩ := Int.eq_ofNat_of_zero_le hn
  rw [Int.toNat_natCast]
  go_enter Tryz.func107, Tryz.ntmps107
  go_wp2
  go_loop [1, 7] (fun j r => ∃ k l : Nat, k + l = m ∧ j = .int .i64 (k : Int) ∧ r = .int .i64 (v ^ l % t)) (fun j _ => (intOf j).toNat)
  case atStart => exact ⟨m, 0, by omega, rfl, by rw [Int.pow_zero, ← one_mod t ht]⟩
  case round =>
    obtain ⟨k, l, hkl, rfl, rfl⟩ := hrel
    have h1 := Int.emod_nonneg (v ^ l) (b := t) (by omega)
    have h2 := Int.emod_lt_of_pos (v ^ l) (b := t) (by omega)
    have H : Hid _ := pow_mod_step v l t
    have h3 : 0 ≤ v ^ l % t * v := Int.mul_nonneg h1 hv
    have h4 : v ^ l % t * v ≤ 1048576 * 1048576 := Int.mul_le_mul (by omega) hv2 hv (by omega)
    by_cases hk : 0 < k
    · go_wp2
      go_round
      case rel => exact ⟨k - 1, l + 1, by omega, by go_num, by rw [H.out]⟩
      case measure => simp [intOf]; omega
    · go_wp2
      go_ret
      obtain rfl : l = m := by omega
      exact ⟨rfl, rfl⟩

set_option maxHeartbeats 400000 in
/-- inverse, where there is one -/
theorem refInverse_calls (v t u : Int) (w : World) (hv : 0 ≤ v) (hv2 : v ≤ 1048576) (ht2 : t ≤ 1048576) (hu : 1 ≤ u) (hu2 : u < t) (h : v * u % t = 1) (hl : ∀ x, 1 ≤ x → x < u → v * x % t ≠ 1) :
    Calls Tryz.prog 164 #[.int .i64 v, .int .i64 t] w fun e w' => e = .returned (.int .i64 u) ∧ w' = w := by
  have H1 : Hid _ := h
  have H2 : Hid _ := hl
  clear h hl
  go_enter Tryz.func164, Tryz.ntmps164
  go_wp2
  go_loop [5] (fun j => ∃ x : Int, 1 ≤ x ∧ x ≤ u ∧ j = .int .i64 x) (fun j => (u - intOf j).toNat)
  case atStart => exact ⟨1, by omega, hu, rfl⟩
  case round =>
    obtain ⟨x, hx1, hx2, rfl⟩ := hrel
    have h3 : 0 ≤ v * x := Int.mul_nonneg hv (by omega)
    have h4 : v * x ≤ 1048576 * 1048576 := Int.mul_le_mul hv2 (by omega) (by omega) (by omega)
    by_cases hx : x = u
    · subst hx
      have h5 : (v * x % t == 1) = true := by rw [H1.out]; rfl
      go_wp2
      go_ret
      exact ⟨rfl, rfl⟩
    · have h5 : (v * x % t == 1) = false := beq_eq_false_iff_ne.2 (H2.out x hx1 (by omega))
      go_wp2
      go_round
      case rel => exact ⟨x + 1, by omega, by omega, rfl⟩
      case measure => simp [intOf]; omega

set_option maxHeartbeats 400000 in
/-- root: the least z with z^n = -1 -/
theorem root_calls (n t q b z : Int) (w : World) (hn : 0 ≤ n) (hn2 : n ≤ 16) (ht : 2 ≤ t) (ht2 : t ≤ 1048576) (hz : 1 ≤ z) (hz2 : z < t) (h : z ^ n.toNat % t = t - 1) (hl : ∀ x, 1 ≤ x → x < z → x ^ n.toNat % t ≠ t - 1) :
    Calls Tryz.prog 163 #[.agg #[.int .i64 n, .int .i64 t, .int .i64 q, .int .i64 b]] w fun e w' => e = .returned (.int .i64 z) ∧ Up w w' := by
  have H1 : Hid _ := h
  have H2 : Hid _ := hl
  clear h hl
  go_enter Tryz.func163, Tryz.ntmps163
  go_wp2
  go_loopw [3] (fun j wr => ∃ x : Int, 1 ≤ x ∧ x ≤ z ∧ j = .int .i64 x ∧ Up (w.alloc (.cells #[.int .i64 n, .int .i64 t, .int .i64 q, .int .i64 b] 23)) wr) (fun j _ => (z - intOf j).toNat)
  case atStart => exact ⟨1, by omega, hz, rfl, Up.refl _⟩
  case round =>
    obtain ⟨x, hx1, hx2, rfl, hu⟩ := hrel
    obtain ⟨hc, hf⟩ := bcell hu
    by_cases hx : x = z
    · subst hx
      have h5 : (x ^ n.toNat % t == t - 1) = true := by rw [H1.out]; exact beq_self_eq_true _
      go_wp2_with fail
      go_quiet ((go_at_call 107; exact Calls.quiet_of_same (raised_calls _ _ _ _ (by omega) (by omega) (by omega) (by omega) (by omega) (by omega))))
      go_wp2_with fail
      go_ret
      exact ⟨rfl, ((Up.refl _).alloc _).trans hu.drewN⟩
    · have h5 : (x ^ n.toNat % t == t - 1) = false := beq_eq_false_iff_ne.2 (H2.out x hx1 (by omega))
      go_wp2_with fail
      go_quiet ((go_at_call 107; exact Calls.quiet_of_same (raised_calls _ _ _ _ (by omega) (by omega) (by omega) (by omega) (by omega) (by omega))))
      go_wp2_with fail
      go_roundw
      case rel => exact ⟨x + 1, by omega, by omega, rfl, hu.drewN⟩
      case measure => simp [intOf]; omega

end Go.Proofs.YtcjhgbljhpflfabGreat

namespace Go.Proofs.YtcjhgbljhpflfabGreat
open Go.RowKit
set_option linter.unusedVariables false

theorem info_int : (Tryz.prog.info? 3).map (fun i => (i.zero, i.size, i.bytes)) = some (some (.int .i64 0), 1, 8) := by kernel_rfl

/-- the slice v owns the numbers xs, in blocks from base on -/
abbrev OwnI (w : World) (base : Nat) (v : Value) (xs : List Int) : Prop := w.ownsRow base 3 1 v xs.length (xs.map (Value.int .i64))

theorem OwnI.lt {w : World} {base : Nat} {v : Value} {xs : List Int} (h : OwnI w base v xs) : ∀ k, v.ownBlock = some k → base ≤ k ∧ k < w.heap.size := World.ownsRow.lt h

theorem OwnI.base {w : World} {base base' : Nat} {v : Value} {xs : List Int} (h : OwnI w base v xs) (hb : base' ≤ base) : OwnI w base' v xs := by
  refine ⟨h.1, ?_⟩
  rcases h.2 with h2 | ⟨g, cap, cur, h3, h4, h5⟩
  · exact Or.inl h2
  · exact Or.inr ⟨g, cap, cur, h3, Nat.le_trans hb h4, h5⟩

theorem OwnI.up {w w' : World} {base : Nat} {v : Value} {xs : List Int} (h : OwnI w base v xs) (hu : Up w w') : OwnI w' base v xs := by
  refine ⟨h.1, ?_⟩
  rcases h.2 with h2 | ⟨g, cap, cur, h3, h4, h5, h6⟩
  · exact Or.inl h2
  · exact Or.inr ⟨g, cap, cur, h3, h4, by rw [hu.block g (Array.getElem?_eq_some_iff.1 h5).1]; exact h5, h6⟩

/-- out = append(out, y), out the call's own -/
theorem append_int {ops : Array Oper} {rest : List Oper} {o : Oper} {a : Act} {Q : Exit → Act → World → Prop} (w : World) (y : Int) (hgd : o.guard = none) (s x : Operand)
    (ho : o.op = .call { callee := .builtin .append, args := #[s, x], argTypes := #[54, 54] })
    (base : Nat) (v : Value) (xs : List Int) (hs : a.eval s = v) (hown : OwnI w base v xs) (hx : a.eval x = .slice (some ⟨w.heap.size, 0, none⟩) 1 1)
    (hlen : xs.length ≤ 1099511627776) (hbase : base ≤ w.heap.size)
    (h : ∀ v' w', OwnI w' base v' (xs ++ [y]) → w.grownBy w' v.ownBlock → Below base w w' → (v'.ownBlock = v.ownBlock ∨ ∃ g, v'.ownBlock = some g ∧ w.heap.size ≤ g) → wpList Tryz.prog ops Q rest (a.put o.dst v') w') :
    wpList Tryz.prog ops Q (o :: rest) a (w.alloc (.cells #[.int .i64 y] 3)) := by
  obtain ⟨i0, hi, hz0, hz1, hz2⟩ := info_parts info_int
  refine wpList_append_own_at _ hgd s x 54 ho base 3 i0 (.int .i64 0) 1 8 Tryz.underlying54 hi hz0 hz1 hz2 rfl (by decide) v xs.length (xs.map (Value.int .i64)) hs (World.ownsRow.alloc hown _)
    ⟨w.heap.size, 0, none⟩ 1 1 [.int .i64 y] hx rfl ?_ ?_ ?_ ?_ ?_ ?_
  · intro j u hj
    match j, hj with
    | 0, hj => simp at hj; subst hj; simp [Addr.add]
  · intro u hu; simp at hu; subst hu; rfl
  · unfold maxLen; omega
  · omega
  · simp; omega
  · intro v' w' h1 h2 h3 h4
    have hg : w.grownBy w' v.ownBlock := ⟨h2.os, h2.tape, h2.output, Nat.le_trans (by simp) h2.size, fun k hk hne => (h2.block k (by simp; omega) hne).trans (heap_alloc_old w _ hk)⟩
    refine h v' w' ?_ hg ?_ ?_
    · simpa [OwnI] using h1
    · exact (Below.refl _ _).grown hg hbase (fun k hk => (World.ownsRow.lt hown k hk).1)
    · rcases h4 with h4 | h4
      · exact Or.inl h4
      · exact Or.inr ⟨_, h4, by simp⟩

/-- the numbers of a text, from the first on: n of them, of so many bytes -/
def numsL (l : List UInt8) (size : Nat) : Nat → List Int
  | 0 => []
  | n + 1 => numsL l size n ++ [(numL l (n * size) size : Int)]

theorem numsL_length (l : List UInt8) (size n : Nat) : (numsL l size n).length = n := by
  induction n with
  | zero => rfl
  | succ n ih => simp [numsL, ih]

set_option maxHeartbeats 1000000 in
theorem List_yes (s : ByteArray) (n size : Nat) (m : Int) (w : World) (hs : s.size ≤ maxLen) (hn : n ≤ 1048576) (hsz : size ≤ 5) (hlen : s.size = n * size) (hm : ∀ i, i < n → (numL s.data.toList (i * size) size : Int) < m) :
    Calls Tryz.prog 98 #[.string s, .int .i64 n, .int .i64 size, .int .i64 m] w fun e w' => ∃ v, e = .returned (.tuple #[v, .bool true]) ∧ OwnI w' w.heap.size v (numsL s.data.toList size n) ∧ Up w w' := by
  have hM : (n : Int) * (size : Int) ≤ 1048576 * 5 := Int.mul_le_mul (by omega) (by omega) (by omega) (by omega)
  have hM0 : 0 ≤ (n : Int) * (size : Int) := Int.mul_nonneg (by omega) (by omega)
  have hl2 : ((s.size : Int) != (n : Int) * (size : Int)) = false := by rw [hlen]; simp
  have HM : Hid _ := hm
  have HS : Hid _ := hlen
  clear hm hlen
  go_enter Tryz.func98, Tryz.ntmps98
  go_wp2
  go_loopw [10, 11] (fun v j wr => ∃ k : Nat, k ≤ n ∧ j = .int .i64 (k : Int) ∧ OwnI wr w.heap.size v (numsL s.data.toList size k) ∧ Up w wr) (fun _ j _ => n - (intOf j).toNat)
  case atStart => exact ⟨0, Nat.zero_le _, rfl, World.ownsRow_nil _ _ _ _, Up.refl _⟩
  case round =>
    obtain ⟨k, hk, rfl, hown, hu⟩ := hrel
    by_cases hlt : k < n
    · have hlt2 := HM.out k hlt
      have hM1 : (k : Int) * (size : Int) ≤ 1048576 * 5 := Int.mul_le_mul (by omega) (by omega) (by omega) (by omega)
      have hM2 : 0 ≤ (k : Int) * (size : Int) := Int.mul_nonneg (by omega) (by omega)
      go_wp2_with fail
      refine (Number_calls _ _ _ _ hs (by omega) (by omega) (by omega)).mono ?_
      rintro e w' ⟨rfl, rfl⟩
      rw [show ((k : Int) * (size : Int)).toNat = k * size from by rw [← Int.natCast_mul, Int.toNat_natCast]]
      go_wp2_with (at_builtin; refine append_int _ _ rfl _ _ rfl _ _ _ rfl hown rfl (by rw [numsL_length]; omega) hu.size ?_)
      intro v1 w1 hown1 hg1 hb1 _
      clear hown
      go_wp2
      go_roundw
      case rel => exact ⟨k + 1, by omega, by go_num, hown1, Below.trans hu hb1⟩
      case measure => simp [intOf]; omega
    · obtain rfl : k = n := by omega
      go_wp2
      go_ret2
      exact ⟨_, rfl, hown, hu⟩

/-- is the text n numbers of so many bytes, each below m, and nothing else? -/
def okL (l : List UInt8) (n size : Nat) (m : Int) : Bool := decide (l.length = n * size) && (List.range n).all fun i => decide ((numL l (i * size) size : Int) < m)

theorem okL_iff (l : List UInt8) (n size : Nat) (m : Int) : okL l n size m = true ↔ l.length = n * size ∧ ∀ i, i < n → (numL l (i * size) size : Int) < m := by
  unfold okL
  simp

theorem List_ok (s : ByteArray) (n size : Nat) (m : Int) (w : World) (hs : s.size ≤ maxLen) (hn : n ≤ 1048576) (hsz : size ≤ 5) (hok : okL s.data.toList n size m = true) :
    Calls Tryz.prog 98 #[.string s, .int .i64 n, .int .i64 size, .int .i64 m] w fun e w' => ∃ v, e = .returned (.tuple #[v, .bool true]) ∧ OwnI w' w.heap.size v (numsL s.data.toList size n) ∧ Up w w' := by
  obtain ⟨h1, h2⟩ := (okL_iff _ _ _ _).1 hok
  exact List_yes s n size m w hs hn hsz (by simpa using h1) h2

set_option maxHeartbeats 1000000 in
theorem List_no (s : ByteArray) (n size : Nat) (m : Int) (w : World) (hs : s.size ≤ maxLen) (hn : n ≤ 1048576) (hsz : size ≤ 5) (hok : okL s.data.toList n size m = false) :
    Calls Tryz.prog 98 #[.string s, .int .i64 n, .int .i64 size, .int .i64 m] w fun e w' => e = .returned (.tuple #[.slice none 0 0, .bool false]) ∧ Up w w' := by
  have hM : (n : Int) * (size : Int) ≤ 1048576 * 5 := Int.mul_le_mul (by omega) (by omega) (by omega) (by omega)
  have hM0 : 0 ≤ (n : Int) * (size : Int) := Int.mul_nonneg (by omega) (by omega)
  by_cases hlen : s.size = n * size
  · have hl2 : ((s.size : Int) != (n : Int) * (size : Int)) = false := by rw [hlen]; simp
    have HM : Hid (¬ ∀ i, i < n → (numL s.data.toList (i * size) size : Int) < m) := by
      intro c
      rw [(okL_iff _ _ _ _).2 ⟨by simpa using hlen, c⟩] at hok
      exact absurd hok (by decide)
    clear hlen hok
    go_enter Tryz.func98, Tryz.ntmps98
    go_wp2
    go_loopw [10, 11] (fun v j wr => ∃ k : Nat, k ≤ n ∧ j = .int .i64 (k : Int) ∧ OwnI wr w.heap.size v (numsL s.data.toList size k) ∧ Up w wr ∧ Hid (∀ i, i < k → (numL s.data.toList (i * size) size : Int) < m)) (fun _ j _ => n - (intOf j).toNat)
    case atStart => exact ⟨0, Nat.zero_le _, rfl, World.ownsRow_nil _ _ _ _, Up.refl _, fun i hi => by omega⟩
    case round =>
      obtain ⟨k, hk, rfl, hown, hu, hall⟩ := hrel
      have hlt : k < n := by
        rcases Nat.lt_or_ge k n with h | h
        · exact h
        · exact absurd (fun i hi => hall.out i (by omega)) HM.out
      have hM1 : (k : Int) * (size : Int) ≤ 1048576 * 5 := Int.mul_le_mul (by omega) (by omega) (by omega) (by omega)
      have hM2 : 0 ≤ (k : Int) * (size : Int) := Int.mul_nonneg (by omega) (by omega)
      by_cases hlt2 : (numL s.data.toList (k * size) size : Int) < m
      · go_wp2_with fail
        refine (Number_calls _ _ _ _ hs (by omega) (by omega) (by omega)).mono ?_
        rintro e w' ⟨rfl, rfl⟩
        rw [show ((k : Int) * (size : Int)).toNat = k * size from by rw [← Int.natCast_mul, Int.toNat_natCast]]
        go_wp2_with (at_builtin; refine append_int _ _ rfl _ _ rfl _ _ _ rfl hown rfl (by rw [numsL_length]; omega) hu.size ?_)
        intro v1 w1 hown1 hg1 hb1 _
        clear hown
        go_wp2
        go_roundw
        case rel => exact ⟨k + 1, by omega, by go_num, hown1, Below.trans hu hb1, fun i hi => by
          by_cases e : i = k
          · subst e; exact hlt2
          · exact hall.out i (by omega)⟩
        case measure => simp [intOf]; omega
      · go_wp2_with fail
        refine (Number_calls _ _ _ _ hs (by omega) (by omega) (by omega)).mono ?_
        rintro e w' ⟨rfl, rfl⟩
        rw [show ((k : Int) * (size : Int)).toNat = k * size from by rw [← Int.natCast_mul, Int.toNat_natCast]]
        go_wp2_with fail
        go_ret2
        exact ⟨rfl, hu⟩
  · have hl2 : ((s.size : Int) != (n : Int) * (size : Int)) = true := by
      rw [bne_iff_ne, ← Int.natCast_mul]
      omega
    go_enter Tryz.func98, Tryz.ntmps98
    go_wp2
    go_ret2
    exact ⟨rfl, Up.refl _⟩

set_option maxHeartbeats 400000 in
theorem Values_ok (n : Nat) (t q b : Int) (s : ByteArray) (w : World) (hs : s.size ≤ maxLen) (hn : n ≤ 16) (hok : okL s.data.toList n 2 t = true) :
    Calls Tryz.prog 43 #[.agg #[.int .i64 n, .int .i64 t, .int .i64 q, .int .i64 b], .string s] w fun e w' => ∃ v, e = .returned (.tuple #[v, .bool true]) ∧ OwnI w' w.heap.size v (numsL s.data.toList 2 n) ∧ Up w w' := by
  go_enter Tryz.func43, Tryz.ntmps43
  go_wp2_with fail
  refine (List_ok s n 2 t _ hs (by omega) (by omega) hok).mono ?_
  rintro e w' ⟨v, rfl, hown, hu⟩
  go_wp2_with fail
  go_ret2
  exact ⟨v, rfl, hown.base (by simp), ((Up.refl _).alloc _).trans hu⟩

set_option maxHeartbeats 400000 in
theorem Values_no (n : Nat) (t q b : Int) (s : ByteArray) (w : World) (hs : s.size ≤ maxLen) (hn : n ≤ 16) (hok : okL s.data.toList n 2 t = false) :
    Calls Tryz.prog 43 #[.agg #[.int .i64 n, .int .i64 t, .int .i64 q, .int .i64 b], .string s] w fun e w' => e = .returned (.tuple #[.slice none 0 0, .bool false]) ∧ Up w w' := by
  go_enter Tryz.func43, Tryz.ntmps43
  go_wp2_with fail
  refine (List_no s n 2 t _ hs (by omega) (by omega) hok).mono ?_
  rintro e w' ⟨rfl, hu⟩
  go_wp2_with fail
  go_ret2
  exact ⟨rfl, ((Up.refl _).alloc _).trans hu⟩

end Go.Proofs.YtcjhgbljhpflfabGreat

namespace Go.Proofs.YtcjhgbljhpflfabGreat
open Go.RowKit
set_option linter.unusedVariables false
attribute [local go_sem ↓] Go.wp_at_zero Go.wp_at_succ

/-- a number as n bytes -/
def textL (v : Nat) : Nat → List UInt8
  | 0 => []
  | n + 1 => textL (v / 256) n ++ [UInt8.ofNat (v % 256)]

theorem textL_length (v n : Nat) : (textL v n).length = n := by
  induction n generalizing v with
  | zero => rfl
  | succ n ih => simp [textL, ih]

set_option maxHeartbeats 1000000 in
theorem Text_zero (v : Int) (w : World) :
    Calls Tryz.prog 105 #[.int .i64 v, .int .i64 0] w fun e w' => e = .returned (.string ⟨#[]⟩) ∧ Up w w' := by
  go_enter Tryz.func105, Tryz.ntmps105
  go_wp2
  go_ret
  exact ⟨rfl, Up.refl _⟩

theorem conv_one (x : Int) (h0 : 0 ≤ x) (h1 : x ≤ 255) (W : World) (g : Nat) (h : W.cell? ⟨g, 0, none⟩ = some (.int .u8 x)) :
    (convert 127 9 (.slice (some ⟨g, 0, none⟩) 1 1)).run Tryz.prog W = .ok (.string ⟨#[UInt8.ofNat x.toNat]⟩) W := by
  have e : ((UInt8.ofNat x.toNat).toNat : Int) = x := by
    have : x.toNat % 256 = x.toNat := by omega
    simp [this]
    omega
  refine run_convert_bytes_back (P := Tryz.prog) W 127 9 5 ⟨g, 0, none⟩ 1 [UInt8.ofNat x.toNat] Tryz.underlying127 Tryz.underlying5 Tryz.underlying9 ?_
  intro j hj
  simp at hj
  subst hj
  simp only [List.getElem_cons_zero, e]
  simpa [Addr.add] using h

theorem add_text (v : Int) (h0 : 0 ≤ v) (n : Nat) (hn : n ≤ 8) (W : World) :
    (Op.stringOp .add ⟨(textL (v / 256).toNat n).toArray⟩ ⟨#[UInt8.ofNat (v % 256).toNat]⟩).run Tryz.prog W = .ok (.string ⟨(textL v.toNat (n + 1)).toArray⟩) W := by
  have h := run_string_add_lists (P := Tryz.prog) W (textL (v / 256).toNat n) [UInt8.ofNat (v % 256).toNat] (by rw [textL_length]; omega) (by simp)
  rw [h]
  have e1 : (v / 256).toNat = v.toNat / 256 := by omega
  have e2 : (v % 256).toNat = v.toNat % 256 := by omega
  rw [e1, e2]
  rfl

set_option maxHeartbeats 1000000 in
theorem Text_calls (n : Nat) (hn : n ≤ 8) : ∀ (v y : Int) (w : World), 0 ≤ v → v ≤ 4611686018427387904 → y = n →
    Calls Tryz.prog 105 #[.int .i64 v, .int .i64 y] w fun e w' => e = .returned (.string ⟨(textL v.toNat n).toArray⟩) ∧ Up w w' := by
  induction n with
  | zero => exact fun v y w _ _ hy => by subst hy; exact Text_zero v w
  | succ n ih =>
    intro v y w h0 hv hy
    have ih := ih (by omega)
    have H : Hid _ := ih
    clear ih
    have e1 : IntKind.i64.wrap (y - 1) = y - 1 := by rw [IntWalk.i64_in _ (by omega)]
    have e2 : IntKind.i64.wrap (v.tdiv 256) = v / 256 := IntWalk.i64_quo _ _ (by omega)
    have e3 : v.tmod 256 = v % 256 := Int.tmod_eq_emod_of_nonneg h0
    have e4 : IntKind.u8.wrap (v % 256) = v % 256 := by rw [IntKind.wrap_u8]; omega
    have h3 : decide (y ≤ 0) = false := by simp; omega
    have HY : Hid _ := hy
    have hadd := add_text v h0 n (by omega)
    have hconv := conv_one (v % 256) (by omega) (by omega)
    have hy1 : 1 ≤ y := by omega
    have hy2 : y ≤ 8 := by omega
    clear hy
    go_enter Tryz.func105, Tryz.ntmps105
    go_wp2_with fail
    go_region_with ((go_at_call 105; refine (H.out _ _ _ (by omega) (by omega) (by have := HY.out; omega)).mono ?_; rintro e w' ⟨rfl, hu⟩; obtain ⟨hc, hf⟩ := bcell hu))
    all_goals go_wp2
    all_goals go_ret
    all_goals first
      | exact ⟨rfl, Up.alloc (Up.trans (Up.drew (Up.refl _)) (by assumption)) _⟩
      | exact ⟨rfl, Up.trans (Up.drew (Up.alloc (Up.refl _) _)) (by assumption)⟩
      | exact ⟨rfl, Up.trans (Up.alloc (Up.drew (Up.refl _)) _) (by assumption)⟩

/-- block g holds the numbers xs, from its first cell on -/
def IsI (w : World) (g : Nat) (xs : List Int) : Prop := g < w.heap.size ∧ ∀ i, i < xs.length → w.cell? ⟨g, i, none⟩ = some (.int .i64 (xs.getD i 0))

theorem IsI.up {w w' : World} {g : Nat} {xs : List Int} (h : IsI w g xs) (hu : Up w w') : IsI w' g xs :=
  ⟨Nat.lt_of_lt_of_le h.1 hu.size, fun i hi => (hu.cell (p := ⟨g, i, none⟩) h.1).trans (h.2 i hi)⟩

theorem OwnI.is {w : World} {base : Nat} {v : Value} {xs : List Int} (h : OwnI w base v xs) (hx : xs ≠ []) :
    ∃ g cap, v = .slice (some ⟨g, 0, none⟩) xs.length cap ∧ base ≤ g ∧ IsI w g xs := by
  have h' := h
  rcases h.2 with ⟨_, h2⟩ | ⟨g, cap, cur, rfl, h4, h5, _⟩
  · exact absurd (List.eq_nil_of_length_eq_zero h2) hx
  · refine ⟨g, cap, rfl, h4, (Array.getElem?_eq_some_iff.1 h5).1, fun i hi => ?_⟩
    rw [World.ownsRow.cellAt h' i (by omega), List.getElem?_map, List.getD_eq_getElem?_getD, List.getElem?_eq_getElem hi]
    rfl

/-- numbers as n bytes each -/
def textsL (n : Nat) : List Int → List UInt8
  | [] => []
  | x :: xs => textL x.toNat n ++ textsL n xs

theorem textsL_snoc (n : Nat) (xs : List Int) (x : Int) : textsL n (xs ++ [x]) = textsL n xs ++ textL x.toNat n := by
  induction xs with
  | nil => simp [textsL]
  | cons y xs ih => simp [textsL, ih]

theorem textsL_length (n : Nat) (xs : List Int) : (textsL n xs).length = n * xs.length := by
  induction xs with
  | nil => rfl
  | cons y xs ih => simp [textsL, ih, textL_length, Nat.mul_add]; omega

theorem take_snocI (xs : List Int) (k : Nat) (h : k < xs.length) : xs.take (k + 1) = xs.take k ++ [xs.getD k 0] := by
  rw [List.take_succ_eq_append_getElem h, List.getD_eq_getElem?_getD, List.getElem?_eq_getElem h]; rfl

theorem add_texts (xs : List Int) (k n : Nat) (hk : k < xs.length) (hl : xs.length ≤ 1000) (hn : n ≤ 8) (W : World) :
    (Op.stringOp .add ⟨(textsL n (xs.take k)).toArray⟩ ⟨(textL (xs.getD k 0).toNat n).toArray⟩).run Tryz.prog W = .ok (.string ⟨(textsL n (xs.take (k + 1))).toArray⟩) W := by
  have h1 : n * (xs.take k).length ≤ 8 * 1000 := Nat.mul_le_mul hn (by simp; omega)
  rw [run_string_add_lists (P := Tryz.prog) W _ _ (by rw [textsL_length]; omega) (by rw [textL_length]; omega), take_snocI xs k hk, textsL_snoc]

set_option maxHeartbeats 1000000 in
theorem Texts_calls (xs : List Int) (g cap n : Nat) (w : World) (hn : n ≤ 8) (hl : xs.length ≤ 1000) (hx : ∀ i, i < xs.length → 0 ≤ xs.getD i 0 ∧ xs.getD i 0 ≤ 4611686018427387904) (hi : IsI w g xs) :
    Calls Tryz.prog 50 #[.slice (some ⟨g, 0, none⟩) xs.length cap, .int .i64 n] w fun e w' => e = .returned (.string ⟨(textsL n xs).toArray⟩) ∧ Up w w' := by
  have HX : Hid _ := hx
  clear hx
  go_enter Tryz.func50, Tryz.ntmps50
  go_wp2
  go_loopw [5, 6] (fun s j wr => ∃ k : Nat, k ≤ xs.length ∧ j = .int .i64 (k : Int) ∧ s = .string ⟨(textsL n (xs.take k)).toArray⟩ ∧ Up w wr) (fun _ j _ => xs.length - (intOf j).toNat)
  case atStart => exact ⟨0, Nat.zero_le _, rfl, rfl, Up.refl _⟩
  case round =>
    obtain ⟨k, hk, rfl, rfl, hu⟩ := hrel
    by_cases hlt : k < xs.length
    · have hc := (hi.up hu).2 k hlt
      have hb := HX.out k hlt
      have hadd := add_texts xs k n hlt hl hn
      generalize xs.getD k 0 = x at hc hb hadd
      have hx1 := hb.1
      have hx2 := hb.2
      clear hb
      go_wp2_with fail
      refine (Text_calls n hn _ _ _ hx1 hx2 rfl).mono ?_
      rintro e w' ⟨rfl, hu2⟩
      go_wp2_with fail
      go_roundw
      case rel => exact ⟨k + 1, by omega, by go_num, rfl, hu.trans hu2⟩
      case measure => simp [intOf]; omega
    · obtain rfl : k = xs.length := by omega
      go_wp2
      go_ret
      exact ⟨by first | rfl | (rw [List.take_length]; rfl), hu⟩

end Go.Proofs.YtcjhgbljhpflfabGreat
