/-
  Walks: the program's reading of numbers.
  Walks: bytes appended; the program's writing of numbers.
-/
import Derived.Test.YtcjhgbljhpflfabGreatWalksY
namespace Go.Proofs.YtcjhgbljhpflfabGreat
open Go.RowKit
set_option linter.unusedVariables false
set_option maxRecDepth 100000

theorem or_byteI (v : Int) (h0 : 0 ≤ v) (h1 : v < 1099511627776) (u : UInt8) : bits .or .i64 (v * 256) (u.toNat : Int) = v * 256 + (u.toNat : Int) := by
  obtain ⟨m, rfl⟩ := Int.eq_ofNat_of_zero_le h0
  have hu := u.toNat_lt
  show IntKind.i64.wrap ((BitVec.ofInt 64 ((m : Int) * 256) ||| BitVec.ofInt 64 (u.toNat : Int)).toNat : Nat) = _
  have h2 : ((BitVec.ofInt 64 ((m : Int) * 256) ||| BitVec.ofInt 64 (u.toNat : Int)).toNat : Nat) = m * 256 + u.toNat := by
    rw [BitVec.toNat_or]
    have e1 : (BitVec.ofInt 64 ((m : Int) * 256)).toNat = m * 256 := by
      rw [BitVec.toNat_ofInt]; omega
    have e2 : (BitVec.ofInt 64 (u.toNat : Int)).toNat = u.toNat := by
      rw [BitVec.toNat_ofInt]; omega
    rw [e1, e2]
    have := Nat.two_pow_add_eq_or_of_lt (i := 8) (b := u.toNat) (by omega) m
    rw [show (2 : Nat) ^ 8 = 256 from by decide] at this
    rw [Nat.mul_comm] at this
    rw [← this]
  rw [h2, IntWalk.i64_in _ (by omega)]
  simp

theorem wrap_byte (u : UInt8) : IntKind.i64.wrap (u.toNat : Int) = (u.toNat : Int) := IntWalk.i64_in _ (by have := u.toNat_lt; omega)

set_option maxHeartbeats 1000000 in
theorem textNumber_calls (s : ByteArray) (w : World) (hs : s.size ≤ 5) :
    Calls Tryz.prog 130 #[.string s] w fun e w' => e = .returned (.int .i64 (numL s.data.toList 0 s.size : Nat)) ∧ w' = w := by
  go_enter Tryz.func130, Tryz.ntmps130
  go_wp2
  go_loop [3, 4] (fun v j => ∃ k : Nat, k ≤ s.size ∧ v = .int .i64 (numL s.data.toList 0 k : Nat) ∧ j = .int .i64 (k : Int)) (fun _ j => s.size - (intOf j).toNat)
  case atStart => exact ⟨0, Nat.zero_le _, rfl, rfl⟩
  case round =>
    obtain ⟨k, hk, rfl, rfl⟩ := hrel
    by_cases hlt : k < s.size
    · have H : Hid (numL s.data.toList 0 (k + 1) = 256 * numL s.data.toList 0 k + s[k].toNat) := by
        show 256 * numL s.data.toList 0 k + byteL s.data.toList (0 + k) = _
        rw [Nat.zero_add, byteL_in s k hlt]
      have hV := numL_le5 s.data.toList 0 k (by omega)
      generalize numL s.data.toList 0 k = V at hV H
      have e1 : IntKind.i64.wrap ((V : Int) * 256) = (V : Int) * 256 := IntWalk.i64_in _ (by omega)
      have e2 := wrap_byte
      have e4 := or_byteI (V : Int) (by omega) (by omega)
      go_wp2
      go_round
      case rel => exact ⟨k + 1, by omega, by rw [H.out]; go_num, by go_num⟩
      case measure => simp [intOf]; omega
    · obtain rfl : k = s.size := by omega
      go_wp2
      go_ret
      exact ⟨rfl, rfl⟩

/-- the number of size bytes at i -/
theorem numL_ext (s : ByteArray) (i size : Nat) (h : i + size ≤ s.size) : numL (s.extract i (i + size)).data.toList 0 (s.extract i (i + size)).size = numL s.data.toList i size := by
  rw [ext_list s i (i + size) h, numL_drop, Nat.add_zero]
  have : (s.extract i (i + size)).size = size := by simp; omega
  rw [this, numL_take _ _ _ _ (Nat.le_refl _)]

set_option maxHeartbeats 2000000 in
theorem Numbers_ok (s : ByteArray) (n size : Nat) (m : Int) (w : World) (hs : s.size ≤ maxLen) (hn : n ≤ 1048576) (hsz : 1 ≤ size) (hsz2 : size ≤ 5) (hok : okL s.data.toList n size m = true) :
    Calls Tryz.prog 89 #[.string s, .int .i64 size, .int .i64 n, .int .i64 m] w fun e w' => ∃ v, e = .returned (.tuple #[v, .bool true]) ∧ OwnI w' w.heap.size v (numsL s.data.toList size n) ∧ Up w w' := by
  obtain ⟨h1, h2⟩ := (okL_iff _ _ _ _).1 hok
  have hlen : s.size = n * size := by simpa using h1
  have hb3 : s.size ≤ 5242880 := by rw [hlen]; exact Nat.mul_le_mul hn hsz2
  have HM : Hid _ := h2
  have hd0 : ((size : Int) == 0) = false := beq_eq_false_iff_ne.2 (by omega)
  have hd1 : ¬ (size : Int) = 0 := by omega
  have hd2 : ¬ size = 0 := by omega
  have hl1 : (s.size : Int).tmod (size : Int) = 0 := by
    rw [Int.tmod_eq_emod_of_nonneg (by omega), hlen, Int.natCast_mul]; simp
  have hl2 : IntKind.i64.wrap ((s.size : Int).tdiv (size : Int)) = (n : Int) := by
    rw [Int.tdiv_eq_ediv_of_nonneg (by omega), hlen, Int.natCast_mul, Int.mul_ediv_cancel _ (by omega)]
    exact IntWalk.i64_in _ (by omega)
  have hl3 : (s.size : Int) % (size : Int) = 0 := by rw [hlen, Int.natCast_mul]; simp
  have hl4 : (s.size : Int) / (size : Int) = (n : Int) := by rw [hlen, Int.natCast_mul, Int.mul_ediv_cancel _ (by omega)]
  have HL : Hid _ := hlen
  clear h1 h2 hok hlen
  go_enter Tryz.func89, Tryz.ntmps89
  go_wp2
  go_loopw [10, 11] (fun v j wr => ∃ k i : Nat, k ≤ n ∧ Hid (i = k * size) ∧ i ≤ s.size ∧ j = .int .i64 (i : Int) ∧ OwnI wr w.heap.size v (numsL s.data.toList size k) ∧ Up w wr) (fun _ j _ => s.size - (intOf j).toNat)
  case atStart => exact ⟨0, 0, Nat.zero_le _, (Nat.zero_mul _).symm, Nat.zero_le _, rfl, World.ownsRow_nil _ _ _ _, Up.refl _⟩
  case round =>
    obtain ⟨k, i, hk, HI, his, rfl, hown, hu⟩ := hrel
    by_cases hlt : k < n
    · have hlt2 := HM.out k hlt
      have hi2 : i + size ≤ s.size := by
        rw [HL.out, HI.out, ← Nat.succ_mul]
        exact Nat.mul_le_mul_right _ hlt
      have HN : Hid _ := numL_ext s i size hi2
      have HS : Hid (numsL s.data.toList size (k + 1) = numsL s.data.toList size k ++ [(numL s.data.toList i size : Int)]) := by rw [HI.out]; rfl
      rw [← HI.out] at hlt2
      have hb0 : (i : Int) ≤ (s.size : Int) - (size : Int) := by omega
      have hx : (s.extract i (i + size)).size ≤ 5 := by simp; omega
      have hc1 : (0 : Int) ≤ (i : Int) := by omega
      have hc2 : (i : Int) ≤ (i : Int) + (size : Int) := by omega
      have hc3 : (i : Int) + (size : Int) ≤ (s.size : Int) := by omega
      have ec : ((i : Int) + (size : Int)).toNat = i + size := by omega
      go_wp2_with fail
      refine (textNumber_calls (s.extract i (i + size)) _ hx).mono ?_
      rintro e w' ⟨rfl, rfl⟩
      rw [HN.out]
      generalize numL s.data.toList i size = V at hlt2 HS
      go_wp2_with (at_builtin; refine append_int _ _ rfl _ _ rfl _ _ _ rfl hown rfl (by rw [numsL_length]; omega) hu.size ?_)
      intro v1 w1 hown1 hg1 hb1 _
      clear hown
      go_wp2
      go_roundw
      case rel => exact ⟨k + 1, i + size, by omega, (by rw [HI.out]; exact (Nat.succ_mul _ _).symm), hi2, by go_num, by rw [HS.out]; exact hown1, Below.trans hu hb1⟩
      case measure => simp [intOf]; omega
    · obtain rfl : k = n := by omega
      have e : i = s.size := by rw [HI.out, HL.out]
      subst e
      have hb1 : ¬ (s.size : Int) ≤ (s.size : Int) - (size : Int) := by omega
      go_wp2
      go_ret2
      exact ⟨_, rfl, hown, hu⟩

set_option maxHeartbeats 2000000 in
theorem Numbers_no (s : ByteArray) (n size : Nat) (m : Int) (w : World) (hs : s.size ≤ maxLen) (hn : n ≤ 1048576) (hsz : 1 ≤ size) (hsz2 : size ≤ 5) (hok : okL s.data.toList n size m = false) :
    Calls Tryz.prog 89 #[.string s, .int .i64 size, .int .i64 n, .int .i64 m] w fun e w' => e = .returned (.tuple #[.slice none 0 0, .bool false]) ∧ Up w w' := by
  have hs2 : (s.size : Int) ≤ 9223372036854775807 := by unfold maxLen at hs; omega
  have hd0 : ((size : Int) == 0) = false := beq_eq_false_iff_ne.2 (by omega)
  have hd1 : ¬ (size : Int) = 0 := by omega
  have hd2 : ¬ size = 0 := by omega
  have hq0 : (s.size : Int) / (size : Int) ≤ s.size := Int.ediv_le_self _ (by omega)
  have hq1 : 0 ≤ (s.size : Int) / (size : Int) := Int.ediv_nonneg (by omega) (by omega)
  by_cases hlen : s.size = n * size
  · have HM : Hid (¬ ∀ i, i < n → (numL s.data.toList (i * size) size : Int) < m) := by
      intro c
      rw [(okL_iff _ _ _ _).2 ⟨by simpa using hlen, c⟩] at hok
      exact absurd hok (by decide)
    have hb3 : s.size ≤ 5242880 := by rw [hlen]; exact Nat.mul_le_mul hn hsz2
    have hl1 : (s.size : Int).tmod (size : Int) = 0 := by
      rw [Int.tmod_eq_emod_of_nonneg (by omega), hlen, Int.natCast_mul]; simp
    have hl2 : IntKind.i64.wrap ((s.size : Int).tdiv (size : Int)) = (n : Int) := by
      rw [Int.tdiv_eq_ediv_of_nonneg (by omega), hlen, Int.natCast_mul, Int.mul_ediv_cancel _ (by omega)]
      exact IntWalk.i64_in _ (by omega)
    have hl3 : (s.size : Int) % (size : Int) = 0 := by rw [hlen, Int.natCast_mul]; simp
    have hl4 : (s.size : Int) / (size : Int) = (n : Int) := by rw [hlen, Int.natCast_mul, Int.mul_ediv_cancel _ (by omega)]
    have HL : Hid _ := hlen
    clear hok hlen
    go_enter Tryz.func89, Tryz.ntmps89
    go_wp2
    go_loopw [10, 11] (fun v j wr => ∃ k i : Nat, k ≤ n ∧ Hid (i = k * size) ∧ i ≤ s.size ∧ j = .int .i64 (i : Int) ∧ OwnI wr w.heap.size v (numsL s.data.toList size k) ∧ Up w wr ∧ Hid (∀ i, i < k → (numL s.data.toList (i * size) size : Int) < m)) (fun _ j _ => s.size - (intOf j).toNat)
    case atStart => exact ⟨0, 0, Nat.zero_le _, (Nat.zero_mul _).symm, Nat.zero_le _, rfl, World.ownsRow_nil _ _ _ _, Up.refl _, fun i hi => by omega⟩
    case round =>
      obtain ⟨k, i, hk, HI, his, rfl, hown, hu, hall⟩ := hrel
      have hlt : k < n := by
        rcases Nat.lt_or_ge k n with h | h
        · exact h
        · exact absurd (fun i hi => hall.out i (by omega)) HM.out
      have hi2 : i + size ≤ s.size := by
        rw [HL.out, HI.out, ← Nat.succ_mul]
        exact Nat.mul_le_mul_right _ hlt
      have HN : Hid _ := numL_ext s i size hi2
      have HS : Hid (numsL s.data.toList size (k + 1) = numsL s.data.toList size k ++ [(numL s.data.toList i size : Int)]) := by rw [HI.out]; rfl
      have HW : Hid ((numL s.data.toList i size : Int) < m → (numL s.data.toList (k * size) size : Int) < m) := by intro h; rw [← HI.out]; exact h
      have hb0 : (i : Int) ≤ (s.size : Int) - (size : Int) := by omega
      have hx : (s.extract i (i + size)).size ≤ 5 := by simp; omega
      have hc1 : (0 : Int) ≤ (i : Int) := by omega
      have hc2 : (i : Int) ≤ (i : Int) + (size : Int) := by omega
      have hc3 : (i : Int) + (size : Int) ≤ (s.size : Int) := by omega
      have ec : ((i : Int) + (size : Int)).toNat = i + size := by omega
      go_wp2_with fail
      refine (textNumber_calls (s.extract i (i + size)) _ hx).mono ?_
      rintro e w' ⟨rfl, rfl⟩
      rw [HN.out]
      generalize numL s.data.toList i size = V at HS HW
      by_cases hlt2 : (V : Int) < m
      · go_wp2_with (at_builtin; refine append_int _ _ rfl _ _ rfl _ _ _ rfl hown rfl (by rw [numsL_length]; omega) hu.size ?_)
        intro v1 w1 hown1 hg1 hb1 _
        clear hown
        go_wp2
        go_roundw
        case rel => exact ⟨k + 1, i + size, by omega, (by rw [HI.out]; exact (Nat.succ_mul _ _).symm), hi2, by go_num, by rw [HS.out]; exact hown1, Below.trans hu hb1, fun i hi => by
          by_cases e : i = k
          · subst e; exact HW.out hlt2
          · exact hall.out i (by omega)⟩
        case measure => simp [intOf]; omega
      · go_wp2_with fail
        go_ret2
        exact ⟨rfl, hu⟩
  · clear hok
    by_cases hev : (s.size : Int) % (size : Int) = 0
    · have hl1 : (s.size : Int).tmod (size : Int) = 0 := by rw [Int.tmod_eq_emod_of_nonneg (by omega)]; exact hev
      have hl2 : IntKind.i64.wrap ((s.size : Int).tdiv (size : Int)) = (s.size : Int) / (size : Int) := by
        rw [Int.tdiv_eq_ediv_of_nonneg (by omega)]
        exact IntWalk.i64_in _ (by omega)
      have hl4 : ((s.size : Int) / (size : Int) != (n : Int)) = true := by
        rw [bne_iff_ne]
        intro c
        have h := Int.mul_ediv_add_emod (s.size : Int) (size : Int)
        rw [hev, c, Int.add_zero, ← Int.natCast_mul, Nat.mul_comm] at h
        omega
      clear hlen
      go_enter Tryz.func89, Tryz.ntmps89
      go_wp2
      go_ret2
      exact ⟨rfl, Up.refl _⟩
    · have hl0 : (s.size : Int).tmod (size : Int) = (s.size : Int) % (size : Int) := Int.tmod_eq_emod_of_nonneg (by omega)
      have hl1 : ((s.size : Int) % (size : Int) != 0) = true := by rw [bne_iff_ne]; exact hev
      clear hlen hev
      go_enter Tryz.func89, Tryz.ntmps89
      go_wp2
      go_ret2
      exact ⟨rfl, Up.refl _⟩

end Go.Proofs.YtcjhgbljhpflfabGreat

namespace Go.Proofs.YtcjhgbljhpflfabGreat
open Go.RowKit
set_option linter.unusedVariables false
set_option maxRecDepth 100000

theorem info_byte : (Tryz.prog.info? 5).map (fun i => (i.zero, i.size, i.bytes)) = some (some (.int .u8 0), 1, 1) := by kernel_rfl

/-- the slice v owns the bytes xs, in blocks from base on -/
abbrev OwnB (w : World) (base : Nat) (v : Value) (xs : List UInt8) : Prop := w.ownsRow base 5 1 v xs.length (xs.map fun b => Value.int .u8 (b.toNat : Int))

theorem OwnB.up {w w' : World} {base : Nat} {v : Value} {xs : List UInt8} (h : OwnB w base v xs) (hu : Up w w') : OwnB w' base v xs := by
  refine ⟨h.1, ?_⟩
  rcases h.2 with h2 | ⟨g, cap, cur, h3, h4, h5, h6⟩
  · exact Or.inl h2
  · exact Or.inr ⟨g, cap, cur, h3, h4, by rw [hu.block g (Array.getElem?_eq_some_iff.1 h5).1]; exact h5, h6⟩

theorem append_byte {ops : Array Oper} {rest : List Oper} {o : Oper} {a : Act} {Q : Exit → Act → World → Prop} (w : World) (y : Int) (hgd : o.guard = none) (s x : Operand)
    (ho : o.op = .call { callee := .builtin .append, args := #[s, x], argTypes := #[127, 127] })
    (base : Nat) (v : Value) (xs : List UInt8) (hs : a.eval s = v) (hown : OwnB w base v xs) (hx : a.eval x = .slice (some ⟨w.heap.size, 0, none⟩) 1 1)
    (hlen : xs.length ≤ 1099511627776) (hbase : base ≤ w.heap.size) (hy : 0 ≤ y ∧ y ≤ 255)
    (h : ∀ v' w', OwnB w' base v' (xs ++ [UInt8.ofNat y.toNat]) → Below base w w' → wpList Tryz.prog ops Q rest (a.put o.dst v') w') :
    wpList Tryz.prog ops Q (o :: rest) a (w.alloc (.cells #[.int .u8 y] 5)) := by
  obtain ⟨i0, hi, hz0, hz1, hz2⟩ := info_parts info_byte
  refine wpList_append_own_at _ hgd s x 127 ho base 5 i0 (.int .u8 0) 1 1 Tryz.underlying127 hi hz0 hz1 hz2 rfl (by decide) v xs.length (xs.map fun b => Value.int .u8 (b.toNat : Int)) hs (World.ownsRow.alloc hown _)
    ⟨w.heap.size, 0, none⟩ 1 1 [.int .u8 y] hx rfl ?_ ?_ ?_ ?_ ?_ ?_
  · intro j u hj
    match j, hj with
    | 0, hj => simp at hj; subst hj; simp [Addr.add]
  · intro u hu; simp at hu; subst hu; rfl
  · unfold maxLen; omega
  · omega
  · simp; omega
  · intro v' w' h1 h2 h3 h4
    have hg : w.grownBy w' v.ownBlock := ⟨h2.os, h2.tape, h2.output, Nat.le_trans (by simp) h2.size, fun k hk hne => (h2.block k (by simp; omega) hne).trans (heap_alloc_old w _ hk)⟩
    refine h v' w' ?_ ?_
    · have e : ((UInt8.ofNat y.toNat).toNat : Int) = y := by
        have : y.toNat % 256 = y.toNat := by omega
        simp [this]
        omega
      show World.ownsRow _ _ _ _ _ _ _
      rw [List.length_append, List.map_append, List.map_singleton, e]
      exact h1
    · exact (Below.refl _ _).grown hg hbase (fun k hk => (World.ownsRow.lt hown k hk).1)

/-- string(out), out the call's own -/
theorem conv_own (W : World) (base : Nat) (v : Value) (xs : List UInt8) (h : OwnB W base v xs) : (convert 127 9 v).run Tryz.prog W = .ok (.string ⟨xs.toArray⟩) W := by
  have h' := h
  rcases h.2 with ⟨rfl, h2⟩ | ⟨g, cap, cur, rfl, h4, h5, _⟩
  · have e := List.eq_nil_of_length_eq_zero h2
    subst e
    exact run_convert_bytes_nil W 127 5 Tryz.underlying127 Tryz.underlying5 0 0 9 Tryz.underlying9
  · refine run_convert_bytes_back (P := Tryz.prog) W 127 9 5 ⟨g, 0, none⟩ cap xs Tryz.underlying127 Tryz.underlying5 Tryz.underlying9 ?_
    intro j hj
    have e : (⟨g, 0, none⟩ : Addr).add j = ⟨g, j, none⟩ := by simp [Addr.add]; omega
    rw [e, World.ownsRow.cellAt h' j (by omega), List.getElem?_map, List.getElem?_eq_getElem hj]
    rfl

/-- the bytes of x from the greatest on: the next one -/
theorem textL_next (x i m : Nat) : textL (x / 256 ^ i) (m + 1) = textL (x / 256 ^ (i + 1)) m ++ [UInt8.ofNat (x / 256 ^ i % 256)] := by
  show textL (x / 256 ^ i / 256) m ++ [UInt8.ofNat (x / 256 ^ i % 256)] = _
  rw [Nat.div_div_eq_div_mul, Nat.pow_succ]

theorem shr_byte (x i : Nat) : IntKind.u8.wrap ((x : Int) / 2 ^ (8 * i)) = ((x / 256 ^ i % 256 : Nat) : Int) := by
  have e : (2 : Int) ^ (8 * i) = ((256 ^ i : Nat) : Int) := by
    rw [Int.natCast_pow, Int.pow_mul]
    rfl
  rw [e, ← Int.natCast_ediv]
  show ((x / 256 ^ i : Nat) : Int) % 256 = _
  omega

set_option maxHeartbeats 2000000 in
theorem Write_calls (xs : List Int) (g cap size : Nat) (w : World) (hsz : 1 ≤ size) (hsz2 : size ≤ 5) (hl : xs.length ≤ 1000) (hx : ∀ i, i < xs.length → 0 ≤ xs.getD i 0 ∧ xs.getD i 0 ≤ 4611686018427387904) (hi : IsI w g xs) :
    Calls Tryz.prog 123 #[.slice (some ⟨g, 0, none⟩) xs.length cap, .int .i64 size] w fun e w' => e = .returned (.string ⟨(textsL size xs).toArray⟩) ∧ Up w w' := by
  have HX : Hid _ := hx
  clear hx
  go_enter Tryz.func123, Tryz.ntmps123
  go_wp2
  go_loopw [5, 11] (fun v j wr => ∃ k : Nat, k ≤ xs.length ∧ j = .int .i64 (k : Int) ∧ OwnB wr w.heap.size v (textsL size (xs.take k)) ∧ Up w wr) (fun _ j _ => xs.length - (intOf j).toNat)
  case atStart => exact ⟨0, Nat.zero_le _, rfl, World.ownsRow_nil _ _ _ _, Up.refl _⟩
  case round =>
    obtain ⟨k, hk, rfl, hown, hu⟩ := hrel
    by_cases hlt : k < xs.length
    · have hc := (hi.up hu).2 k hlt
      have hb := HX.out k hlt
      have H2 : Hid _ := take_snocI xs k hlt
      have hlen : (textsL size (xs.take k)).length ≤ 5000 := by
        rw [textsL_length]
        have : (xs.take k).length ≤ 1000 := by simp; omega
        exact Nat.mul_le_mul hsz2 this
      obtain ⟨x, hx⟩ := Int.eq_ofNat_of_zero_le hb.1
      rw [hx] at hc hb H2
      have hx2 := hb.2
      have HF : Hid (textL (x / 256 ^ size) 0 = []) := rfl
      have HT : Hid (textsL size (xs.take k) = textsL size (xs.take k)) := rfl
      generalize hT : textsL size (xs.take k) = T at hown hlen
      replace HT : Hid (textsL size (xs.take k) = T) := hT
      clear hT
      clear hb
      go_wp2_with fail
      go_loopw [5, 8] (fun v j wx => ∃ d : Nat, d ≤ size ∧ j = .int .i64 ((d : Int) - 1) ∧ OwnB wx w.heap.size v (T ++ textL (x / 256 ^ d) (size - d)) ∧ Up w wx) (fun _ j _ => (intOf j + 1).toNat)
      case atStart => exact ⟨size, Nat.le_refl _, rfl, by rw [Nat.sub_self, HF.out, List.append_nil]; exact hown, hu⟩
      case round =>
        clear hown hu
        obtain ⟨d, hd, rfl, hown, hu⟩ := hrel
        match d, hd, hown with
        | 0, hd, hown =>
          rw [Nat.pow_zero, Nat.div_one, Nat.sub_zero] at hown
          go_wp2_with fail
          go_roundw
          case rel => exact ⟨k + 1, by omega, by go_num, by rw [H2.out, textsL_snoc, HT.out, Int.toNat_natCast]; exact hown, hu⟩
          case measure => simp [intOf]; omega
        | i + 1, hd, hown =>
          have e1 : ((i + 1 : Nat) : Int) - 1 = (i : Int) := by omega
          rw [e1]
          have hy := shr_byte x i
          have HY : Hid (UInt8.ofNat ((x : Int) / 256 ^ i % 256).toNat = UInt8.ofNat (x / 256 ^ i % 256)) := by
            rw [show (x : Int) / 256 ^ i % 256 = ((x / 256 ^ i % 256 : Nat) : Int) from by rw [Int.natCast_emod, Int.natCast_ediv, Int.natCast_pow]; rfl, Int.toNat_natCast]; exact rfl
          have hy1 : 0 ≤ (x : Int) / 256 ^ i % 256 := Int.emod_nonneg _ (by decide)
          have hy2 : (x : Int) / 256 ^ i % 256 ≤ 255 := by have := Int.emod_lt_of_pos ((x : Int) / 256 ^ i) (show (0 : Int) < 256 by decide); omega
          have HN : Hid _ := textL_next x i (size - (i + 1))
          have hl2 : (T ++ textL (x / 256 ^ (i + 1)) (size - (i + 1))).length ≤ 1099511627776 := by rw [List.length_append, textL_length]; omega
          go_wp2_with (at_builtin; refine append_byte _ _ rfl (.tmp 21) (.tmp 27) rfl _ _ _ rfl hown rfl hl2 hu.size ⟨hy1, hy2⟩ ?_)
          intro v1 w1 hown1 hb1
          clear hown hy hy1 hy2
          go_wp2_with fail
          go_roundw
          case rel => exact ⟨i, by omega, by go_num, by rw [show size - i = size - (i + 1) + 1 by omega, HN.out, ← HY.out]; exact hown1, Below.trans hu hb1⟩
          case measure => simp [intOf]
    · obtain rfl : k = xs.length := by omega
      rw [List.take_length] at hown
      have hconv := conv_own wr _ _ _ hown
      go_wp2
      go_ret
      exact ⟨rfl, hu⟩

end Go.Proofs.YtcjhgbljhpflfabGreat
