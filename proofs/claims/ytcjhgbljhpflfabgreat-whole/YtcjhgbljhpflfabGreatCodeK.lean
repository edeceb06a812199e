/-
  Walks: the program's draws and its reading of keys.
  Walks: the program's reading of keys.
  Walks: the program's Key.
-/
import Derived.Test.YtcjhgbljhpflfabGreatCodeT
import Derived.Test.YtcjhgbljhpflfabGreatCodeP
import Derived.Test.YtcjhgbljhpflfabGreatWalksY
namespace Go.Proofs.YtcjhgbljhpflfabGreat
open Go.RowKit
set_option linter.unusedVariables false
set_option maxRecDepth 100000

theorem or_natI (v : Int) (h0 : 0 ≤ v) (h1 : v < 1099511627776) (u : Nat) (hu : u < 256) : bits .or .i64 (v * 256) (u : Int) = v * 256 + (u : Int) := by
  have h := or_byteI v h0 h1 (UInt8.ofNat u)
  have e : (UInt8.ofNat u).toNat = u := by simp; omega
  rw [e] at h
  exact h

set_option maxHeartbeats 400000 in
theorem drawByte_calls (s : ByteArray) (i : Int) (w : World) (hs : s.size ≤ maxLen) (h0 : 0 ≤ i) :
    Calls Tryz.prog 147 #[.string s, .int .i64 i] w fun e w' => e = .returned (.int .i64 (byteL s.data.toList i.toNat)) ∧ w' = w := by
  unfold maxLen at hs
  obtain ⟨k, rfl⟩ := Int.eq_ofNat_of_zero_le h0
  rw [Int.toNat_natCast]
  by_cases hk : k < s.size
  · have H : Hid _ := byteL_in s k hk
    have hb := (s[k]).toNat_lt
    go_enter Tryz.func147, Tryz.ntmps147
    go_wp2
    go_ret
    exact ⟨ret_int (by rw [H.out]), rfl⟩
  · have H : Hid _ := byteL_out s.data.toList k (by simp; omega)
    go_enter Tryz.func147, Tryz.ntmps147
    go_wp2
    go_ret
    exact ⟨ret_int (by rw [H.out]; rfl), rfl⟩

set_option maxHeartbeats 1000000 in
theorem drawNumber_calls (s : ByteArray) (p n : Nat) (w : World) (hs : s.size ≤ maxLen) (hp : p ≤ 1048576) (hn : n ≤ 5) :
    Calls Tryz.prog 151 #[.string s, .int .i64 p, .int .i64 n] w fun e w' => e = .returned (.int .i64 (numL s.data.toList p n : Nat)) ∧ w' = w := by
  go_enter Tryz.func151, Tryz.ntmps151
  go_wp2
  go_loop [7, 8] (fun v j => ∃ k : Nat, k ≤ n ∧ v = .int .i64 (numL s.data.toList p k : Nat) ∧ j = .int .i64 (k : Int)) (fun _ j => n - (intOf j).toNat)
  case atStart => exact ⟨0, Nat.zero_le _, rfl, rfl⟩
  case round =>
    obtain ⟨k, hk, rfl, rfl⟩ := hrel
    by_cases hlt : k < n
    · have H : Hid (numL s.data.toList p (k + 1) = 256 * numL s.data.toList p k + byteL s.data.toList (p + k)) := rfl
      have hV := numL_le5 s.data.toList p k (by omega)
      have hB := byteL_lt s.data.toList (p + k)
      generalize numL s.data.toList p k = V at hV H
      have e1 : IntKind.i64.wrap ((V : Int) * 256) = (V : Int) * 256 := IntWalk.i64_in _ (by omega)
      go_wp2_with fail
      refine (drawByte_calls _ _ _ hs (by omega)).mono ?_
      rintro e w' ⟨rfl, rfl⟩
      rw [show ((p : Int) + (k : Int)).toNat = p + k from by omega]
      generalize byteL s.data.toList (p + k) = B at hB H
      have e4 := or_natI (V : Int) (by omega) (by omega) B hB
      go_wp2
      go_round
      case rel => exact ⟨k + 1, by omega, by rw [H.out]; go_num, by go_num⟩
      case measure => simp [intOf]; omega
    · obtain rfl : k = n := by omega
      go_wp2
      go_ret
      exact ⟨rfl, rfl⟩

set_option maxHeartbeats 2000000 in
theorem drawPair_calls (n wh at0 : Nat) (t q b : Int) (s : ByteArray) (w : World) (hs : s.size ≤ maxLen) (hn : n ≤ 16) (hq : 0 < q) (hq2 : q ≤ 1073741823) (hat : 5 * n * wh = at0) (hat2 : at0 ≤ 65536) :
    Calls Tryz.prog 148 #[.agg #[.int .i64 n, .int .i64 t, .int .i64 q, .int .i64 b], .string s, .int .i64 wh] w fun e w' => ∃ va ve, e = .returned (.tuple #[va, ve]) ∧ OwnI w' w.heap.size va (pairA s.data.toList q n at0) ∧ OwnI w' w.heap.size ve (pairE s.data.toList n at0) ∧ Up w w' := by
  have e0 : IntKind.i64.wrap (5 * (n : Int) * (wh : Int)) = (at0 : Int) := by rw [← hat, IntWalk.i64_in _ (by rw [show 5 * (n : Int) * (wh : Int) = ((5 * n * wh : Nat) : Int) by simp]; omega)]; simp
  clear hat
  go_enter Tryz.func148, Tryz.ntmps148
  go_wp2_with fail
  go_loopw [9, 10, 11] (fun va ve j wr => ∃ k : Nat, k ≤ n ∧ j = .int .i64 (k : Int) ∧ OwnI wr (w.heap.size + 1) va ((List.range k).map (prA s.data.toList q at0)) ∧ OwnI wr (w.heap.size + 1) ve ((List.range k).map (prE s.data.toList n at0)) ∧ Apart va ve ∧ Up (w.alloc (.cells #[.int .i64 n, .int .i64 t, .int .i64 q, .int .i64 b] 28)) wr) (fun _ _ j _ => n - (intOf j).toNat)
  case atStart => exact ⟨0, Nat.zero_le _, rfl, World.ownsRow_nil _ _ _ _, World.ownsRow_nil _ _ _ _, Or.inl rfl, Up.refl _⟩
  case round =>
    obtain ⟨k, hk, rfl, hoa, hoe, hap, hu⟩ := hrel
    obtain ⟨hc, hf⟩ := bcell hu
    by_cases hlt : k < n
    · have hsz : w.heap.size + 1 ≤ wr.heap.size := by have := hu.size; simpa using this
      have hnl := numL_le5 s.data.toList (at0 + 4 * k) 4 (by omega)
      have HRA : Hid ((List.range (k + 1)).map (prA s.data.toList q at0) = (List.range k).map (prA s.data.toList q at0) ++ [(numL s.data.toList (at0 + 4 * k) 4 : Int) % q]) := by
        have := map_range_succ (prA s.data.toList q at0) k
        unfold prA at this ⊢
        rw [this]
        exact rfl
      have HRE : Hid ((List.range (k + 1)).map (prE s.data.toList n at0) = (List.range k).map (prE s.data.toList n at0) ++ [(byteL s.data.toList (at0 + 4 * n + k) : Int) % 5 - 2]) := by
        have := map_range_succ (prE s.data.toList n at0) k
        unfold prE at this ⊢
        rw [this]
        exact rfl
      have HNum : Hid (∀ W, Calls Tryz.prog 151 #[.string s, .int .i64 ((at0 : Int) + 4 * (k : Int)), .int .i64 4] W fun e w' => e = .returned (.int .i64 (numL s.data.toList (at0 + 4 * k) 4 : Nat)) ∧ w' = W) := fun W => by
        have := drawNumber_calls s (at0 + 4 * k) 4 W hs (by omega) (by omega)
        rw [show ((at0 + 4 * k : Nat) : Int) = (at0 : Int) + 4 * (k : Int) by omega] at this
        exact this
      go_wp2_with fail
      refine Calls.mono (HNum.out _) ?_
      rintro e w' ⟨rfl, rfl⟩
      clear HNum
      generalize numL s.data.toList (at0 + 4 * k) 4 = x at hnl HRA
      go_wp2_with (at_builtin; refine append_int _ _ rfl (.tmp 34) (.tmp 39) rfl _ _ _ rfl hoa rfl (by simp; omega) hsz ?_)
      intro v4 w4 hown4 hg4 hb4 hob4
      have hoeW := hoe
      have hoe1 := hoeW.kept hg4 hap.symm.keeps
      have hap1 : Apart v4 u10 := hap.grown hoeW hob4
      have hu4 : Up (w.alloc (.cells #[.int .i64 n, .int .i64 t, .int .i64 q, .int .i64 b] 28)) w4 := Below.trans hu (by simpa using hb4)
      clear hoa hoe hap hg4 hb4 hob4 hoeW hc hf
      obtain ⟨hc, hf⟩ := bcell hu4
      have hsz4 : w.heap.size + 1 ≤ w4.heap.size := by have := hu4.size; simpa using this
      have hbl := byteL_lt s.data.toList (at0 + 4 * n + k)
      go_wp2_with fail
      refine (drawByte_calls _ _ _ hs (by omega)).mono ?_
      rintro e w' ⟨rfl, rfl⟩
      rw [show ((at0 : Int) + 4 * (n : Int) + (k : Int)).toNat = at0 + 4 * n + k from by omega]
      generalize byteL s.data.toList (at0 + 4 * n + k) = y at hbl HRE
      go_wp2_with (at_builtin; refine append_int _ _ rfl (.tmp 50) (.tmp 54) rfl _ _ _ rfl hoe1 rfl (by simp; omega) hsz4 ?_)
      intro v5 w5 hown5 hg5 hb5 hob5
      have hoa2 := hown4.kept hg5 hap1.keeps
      have hap2 : Apart v4 v5 := (hap1.symm.grown hown4 hob5).symm
      have hu5 : Up (w.alloc (.cells #[.int .i64 n, .int .i64 t, .int .i64 q, .int .i64 b] 28)) w5 := Below.trans hu4 (by simpa using hb5)
      clear hown4 hoe1 hap1 hg5 hb5 hob5 hc hf
      go_wp2_with fail
      go_roundw
      case rel => exact ⟨k + 1, by omega, by go_num, by rw [HRA.out]; exact hoa2, by rw [HRE.out]; exact hown5, hap2, hu5⟩
      case measure => simp [intOf]; omega
    · obtain rfl : k = n := by omega
      go_wp2_with fail
      go_ret2
      exact ⟨_, _, rfl, hoa.base (by omega), hoe.base (by omega), ((Up.refl _).alloc _).trans hu⟩

end Go.Proofs.YtcjhgbljhpflfabGreat

namespace Go.Proofs.YtcjhgbljhpflfabGreat
open Go.RowKit
set_option linter.unusedVariables false
set_option maxRecDepth 100000

theorem secB_iff2 (l : List UInt8) (n : Nat) : secB l n = true ↔ l.length = n + 1 ∧ byteL l 0 = 75 ∧ ∀ i, i < n → byteL l (i + 1) < 3 := by
  rw [secB_iff, okL_iff]
  have e : ∀ i, (numL l.tail (i * 1) 1 : Int) = (byteL l (i + 1) : Int) := fun i => by
    simp only [numL, Nat.mul_one, Nat.mul_zero, Nat.zero_add, Nat.add_zero, byteL_tail]
  constructor
  · rintro ⟨h1, h2, _, h3⟩
    exact ⟨h1, h2, fun i hi => by have := h3 i hi; rw [e] at this; omega⟩
  · rintro ⟨h1, h2, h3⟩
    exact ⟨h1, h2, by rw [List.length_tail]; omega, fun i hi => by have := h3 i hi; rw [e]; omega⟩

theorem secI_next (l : List UInt8) (m : Nat) (h : 1 ≤ m) : secI l m = secI l (m - 1) ++ [(byteL l m : Int) - 1] := by
  obtain ⟨k, rfl⟩ : ∃ k, m = k + 1 := ⟨m - 1, by omega⟩
  exact map_range_succ _ _

set_option maxHeartbeats 2000000 in
theorem keysRead_ok (n : Nat) (s : ByteArray) (w : World) (hs : s.size ≤ maxLen) (hn : n ≤ 16) (h : secB s.data.toList n = true) :
    Calls Tryz.prog 65 #[.int .i64 n, .string s] w fun e w' => ∃ v, e = .returned (.tuple #[v, .bool true]) ∧ OwnI w' w.heap.size v (secI s.data.toList n) ∧ Up w w' := by
  obtain ⟨h1, h2, h3⟩ := (secB_iff2 _ _).1 h
  have hl : s.size = n + 1 := by simpa using h1
  have h0 : 0 < s.size := by omega
  have h17 : (s.size : Int) ≤ 17 := by omega
  rw [byteL_in s 0 h0] at h2
  have hne : ((s.size : Int) - 1 != (n : Int)) = false := by rw [hl]; simp
  have hne2 : (((s[0]'h0).toNat : Int) != 75) = false := by rw [h2]; rfl
  have H3 : Hid _ := h3
  have HL : Hid _ := hl
  clear h h1 h2 h3 hl
  go_enter Tryz.func65, Tryz.ntmps65
  go_wp2_with fail
  go_loopw [6, 7] (fun v j wr => ∃ m : Nat, 1 ≤ m ∧ m ≤ s.size ∧ j = .int .i64 (m : Int) ∧ OwnI wr w.heap.size v (secI s.data.toList (m - 1)) ∧ Up w wr) (fun _ j _ => s.size - (intOf j).toNat)
  case atStart => exact ⟨1, Nat.le_refl _, h0, rfl, World.ownsRow_nil _ _ _ _, Up.refl _⟩
  case round =>
    obtain ⟨m, hm, hm2, rfl, hown, hu⟩ := hrel
    by_cases hlt : m < s.size
    · have hb := H3.out (m - 1) (by have := HL.out; omega)
      rw [show m - 1 + 1 = m by omega] at hb
      have HR : Hid _ := secI_next s.data.toList m hm
      rw [byteL_in s m hlt] at hb HR
      have hlen : (secI s.data.toList (m - 1)).length ≤ 17 := by simp [secI]; omega
      generalize secI s.data.toList (m - 1) = T at hown HR hlen
      go_wp2_with (at_builtin; refine append_int _ _ rfl (.tmp 33) (.tmp 39) rfl _ _ _ rfl hown rfl (by omega) hu.size ?_)
      intro v4 w4 hown4 hg4 hb4 _
      clear hown
      go_wp2_with fail
      go_roundw
      case rel => exact ⟨m + 1, by omega, by omega, by go_num, by rw [Nat.add_sub_cancel, HR.out]; exact hown4, Below.trans hu hb4⟩
      case measure => simp [intOf]; omega
    · have e : n = m - 1 := by have := HL.out; omega
      obtain rfl : m = s.size := by omega
      have HE : Hid _ := e
      clear e
      go_wp2_with fail
      go_ret2
      exact ⟨_, rfl, by rw [HE.out]; exact hown, hu⟩

end Go.Proofs.YtcjhgbljhpflfabGreat

namespace Go.Proofs.YtcjhgbljhpflfabGreat
open Go.RowKit
set_option linter.unusedVariables false
set_option maxRecDepth 100000

set_option maxHeartbeats 1000000 in
theorem Make_calls (n : Nat) (d : ByteArray) (w : World) (hd : d.size ≤ maxLen) (hn : n ≤ 16) :
    Calls Tryz.prog 118 #[.int .i64 n, .string d] w fun e w' => e = .returned (.string ⟨(keyL d.data.toList n).toArray⟩) ∧ Up w w' := by
  have HM : Hid (OwnB (w.alloc (.cells #[.int .u8 75] 5)) w.heap.size (.slice (some ⟨w.heap.size, 0, none⟩) 1 1) (keyL d.data.toList 0)) :=
    World.ownsRow_lit (base := w.heap.size) (e := 5) (size := 1) w #[.int .u8 75] 1 (Nat.le_refl _) (by decide) rfl
  go_enter Tryz.func118, Tryz.ntmps118
  go_wp2_with fail
  go_loopw [5, 6] (fun v j wr => ∃ k : Nat, k ≤ n ∧ j = .int .i64 (k : Int) ∧ OwnB wr w.heap.size v (keyL d.data.toList k) ∧ Up w wr) (fun _ j _ => n - (intOf j).toNat)
  case atStart => exact ⟨0, Nat.zero_le _, rfl, HM.out, (Up.refl _).alloc _⟩
  case round =>
    obtain ⟨k, hk, rfl, hown, hu⟩ := hrel
    by_cases hlt : k < n
    · have hb := byteL_lt d.data.toList k
      have H : Hid _ := keyL_succ d.data.toList k
      have hlen : (keyL d.data.toList k).length ≤ 20 := by rw [keyL_length]; omega
      go_wp2_with fail
      refine (drawByte_calls _ _ _ hd (by omega)).mono ?_
      rintro e w' ⟨rfl, rfl⟩
      rw [Int.toNat_natCast]
      generalize byteL d.data.toList k = x at hb H
      have HX : Hid (((x : Int) % 3).toNat = x % 3) := show ((x : Int) % 3).toNat = x % 3 by omega
      go_wp2_with (at_builtin; refine append_byte _ _ rfl (.tmp 17) (.tmp 21) rfl _ _ _ rfl hown rfl (by omega) hu.size (by omega) ?_)
      intro v1 w1 hown1 hb1
      rw [HX.out] at hown1
      clear hown
      go_wp2_with fail
      go_roundw
      case rel => exact ⟨k + 1, by omega, by go_num, by rw [H.out]; exact hown1, Below.trans hu hb1⟩
      case measure => simp [intOf]; omega
    · obtain rfl : k = n := by omega
      have hconv := conv_own wr _ _ _ hown
      go_wp2_with fail
      go_ret
      exact ⟨rfl, hu⟩

set_option maxHeartbeats 400000 in
theorem Key_ok (n : Nat) (t q b : Int) (d : ByteArray) (w : World) (hd : d.size ≤ maxLen) (hn : n ≤ 16) (hg : goodB n t q b = true) :
    Calls Tryz.prog 60 #[.agg #[.int .i64 n, .int .i64 t, .int .i64 q, .int .i64 b], .string d] w fun e w' => e = .returned (.tuple #[.string ⟨(keyL d.data.toList n).toArray⟩, .int .i64 0]) ∧ Up w w' := by
  go_enter Tryz.func60, Tryz.ntmps60
  go_wp2_with fail
  refine (Good_calls _ _ _ _ _).mono ?_
  rintro e w1 ⟨rfl, hu1⟩
  obtain ⟨hc, hf⟩ := bcell hu1
  go_wp2_with fail
  refine (Make_calls n d _ hd hn).mono ?_
  rintro e w2 ⟨rfl, hu2⟩
  go_wp2_with fail
  go_ret2
  exact ⟨rfl, (((Up.refl _).alloc _).trans hu1).trans hu2⟩

end Go.Proofs.YtcjhgbljhpflfabGreat
