/-
  Walks: the reference's LayerOf, Net.
  Walks: the reference's Net of any text.
-/
import Derived.Test.YtcjhgbljhpflfabGreatWalksNa
namespace Go.Proofs.YtcjhgbljhpflfabGreat
open Go.RowKit
set_option linter.unusedVariables false
set_option maxRecDepth 100000

/-- layer i of a net -/
def layOf (n : Nat) (l : List UInt8) (i : Nat) : List UInt8 := (l.take (2 + i * sizN n + sizN n)).drop (2 + i * sizN n)
def layX (n : Nat) (s : ByteArray) (i : Nat) : ByteArray := s.extract (2 + i * sizN n) (2 + i * sizN n + sizN n)

theorem layX_list (n : Nat) (s : ByteArray) (i : Nat) (h : 2 + i * sizN n + sizN n ≤ s.size) : (layX n s i).data.toList = layOf n s.data.toList i := ext_list s _ _ h

theorem sizN_le (n : Nat) (hn : n = 4 ∨ n = 8 ∨ n = 16) : sizN n ≤ 200 := by rcases hn with rfl | rfl | rfl <;> decide

set_option maxHeartbeats 1000000 in
theorem LayerOf_calls (n i : Nat) (t q b : Int) (s : ByteArray) (w : World) (hs : s.size ≤ maxLen) (hn : n = 4 ∨ n = 8 ∨ n = 16) (hi : i ≤ 16) (hl : 2 + i * sizN n + sizN n ≤ s.size) :
    Calls Tryz.prog 141 #[.agg #[.int .i64 n, .int .i64 t, .int .i64 q, .int .i64 b], .string s, .int .i64 i] w fun e w' => e = .returned (.string (layX n s i)) ∧ Up w w' := by
  have hs2 : (s.size : Int) ≤ 9223372036854775807 := by unfold maxLen at hs; omega
  have hz := sizN_le n hn
  have HX : Hid (layX n s i = s.extract (2 + i * sizN n) (2 + i * sizN n + sizN n)) := rfl
  generalize layX n s i = X at HX
  have HZ : Hid (∀ W, Calls Tryz.prog 96 #[.agg #[.int .i64 n, .int .i64 t, .int .i64 q, .int .i64 b]] W fun e w' => e = .returned (.int .i64 (sizN n)) ∧ Up W w') := fun W => Size_calls n t q b W hn
  have hA : i * sizN n ≤ 16 * 200 := Nat.mul_le_mul hi hz
  have e1 : IntKind.i64.wrap ((i : Int) * (sizN n : Int)) = ((i * sizN n : Nat) : Int) := by rw [← Int.natCast_mul]; exact IntWalk.i64_in _ (by omega)
  generalize i * sizN n = A at hA e1 HX hl
  generalize sizN n = Z at hz hl e1 HX HZ
  clear hn
  go_enter Tryz.func141, Tryz.ntmps141
  go_wp2_with fail
  refine Calls.mono (HZ.out _) ?_
  rintro e w1 ⟨rfl, hu1⟩
  obtain ⟨hc, hf⟩ := bcell hu1
  go_wp2_with fail
  refine Calls.mono (HZ.out _) ?_
  rintro e w2 ⟨rfl, hu2⟩
  clear hc hf
  go_wp2_with fail
  go_ret
  exact ⟨by rw [HX.out]; first | rfl | (congr 3 <;> omega), (((Up.refl _).alloc _).trans hu1).trans hu2⟩

/-- is the text a net? -/
def netB (l : List UInt8) (n : Nat) (t : Int) : Bool := decide (2 ≤ l.length) && decide (byteL l 0 = 78) && decide (1 ≤ byteL l 1) && decide (byteL l 1 ≤ 3) && decide (l.length = 2 + byteL l 1 * sizN n) && (List.range (byteL l 1)).all fun i => layB (layOf n l i) n t

theorem netB_iff (l : List UInt8) (n : Nat) (t : Int) : netB l n t = true ↔ 2 ≤ l.length ∧ byteL l 0 = 78 ∧ 1 ≤ byteL l 1 ∧ byteL l 1 ≤ 3 ∧ l.length = 2 + byteL l 1 * sizN n ∧ ∀ i, i < byteL l 1 → layB (layOf n l i) n t = true := by
  unfold netB
  simp [and_assoc]

set_option maxHeartbeats 4000000 in
theorem Net_in (n : Nat) (t q b : Int) (s : ByteArray) (w : World) (hs : s.size ≤ maxLen) (hn : n = 4 ∨ n = 8 ∨ n = 16) (h2 : 2 ≤ s.data.toList.length) (h78 : byteL s.data.toList 0 = 78) (h1 : 1 ≤ byteL s.data.toList 1) (h3 : byteL s.data.toList 1 ≤ 3) (hl : s.data.toList.length = 2 + byteL s.data.toList 1 * sizN n) :
    Calls Tryz.prog 113 #[.agg #[.int .i64 n, .int .i64 t, .int .i64 q, .int .i64 b], .string s] w fun e w' => e = .returned (.bool (netB s.data.toList n t)) ∧ Up w w' := by
  have HA : Hid (netB s.data.toList n t = (List.range (byteL s.data.toList 1)).all fun i => layB (layOf n s.data.toList i) n t) := show _ = _ by
    unfold netB
    rw [decide_eq_true h2, decide_eq_true h78, decide_eq_true h1, decide_eq_true h3, decide_eq_true hl]
    simp only [Bool.true_and]
  generalize netB s.data.toList n t = ans at HA
  have hz := sizN_le n hn
  have hsl : s.data.toList.length = s.size := by simp
  have h0 : 0 < s.size := by omega
  rw [byteL_in s 0 h0] at h78
  have hne : (((s[0]'h0).toNat : Int) != 78) = false := by rw [h78]; rfl
  have HB : Hid (∀ W, Calls Tryz.prog 97 #[.string s, .int .i64 1] W fun e w' => e = .returned (.int .i64 (byteL s.data.toList 1)) ∧ w' = W) := fun W => Byte_calls s 1 W hs (by omega)
  have HZ : Hid (∀ W, Calls Tryz.prog 96 #[.agg #[.int .i64 n, .int .i64 t, .int .i64 q, .int .i64 b]] W fun e w' => e = .returned (.int .i64 (sizN n)) ∧ Up W w') := fun W => Size_calls n t q b W hn
  have HLo : Hid (∀ i W, i < byteL s.data.toList 1 → Calls Tryz.prog 141 #[.agg #[.int .i64 n, .int .i64 t, .int .i64 q, .int .i64 b], .string s, .int .i64 (i : Nat)] W fun e w' => e = .returned (.string (layX n s i)) ∧ Up W w') := fun i W hi => LayerOf_calls n i t q b s W hs hn (by omega) (by
    have := Nat.mul_le_mul_right (sizN n) (show i + 1 ≤ byteL s.data.toList 1 by omega)
    rw [Nat.succ_mul] at this
    omega)
  have HLa : Hid (∀ i W, i < byteL s.data.toList 1 → Calls Tryz.prog 41 #[.agg #[.int .i64 n, .int .i64 t, .int .i64 q, .int .i64 b], .string (layX n s i)] W fun e w' => e = .returned (.bool (layB (layOf n s.data.toList i) n t)) ∧ Up W w') := fun i W hi => by
    rw [← layX_list n s i (by
      have := Nat.mul_le_mul_right (sizN n) (show i + 1 ≤ byteL s.data.toList 1 by omega)
      rw [Nat.succ_mul] at this
      omega)]
    exact Layer_calls n t q b (layX n s i) W (by unfold layX; simp; omega) hn
  have hA : byteL s.data.toList 1 * sizN n ≤ 3 * 200 := Nat.mul_le_mul h3 hz
  have e1 : IntKind.i64.wrap ((byteL s.data.toList 1 : Int) * (sizN n : Int)) = ((byteL s.data.toList 1 * sizN n : Nat) : Int) := by rw [← Int.natCast_mul]; exact IntWalk.i64_in _ (by omega)
  have hlen : (s.size : Int) = 2 + ((byteL s.data.toList 1 * sizN n : Nat) : Int) := by omega
  generalize byteL s.data.toList 1 * sizN n = A at hA e1 hlen
  clear hl h2 hsl
  generalize sizN n = Z at hz e1 HZ
  have hs3 : ¬ (s.size : Int) < 2 := by omega
  have hne3 : ((s.size : Int) != 2 + (A : Int)) = false := by rw [hlen]; simp
  generalize byteL s.data.toList 1 = N at h1 h3 HB HLo HLa e1 HA
  have hN1 : ¬ (N : Int) < 1 := by omega
  have hN3 : ¬ (3 : Int) < (N : Int) := by omega
  clear h78
  go_enter Tryz.func113, Tryz.ntmps113
  go_wp2_with fail
  refine Calls.mono (HB.out _) ?_
  rintro e w' ⟨rfl, rfl⟩
  go_wp2_with fail
  refine Calls.mono (HZ.out _) ?_
  rintro e w1 ⟨rfl, hu1⟩
  go_wp2_with fail
  try clear e1
  try clear hs3
  try clear hne3
  try clear hne
  go_loopw [6] (fun si wr => ∃ i : Nat, i ≤ N ∧ si = .int .i64 (i : Int) ∧ Hid (∀ j, j < i → layB (layOf n s.data.toList j) n t = true) ∧ Up w1 wr) (fun si _ => N - (intOf si).toNat)
  case atStart => exact ⟨0, Nat.zero_le _, rfl, fun j hj => absurd hj (Nat.not_lt_zero _), Up.refl _⟩
  case round =>
    obtain ⟨i, hi, rfl, HI, hu⟩ := hrel
    by_cases hlt : i < N
    · have HLi : Hid _ := fun W => HLo.out i W hlt
      have HYi : Hid _ := fun W => HLa.out i W hlt
      generalize layX n s i = X at HLi HYi
      obtain ⟨hc, hf⟩ := bcell (hu1.trans hu)
      go_wp2_with fail
      refine Calls.mono (HLi.out _) ?_
      rintro e w2 ⟨rfl, hu2⟩
      clear hc hf
      obtain ⟨hc, hf⟩ := bcell ((hu1.trans hu).trans hu2)
      by_cases hy : layB (layOf n s.data.toList i) n t = true
      · have HI2 : Hid (∀ j, j < i + 1 → layB (layOf n s.data.toList j) n t = true) := fun j hj => by
          by_cases hji : j = i
          · rw [hji]; exact hy
          · exact HI.out j (by omega)
        rw [hy] at HYi
        go_wp2_with fail
        refine Calls.mono (HYi.out _) ?_
        rintro e w3 ⟨rfl, hu3⟩
        clear hc hf
        go_wp2_with fail
        go_roundw
        case rel => exact ⟨i + 1, by omega, by go_num, HI2, (hu.trans hu2).trans hu3⟩
        case measure => simp [intOf]; omega
      · have HF : Hid (ans = false) := show _ = _ by
          rw [HA.out, Bool.eq_false_iff]
          intro h
          exact hy (List.all_eq_true.1 h i (List.mem_range.2 hlt))
        rw [Bool.eq_false_iff.2 hy] at HYi
        go_wp2_with fail
        refine Calls.mono (HYi.out _) ?_
        rintro e w3 ⟨rfl, hu3⟩
        clear hc hf hy
        go_wp2_with fail
        go_ret
        exact ⟨ret_bool HF.out.symm, (((((Up.refl _).alloc _).trans hu1).trans hu).trans hu2).trans hu3⟩
    · obtain rfl : i = N := by omega
      have HF : Hid (ans = true) := show _ = _ by
        rw [HA.out]
        exact List.all_eq_true.2 fun j hj => HI.out j (List.mem_range.1 hj)
      go_wp2_with fail
      go_ret
      exact ⟨ret_bool HF.out.symm, (((Up.refl _).alloc _).trans hu1).trans hu⟩

end Go.Proofs.YtcjhgbljhpflfabGreat

namespace Go.Proofs.YtcjhgbljhpflfabGreat
open Go.RowKit
set_option linter.unusedVariables false
set_option maxRecDepth 100000

set_option maxHeartbeats 4000000 in
theorem Net_calls (n : Nat) (t q b : Int) (s : ByteArray) (w : World) (hs : s.size ≤ maxLen) (hn : n = 4 ∨ n = 8 ∨ n = 16) :
    Calls Tryz.prog 113 #[.agg #[.int .i64 n, .int .i64 t, .int .i64 q, .int .i64 b], .string s] w fun e w' => e = .returned (.bool (netB s.data.toList n t)) ∧ Up w w' := by
  by_cases hall : 2 ≤ s.data.toList.length ∧ byteL s.data.toList 0 = 78 ∧ 1 ≤ byteL s.data.toList 1 ∧ byteL s.data.toList 1 ≤ 3 ∧ s.data.toList.length = 2 + byteL s.data.toList 1 * sizN n
  · obtain ⟨h2, h78, h1, h3, hl⟩ := hall
    exact Net_in n t q b s w hs hn h2 h78 h1 h3 hl
  · have HF : Hid (netB s.data.toList n t = false) := show _ = _ by
      rw [Bool.eq_false_iff]
      intro h
      obtain ⟨h2, h78, h1, h3, hl, _⟩ := (netB_iff _ _ _).1 h
      exact hall ⟨h2, h78, h1, h3, hl⟩
    generalize netB s.data.toList n t = ans at HF
    have hz := sizN_le n hn
    have hsl : s.data.toList.length = s.size := by simp
    have hbl := byteL_lt s.data.toList 1
    have HB : Hid (∀ W, Calls Tryz.prog 97 #[.string s, .int .i64 1] W fun e w' => e = .returned (.int .i64 (byteL s.data.toList 1)) ∧ w' = W) := fun W => Byte_calls s 1 W hs (by omega)
    have HZ : Hid (∀ W, Calls Tryz.prog 96 #[.agg #[.int .i64 n, .int .i64 t, .int .i64 q, .int .i64 b]] W fun e w' => e = .returned (.int .i64 (sizN n)) ∧ Up W w') := fun W => Size_calls n t q b W hn
    by_cases h2 : 2 ≤ s.size
    · have hs3 : ¬ (s.size : Int) < 2 := by omega
      have h0 : 0 < s.size := by omega
      by_cases h78 : byteL s.data.toList 0 = 78
      · have h78' := h78
        rw [byteL_in s 0 h0] at h78'
        have hne : (((s[0]'h0).toNat : Int) != 78) = false := by rw [h78']; rfl
        clear h78'
        by_cases h1 : 1 ≤ byteL s.data.toList 1
        · have hN1 : ¬ (byteL s.data.toList 1 : Int) < 1 := by omega
          by_cases h3 : byteL s.data.toList 1 ≤ 3
          · have hN3 : ¬ (3 : Int) < (byteL s.data.toList 1 : Int) := by omega
            have hl : ¬ s.size = 2 + byteL s.data.toList 1 * sizN n := fun h => hall ⟨by omega, h78, h1, h3, by omega⟩
            have hA : byteL s.data.toList 1 * sizN n ≤ 3 * 200 := Nat.mul_le_mul h3 hz
            have e1 : IntKind.i64.wrap ((byteL s.data.toList 1 : Int) * (sizN n : Int)) = ((byteL s.data.toList 1 * sizN n : Nat) : Int) := by rw [← Int.natCast_mul]; exact IntWalk.i64_in _ (by omega)
            have hne3 : ((s.size : Int) != 2 + ((byteL s.data.toList 1 * sizN n : Nat) : Int)) = true := bne_iff_ne.2 (by omega)
            clear hall hl h78 hsl
            generalize byteL s.data.toList 1 * sizN n = A at hA e1 hne3
            generalize sizN n = Z at hz e1 HZ
            generalize byteL s.data.toList 1 = N at h1 h3 HB e1 hN1 hN3 hbl
            go_enter Tryz.func113, Tryz.ntmps113
            go_wp2_with fail
            refine Calls.mono (HB.out _) ?_
            rintro e w' ⟨rfl, rfl⟩
            go_wp2_with fail
            refine Calls.mono (HZ.out _) ?_
            rintro e w1 ⟨rfl, hu1⟩
            go_wp2_with fail
            go_ret
            exact ⟨ret_bool HF.out.symm, ((Up.refl _).alloc _).trans hu1⟩
          · have hN3 : (3 : Int) < (byteL s.data.toList 1 : Int) := by omega
            clear hall h78 hsl
            go_enter Tryz.func113, Tryz.ntmps113
            go_wp2_with fail
            refine Calls.mono (HB.out _) ?_
            rintro e w' ⟨rfl, rfl⟩
            go_wp2_with fail
            go_ret
            exact ⟨ret_bool HF.out.symm, (Up.refl _).alloc _⟩
        · have hN1 : (byteL s.data.toList 1 : Int) < 1 := by omega
          clear hall h78 hsl
          go_enter Tryz.func113, Tryz.ntmps113
          go_wp2_with fail
          refine Calls.mono (HB.out _) ?_
          rintro e w' ⟨rfl, rfl⟩
          go_wp2_with fail
          go_ret
          exact ⟨ret_bool HF.out.symm, (Up.refl _).alloc _⟩
      · have h78' := h78
        rw [byteL_in s 0 h0] at h78'
        have hne : (((s[0]'h0).toNat : Int) != 78) = true := by rw [bne_iff_ne]; omega
        clear hall h78 h78' hsl
        go_enter Tryz.func113, Tryz.ntmps113
        go_wp2_with fail
        refine Calls.mono (HB.out _) ?_
        rintro e w' ⟨rfl, rfl⟩
        go_wp2_with fail
        go_ret
        exact ⟨ret_bool HF.out.symm, (Up.refl _).alloc _⟩
    · have hs3 : (s.size : Int) < 2 := by omega
      clear hall hsl
      go_enter Tryz.func113, Tryz.ntmps113
      go_wp2_with fail
      refine Calls.mono (HB.out _) ?_
      rintro e w' ⟨rfl, rfl⟩
      go_wp2_with fail
      go_ret
      exact ⟨ret_bool HF.out.symm, (Up.refl _).alloc _⟩

end Go.Proofs.YtcjhgbljhpflfabGreat
