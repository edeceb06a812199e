/-
  Walks: the reference's Plain.
-/
import Derived.Test.YtcjhgbljhpflfabWalksNd
import Derived.Test.YtcjhgbljhpflfabWalksNg
import Derived.Test.YtcjhgbljhpflfabWalksNh
namespace Go.Proofs.Ytcjhgbljhpflfab
open Go.RowKit
set_option linter.unusedVariables false
set_option maxRecDepth 100000

/-- a net's values behind i layers -/
def playI (n : Nat) (t : Int) (l : List UInt8) (v : List Int) : Nat → List Int
  | 0 => v
  | i + 1 => bentI n t (layOf n l i) (appI n t (layOf n l i) (playI n t l v i))

def plainL (n : Nat) (t : Int) (l v : List UInt8) : List UInt8 := textsL 2 (playI n t l (numsL v 2 n) (byteL l 1))

theorem playI_facts (n : Nat) (t : Int) (l : List UInt8) (v : List Int) (hl : v.length = n) (hv : ∀ i, i < n → 0 ≤ v.getD i 0 ∧ v.getD i 0 < t) (ht : 0 < t) (k : Nat) : (playI n t l v k).length = n ∧ ∀ i, i < n → 0 ≤ (playI n t l v k).getD i 0 ∧ (playI n t l v k).getD i 0 < t := by
  cases k with
  | zero => exact ⟨hl, hv⟩
  | succ k => exact ⟨bentI_length _ _ _ _, bentI_lt _ _ _ _ ht⟩

set_option maxHeartbeats 400000 in
theorem refPlain_bad (n t q b : Int) (l v : ByteArray) (w : World) (hg : goodB n t q b = false) :
    Calls Try.prog 32 #[.agg #[.int .i64 n, .int .i64 t, .int .i64 q, .int .i64 b], .string l, .string v] w fun e w' => e = .returned (.tuple #[.string ⟨#[]⟩, .int .i64 1]) ∧ Up w w' := by
  go_enter Try.func32, Try.ntmps32
  go_wp2_with (go_at_call 63; refine (refGood_calls _ _ _ _ _).mono ?_; rintro e w' ⟨rfl, hu⟩)
  go_ret2
  exact ⟨rfl, ((Up.refl _).alloc _).trans hu⟩

set_option maxHeartbeats 2000000 in
theorem refPlain_form (n t : Nat) (q b : Int) (l v : ByteArray) (w : World) (hl : l.size ≤ maxLen) (g : NT n t) (hg : goodB n t q b = true) (h0 : netB l.data.toList n t = false) :
    Calls Try.prog 32 #[.agg #[.int .i64 n, .int .i64 t, .int .i64 q, .int .i64 b], .string l, .string v] w fun e w' => e = .returned (.tuple #[.string ⟨#[]⟩, .int .i64 2]) ∧ Up w w' := by
  have HR0 : Hid (∀ W, Calls Try.prog 72 #[.agg #[.int .i64 n, .int .i64 t, .int .i64 q, .int .i64 b], .string l] W fun e w' => e = .returned (.bool false) ∧ Up W w') := fun W => by
    rw [← h0]
    exact Net_calls n t q b l W hl g.hn
  clear h0
  go_enter Try.func32, Try.ntmps32
  go_wp2_with fail
  refine (refGood_calls _ _ _ _ _).mono ?_
  rintro e w1 ⟨rfl, hu1⟩
  obtain ⟨hc, hf⟩ := bcell hu1
  go_wp2_with fail
  refine Calls.mono (HR0.out _) ?_
  rintro e w2 ⟨rfl, hu2⟩
  clear hc hf
  go_wp2_with fail
  go_ret2
  exact ⟨rfl, (((Up.refl _).alloc _).trans hu1).trans hu2⟩

set_option maxHeartbeats 2000000 in
theorem refPlain_val (n t : Nat) (q b : Int) (l v : ByteArray) (w : World) (hl : l.size ≤ maxLen) (hv : v.size ≤ maxLen) (g : NT n t) (hg : goodB n t q b = true) (h0 : netB l.data.toList n t = true) (h1 : okL v.data.toList n 2 t = false) :
    Calls Try.prog 32 #[.agg #[.int .i64 n, .int .i64 t, .int .i64 q, .int .i64 b], .string l, .string v] w fun e w' => e = .returned (.tuple #[.string ⟨#[]⟩, .int .i64 3]) ∧ Up w w' := by
  obtain ⟨hd1, hd2, hd3⟩ := g.half
  have HR0 : Hid (∀ W, Calls Try.prog 72 #[.agg #[.int .i64 n, .int .i64 t, .int .i64 q, .int .i64 b], .string l] W fun e w' => e = .returned (.bool true) ∧ Up W w') := fun W => by
    rw [← h0]
    exact Net_calls n t q b l W hl g.hn
  go_enter Try.func32, Try.ntmps32
  go_wp2_with fail
  refine (refGood_calls _ _ _ _ _).mono ?_
  rintro e w1 ⟨rfl, hu1⟩
  obtain ⟨hc, hf⟩ := bcell hu1
  go_wp2_with fail
  refine Calls.mono (HR0.out _) ?_
  rintro e w2 ⟨rfl, hu2⟩
  clear hc hf
  obtain ⟨hc, hf⟩ := bcell (hu1.trans hu2)
  go_wp2_with fail
  refine (Values_no n t q b v _ hv (by omega) h1).mono ?_
  rintro e w3 ⟨rfl, hu3⟩
  clear hc hf
  go_wp2_with fail
  go_ret2
  exact ⟨rfl, ((((Up.refl _).alloc _).trans hu1).trans hu2).trans hu3⟩

set_option maxHeartbeats 4000000 in
theorem refPlain_ok (n t : Nat) (q b : Int) (l v : ByteArray) (w : World) (hl : l.size ≤ maxLen) (hv : v.size ≤ maxLen) (g : NT n t) (hg : goodB n t q b = true) (h0 : netB l.data.toList n t = true) (h1 : okL v.data.toList n 2 t = true) :
    Calls Try.prog 32 #[.agg #[.int .i64 n, .int .i64 t, .int .i64 q, .int .i64 b], .string l, .string v] w fun e w' => e = .returned (.tuple #[.string ⟨(plainL n t l.data.toList v.data.toList).toArray⟩, .int .i64 0]) ∧ Up w w' := by
  have ht := g.t3
  have ht2 := g.ht
  obtain ⟨hd1, hd2, hd3⟩ := g.half
  obtain ⟨k2, k78, k1, k3, kl, _⟩ := (netB_iff _ _ _).1 h0
  have hsl : l.data.toList.length = l.size := by simp
  have HR0 : Hid (∀ W, Calls Try.prog 72 #[.agg #[.int .i64 n, .int .i64 t, .int .i64 q, .int .i64 b], .string l] W fun e w' => e = .returned (.bool true) ∧ Up W w') := fun W => by
    rw [← h0]
    exact Net_calls n t q b l W hl g.hn
  have HB : Hid (∀ W, Calls Try.prog 73 #[.string l, .int .i64 1] W fun e w' => e = .returned (.int .i64 (byteL l.data.toList 1)) ∧ w' = W) := fun W => Byte_calls l 1 W hl (by omega)
  have HLe : Hid (∀ i, i < byteL l.data.toList 1 → 2 + i * sizN n + sizN n ≤ l.size) := fun i hi => by
    have := Nat.mul_le_mul_right (sizN n) (show i + 1 ≤ byteL l.data.toList 1 by omega)
    rw [Nat.succ_mul] at this
    omega
  have HLo : Hid (∀ i W, i < byteL l.data.toList 1 → Calls Try.prog 74 #[.agg #[.int .i64 n, .int .i64 t, .int .i64 q, .int .i64 b], .string l, .int .i64 (i : Nat)] W fun e w' => e = .returned (.string (layX n l i)) ∧ Up W w') := fun i W hi => LayerOf_calls n i t q b l W hl g.hn (by omega) (HLe.out i hi)
  have HXl : Hid (∀ i, i < byteL l.data.toList 1 → (layX n l i).data.toList = layOf n l.data.toList i) := fun i hi => layX_list n l i (HLe.out i hi)
  have HXs : Hid (∀ i, (layX n l i).size ≤ maxLen) := fun i => by unfold layX; simp; omega
  have HS1 : Hid (∀ i, playI n t l.data.toList (numsL v.data.toList 2 n) (i + 1) = bentI n t (layOf n l.data.toList i) (appI n t (layOf n l.data.toList i) (playI n t l.data.toList (numsL v.data.toList 2 n) i))) := fun i => rfl
  have HPl : Hid _ := playI_facts n t l.data.toList (numsL v.data.toList 2 n) (numsL_length _ _ _) (numsL_lt _ _ _ _ h1) (by omega)
  have HA : Hid (plainL n t l.data.toList v.data.toList = textsL 2 (playI n t l.data.toList (numsL v.data.toList 2 n) (byteL l.data.toList 1))) := rfl
  have HP0 : Hid (playI n t l.data.toList (numsL v.data.toList 2 n) 0 = numsL v.data.toList 2 n) := rfl
  generalize plainL n t l.data.toList v.data.toList = ans at HA
  generalize playI n t l.data.toList (numsL v.data.toList 2 n) = P at HS1 HPl HA HP0
  clear k2 k78 kl hsl
  generalize byteL l.data.toList 1 = N at k1 k3 HB HLe HLo HXl HA
  go_enter Try.func32, Try.ntmps32
  go_wp2_with fail
  refine (refGood_calls _ _ _ _ _).mono ?_
  rintro e w1 ⟨rfl, hu1⟩
  obtain ⟨hc, hf⟩ := bcell hu1
  go_wp2_with fail
  refine Calls.mono (HR0.out _) ?_
  rintro e w2 ⟨rfl, hu2⟩
  clear hc hf
  obtain ⟨hc, hf⟩ := bcell (hu1.trans hu2)
  go_wp2_with fail
  refine (Values_ok n t q b v _ hv (by omega) h1).mono ?_
  rintro e w3 ⟨v3, rfl, ho3, hu3⟩
  obtain ⟨g3, c3, rfl, _, i3⟩ := ho3.is (ne_nil_of_length (numsL_length _ _ _) (by omega))
  rw [numsL_length]
  rw [← HP0.out] at i3
  clear hc hf ho3
  have huQ := (hu1.trans hu2).trans hu3
  clear hu1 hu2 hu3
  go_wp2_with fail
  go_loopw [10, 11] (fun sv si wr => ∃ i gx cx : Nat, i ≤ N ∧ si = .int .i64 (i : Int) ∧ sv = .slice (some ⟨gx, 0, none⟩) n cx ∧ IsI wr gx (P i) ∧ Up w3 wr) (fun _ si _ => N - (intOf si).toNat)
  case atStart => exact ⟨0, g3, c3, Nat.zero_le _, rfl, rfl, i3, Up.refl _⟩
  case round =>
    obtain ⟨i, gx, cx, hi, rfl, rfl, ix, hu⟩ := hrel
    obtain ⟨hpl, hpb⟩ := HPl.out i
    have HPL : Hid _ := hpl
    have HPB : Hid _ := hpb
    clear hpl hpb
    by_cases hlt : i < N
    · have HLi : Hid _ := fun W => HLo.out i W hlt
      have HSi : Hid _ := HS1.out i
      rw [← HXl.out i hlt] at HSi
      have HXi : Hid _ := HXs.out i
      generalize layX n l i = X at HLi HSi HXi
      go_wp2_with fail
      refine Calls.mono (HB.out _) ?_
      rintro e w' ⟨rfl, rfl⟩
      obtain ⟨hc, hf⟩ := bcell (huQ.trans hu)
      go_wp2_with fail
      refine Calls.mono (HLi.out _) ?_
      rintro e w5 ⟨rfl, hu5⟩
      clear hc hf
      obtain ⟨hc, hf⟩ := bcell ((huQ.trans hu).trans hu5)
      go_wp2_with fail
      refine (Applied_calls n t q b X (P i) gx cx _ HXi.out g.hn (by omega) ht2 HPL.out (all_bnd HPL.out HPB.out (show (t : Int) ≤ 65536 by omega) (by omega)) (ix.up hu5)).mono ?_
      rintro e w6 ⟨v6, rfl, ho6, hu6⟩
      obtain ⟨g6, c6, rfl, _, i6⟩ := ho6.is (ne_nil_of_length (appI_length _ _ _ _) (by omega))
      rw [appI_length]
      clear hc hf ho6
      obtain ⟨hc, hf⟩ := bcell (((huQ.trans hu).trans hu5).trans hu6)
      go_wp2_with fail
      refine (Bent_calls n t q b X _ g6 c6 _ HXi.out (by omega) (by omega) ht2 (appI_length _ _ _ _) (appI_lt _ _ _ _ (by omega)) i6).mono ?_
      rintro e w7 ⟨v7, rfl, ho7, hu7⟩
      obtain ⟨g7, c7, rfl, _, i7⟩ := ho7.is (ne_nil_of_length (bentI_length _ _ _ _) (by omega))
      rw [bentI_length]
      rw [← HSi.out] at i7
      clear hc hf ho7
      go_wp2_with fail
      go_roundw
      case rel => exact ⟨i + 1, g7, c7, by omega, by go_num, rfl, i7, ((hu.trans hu5).trans hu6).trans hu7⟩
      case measure => simp [intOf]; omega
    · obtain rfl : i = N := by omega
      have HTx : Hid (∀ W, IsI W gx (P i) → Calls Try.prog 68 #[.slice (some ⟨gx, 0, none⟩) n cx, .int .i64 2] W fun e w' => e = .returned (.string ⟨ans.toArray⟩) ∧ Up W w') := fun W hi => by
        have := Texts_calls (P i) gx cx 2 W (by omega) (by rw [HPL.out]; omega) (fun j hj => by rw [HPL.out] at hj; have := HPB.out j hj; omega) hi
        rw [HPL.out, ← HA.out] at this
        exact this
      go_wp2_with fail
      refine Calls.mono (HB.out _) ?_
      rintro e w' ⟨rfl, rfl⟩
      go_wp2_with fail
      refine Calls.mono (HTx.out _ ix) ?_
      rintro e w8 ⟨rfl, hu8⟩
      go_wp2_with fail
      go_ret2
      exact ⟨rfl, ((((Up.refl _).alloc _).trans huQ).trans hu).trans hu8⟩

end Go.Proofs.Ytcjhgbljhpflfab
