/-
  Walks: the program's net in the open, and its call Plain.
-/
import Derived.Test.YtcjhgbljhpflfabGreatCodeBn
import Derived.Test.YtcjhgbljhpflfabGreatCodeNu
import Derived.Test.YtcjhgbljhpflfabGreatWalksNa
import Derived.Test.YtcjhgbljhpflfabGreatCodeY
namespace Go.Proofs.YtcjhgbljhpflfabGreat
open Go.RowKit
set_option linter.unusedVariables false
set_option maxRecDepth 100000

/-- noughts -/
def zeroI (n : Nat) : List Int := (List.range n).map fun _ => 0

theorem zeroI_length (n : Nat) : (zeroI n).length = n := by simp [zeroI]

theorem zeroI_lt (n : Nat) (t : Int) (ht : 0 < t) : ∀ i, i < n → 0 ≤ (zeroI n).getD i 0 ∧ (zeroI n).getD i 0 < t := by
  intro i hi
  rw [zeroI, getD_range hi]
  omega

theorem plusI_zero (n : Nat) (t : Int) (xs : List Int) (hl : xs.length = n) (hx : ∀ i, i < n → 0 ≤ xs.getD i 0 ∧ xs.getD i 0 < t) : plusI n xs (zeroI n) t = xs := by
  refine list_same (n := n) (plusI_length _ _ _ _) hl fun i hi => ?_
  rw [plusI, getD_range hi, plusC, zeroI, getD_range hi, Int.add_zero, Int.emod_eq_of_lt (hx i hi).1 (hx i hi).2]

theorem lessI_zero (n : Nat) (t : Int) (xs : List Int) (hl : xs.length = n) (hx : ∀ i, i < n → 0 ≤ xs.getD i 0 ∧ xs.getD i 0 < t) : lessI n xs (zeroI n) t = xs := by
  refine list_same (n := n) (lessI_length _ _ _ _) hl fun i hi => ?_
  rw [lessI, getD_range hi, lessC, zeroI, getD_range hi, Int.sub_zero, Int.emod_eq_of_lt (hx i hi).1 (hx i hi).2]

theorem bendI_zero (n : Nat) (t : Int) (l : List UInt8) (xs : List Int) (ht : 0 < t) (hl : xs.length = n) (hx : ∀ i, i < n → 0 ≤ xs.getD i 0 ∧ xs.getD i 0 < t) : bendI n t l xs (zeroI n) (zeroI n) = bentI n t l xs := by
  unfold bendI
  rw [plusI_zero n t xs hl hx, lessI_zero n t _ (bentI_length _ _ _ _) (bentI_lt _ _ _ _ ht)]

set_option maxHeartbeats 4000000 in
theorem layPlain_calls (n t d m : Nat) (q b : Int) (l : List UInt8) (vs : List Int) (HN capN gv cv : Nat) (w : World) (g : NT n t) (hd : n / 2 = d) (hm : m ≤ 3) (hlay : ∀ i, i < m → byteL (layOf n l i) 2 ≤ 7) (hvl : vs.length = n) (hvb : ∀ i, i < n → 0 ≤ vs.getD i 0 ∧ vs.getD i 0 < (t : Int)) (hN : NetAt w HN n d m l) (iv : IsI w gv vs) :
    Calls Tryz.prog 71 #[.agg #[.int .i64 n, .int .i64 t, .int .i64 q, .int .i64 b], .slice (some ⟨HN, 0, none⟩) m capN, .slice (some ⟨gv, 0, none⟩) n cv] w fun e w' => ∃ g' c', e = .returned (.slice (some ⟨g', 0, none⟩) n c') ∧ IsI w' g' (playI n t l vs m) ∧ Up w w' := by
  have ht := g.t3
  have ht2 := g.ht
  have hhf := g.half
  have hn4 : 4 ≤ n := by omega
  have hn16 : n ≤ 16 := by omega
  have HG : Hid _ := g
  have HD : Hid _ := hd
  have HLa : Hid _ := hlay
  have HNA : Hid _ := hN
  have HPl : Hid _ := playI_facts n t l vs hvl hvb (by omega)
  have HP0 : Hid (playI n t l vs 0 = vs) := rfl
  have HS1 : Hid (∀ i, playI n t l vs (i + 1) = bentI n t (layOf n l i) (appI n t (layOf n l i) (playI n t l vs i))) := fun i => rfl
  generalize playI n t l vs = P at HPl HP0 HS1
  have HVL : Hid _ := hvl
  clear hvl hvb hlay hN hd g
  have HiF : Hid _ := info_parts info_int
  obtain ⟨f0, hi0, hz0, hz1, hz2⟩ := HiF.out
  go_enter Tryz.func71, Tryz.ntmps71
  go_wp2_with (at_make; refine wpList_make_full _ rfl _ _ 54 rfl (w.alloc (.cells #[.int .i64 n, .int .i64 t, .int .i64 q, .int .i64 b] 28)).heap.size 3 f0 (.int .i64 0) 1 Tryz.underlying54 hi0 hz0 hz1 .i64 .i64 _ _ n rfl rfl rfl rfl (by rw [hz2]; omega) (by unfold maxLen; omega) (Nat.le_refl _) ?_)
  intro w1 hown1 hg1
  have ho1 := made_row hown1 (fun _ => 0) (fun _ => rfl)
  have hu1 := Up.made hg1
  have huW : Up w (w.alloc (.cells #[.int .i64 n, .int .i64 t, .int .i64 q, .int .i64 b] 28)) := (Up.refl _).alloc _
  have KP : Hid (w1.cell? ⟨w.heap.size, 0, none⟩ = some (.int .i64 (n : Int)) ∧ w1.cell? ⟨w.heap.size, 1, none⟩ = some (.int .i64 (t : Int)) ∧ w1.cell? ⟨w.heap.size, 2, none⟩ = some (.int .i64 q) ∧ w1.cell? ⟨w.heap.size, 3, none⟩ = some (.int .i64 b)) := keepC4 hu1 ⟨by simp [go_sem], by simp [go_sem], by simp [go_sem], by simp [go_sem]⟩
  have iz := OwnI.isI ho1
  have iv1 := iv.up (huW.trans hu1)
  clear hown1 hg1 ho1 hi0 hz0 hz1 hz2
  rw [show ((List.range n).map fun _ => (0 : Int)) = zeroI n from rfl] at iz
  go_wp2_with (at_builtin; refine append_copy _ rfl (.tmp 14) (.tmp 15) rfl rfl gv cv n _ HVL.out rfl iv1 (by omega) ?_)
  intro v2 w2 ho2 hu2
  obtain ⟨g2, c2, rfl, _, i2, hc2⟩ := ho2.isc (ne_nil_of_length HVL.out (by omega))
  rw [HVL.out] at hc2 ⊢
  rw [← HP0.out] at i2
  have iz2 := iz.up hu2
  have hu02 := hu1.trans hu2
  have hu12 := hu2
  clear ho2 iz iv1 hu1 hu2
  go_wp2_with fail
  go_loopw [8, 19] (fun sv sj wr => ∃ i gx cx : Nat, i ≤ m ∧ n ≤ cx ∧ sj = .int .i64 (i : Int) ∧ sv = .slice (some ⟨gx, 0, none⟩) n cx ∧ IsI wr gx (P i) ∧ Up w2 wr) (fun _ sj _ => m - (intOf sj).toNat)
  case atStart => exact ⟨0, g2, c2, Nat.zero_le _, hc2, rfl, rfl, i2, Up.refl _⟩
  case round =>
    obtain ⟨i, gx, cx, hi, hcx, rfl, rfl, ix, hu⟩ := hrel
    have HCx : Hid _ := hcx
    clear hcx
    by_cases hlt : i < m
    · obtain ⟨a0, a1, a2, a3, k0, k1, k2, k3, hx⟩ := ((HNA.out.up (huW.trans hu02)).up hu).lay i hlt
      obtain ⟨H, cap, gs, caps, gb, cb, rfl, rfl, rfl, rfl, hR, ib⟩ := hx
      have HR : Hid _ := hR
      clear hR
      rw [Nat.mul_comm 4 i] at k0 k1 k2 k3
      have HSi : Hid _ := HS1.out i
      have HL7 : Hid _ := HLa.out i hlt
      obtain ⟨hpl, hpb⟩ := HPl.out i
      have HPL : Hid _ := hpl
      have HPB : Hid _ := hpb
      clear hpl hpb
      generalize layOf n l i = li at k0 k1 HR ib HSi HL7
      obtain ⟨hS0, hS1, hS2, hS3⟩ := keepC4 (hu12.trans hu) KP.out
      have hj0 : (0 : Int) ≤ (i : Int) := by omega
      have hj1 : (i : Int) < (m : Int) := by omega
      obtain ⟨W3, hW3⟩ : ∃ W, W = wr.alloc (.cells #[.bool (byteL li 1 == 1), .int .i64 (byteL li 2 : Nat), .slice (some ⟨H, 0, none⟩) d cap, .slice (some ⟨gb, 0, none⟩) n cb] 80) := ⟨_, rfl⟩
      have hu3 : Up wr W3 := by rw [hW3]; exact (Up.refl _).alloc _
      have KL : Hid (W3.cell? ⟨wr.heap.size, 0, none⟩ = some (.bool (byteL li 1 == 1)) ∧ W3.cell? ⟨wr.heap.size, 1, none⟩ = some (.int .i64 (byteL li 2 : Nat)) ∧ W3.cell? ⟨wr.heap.size, 2, none⟩ = some (.slice (some ⟨H, 0, none⟩) d cap) ∧ W3.cell? ⟨wr.heap.size, 3, none⟩ = some (.slice (some ⟨gb, 0, none⟩) n cb)) := by
        show _ ∧ _ ∧ _ ∧ _
        rw [hW3]
        exact ⟨by simp [go_sem], by simp [go_sem], by simp [go_sem], by simp [go_sem]⟩
      obtain ⟨hL0, hL1, hL2, hL3⟩ := KL.out
      have hT0 := keepC hu3 hS0
      have hT1 := keepC hu3 hS1
      have hT2 := keepC hu3 hS2
      have hT3 := keepC hu3 hS3
      subst hW3
      go_wp2_with fail
      refine (weighed_calls n t d q b li _ _ H cap gs caps gb cb gx cx _ _ HG.out HD.out HPL.out HPB.out (HR.out.up hu3) (ib.up hu3) (ix.up hu3) HCx.out).mono ?_
      rintro e w4 ⟨g4, c4, hc4, rfl, i4, hu4⟩
      clear hS0 hS1 hS2 hS3 hT0 hT1 hT2 hT3 hL0 hL1 hL2 hL3 k0 k1 k2 k3 hc4
      obtain ⟨hS0, hS1, hS2, hS3⟩ := keepC4 (((hu12.trans hu).trans hu3).trans hu4) KP.out
      obtain ⟨hL0, hL1, hL2, hL3⟩ := keepC4 hu4 KL.out
      have izz := ((iz2.up hu).up hu3).up hu4
      go_wp2_with fail
      refine (layBend_calls n t d q b li _ (zeroI n) (zeroI n) H cap gb cb g4 c4 _ _ _ _ _ HG.out HL7.out (appI_length _ _ _ _) (zeroI_length _) (zeroI_length _) (appI_lt _ _ _ _ (by omega)) (zeroI_lt _ _ (by omega)) (zeroI_lt _ _ (by omega)) i4 izz izz).mono ?_
      rintro e w5 ⟨g5, c5, hc5, rfl, i5, _, hu5⟩
      rw [bendI_zero n t li _ (by omega) (appI_length _ _ _ _) (appI_lt _ _ _ _ (by omega)), ← HSi.out] at i5
      have HC5 : Hid _ := hc5
      clear hS0 hS1 hS2 hS3 hL0 hL1 hL2 hL3 hc5
      go_wp2_with fail
      go_roundw
      case rel => exact ⟨i + 1, g5, c5, by omega, HC5.out, by go_num, rfl, i5, ((hu.trans hu3).trans hu4).trans hu5⟩
      case measure => simp [intOf]; omega
    · obtain rfl : i = m := by omega
      go_wp2_with fail
      go_ret
      exact ⟨gx, cx, rfl, ix, (huW.trans hu02).trans hu⟩

theorem ReadNet_yes (n d t : Nat) (q b : Int) (s : ByteArray) (w : World) (hs : s.size ≤ maxLen) (hn : n = 4 ∨ n = 8 ∨ n = 16) (hd : n / 2 = d) (h : netB s.data.toList n t = true) :
    Calls Tryz.prog 68 #[.agg #[.int .i64 n, .int .i64 t, .int .i64 q, .int .i64 b], .string s] w fun e w' => ∃ H cap, byteL s.data.toList 1 ≤ cap ∧ e = .returned (.tuple #[.slice (some ⟨H, 0, none⟩) (byteL s.data.toList 1) cap, .bool true]) ∧ NetAt w' H n d (byteL s.data.toList 1) s.data.toList ∧ Up w w' := by
  refine (ReadNet_calls n d t q b s w hs hn hd).mono ?_
  rintro e w' ⟨⟨_, H, cap, hc, rfl, hN⟩ | ⟨c, _⟩, hu⟩
  · exact ⟨H, cap, hc, rfl, hN, hu⟩
  · rw [h] at c
    cases c

theorem net_shift {l : List UInt8} {n : Nat} {t : Int} (h : netB l n t = true) : ∀ i, i < byteL l 1 → byteL (layOf n l i) 2 ≤ 7 := fun i hi => ((layB_iff _ _ _).1 (((netB_iff _ _ _).1 h).2.2.2.2.2 i hi)).2.2.2.1

set_option maxHeartbeats 2000000 in
theorem Plain_ok (n t : Nat) (q b : Int) (l v : ByteArray) (w : World) (hl : l.size ≤ maxLen) (hv : v.size ≤ maxLen) (g : NT n t) (hg : goodB n t q b = true) (h0 : netB l.data.toList n t = true) (h1 : okL v.data.toList n 2 t = true) :
    Calls Tryz.prog 23 #[.agg #[.int .i64 n, .int .i64 t, .int .i64 q, .int .i64 b], .string l, .string v] w fun e w' => e = .returned (.tuple #[.string ⟨(plainL n t l.data.toList v.data.toList).toArray⟩, .int .i64 0]) ∧ Up w w' := by
  have ht := g.t3
  have ht2 := g.ht
  have hhf := g.half
  have HN : Hid _ := fun W => ReadNet_yes n (n / 2) t q b l W hl g.hn rfl h0
  have HV : Hid _ := fun W => readValues_is n t q b v W hv (by omega) (by omega) h1
  have hN3 := ((netB_iff _ _ _).1 h0).2.2.2.1
  have HPn : Hid _ := fun (HN capN gv cv : Nat) W => layPlain_calls n t (n / 2) (byteL l.data.toList 1) q b l.data.toList (numsL v.data.toList 2 n) HN capN gv cv W g rfl hN3 (net_shift h0) (numsL_length _ _ _) (numsL_lt _ _ _ _ h1)
  have hpf := playI_facts n t l.data.toList (numsL v.data.toList 2 n) (numsL_length _ _ _) (numsL_lt _ _ _ _ h1) (by omega) (byteL l.data.toList 1)
  have HA : Hid (plainL n t l.data.toList v.data.toList = textsL 2 (playI n t l.data.toList (numsL v.data.toList 2 n) (byteL l.data.toList 1))) := rfl
  generalize plainL n t l.data.toList v.data.toList = ans at HA
  generalize playI n t l.data.toList (numsL v.data.toList 2 n) (byteL l.data.toList 1) = F at HPn HA hpf
  have HFl : Hid _ := hpf.1
  have HFb : Hid _ := hpf.2
  clear hpf
  generalize numsL v.data.toList 2 n = V at HV HPn
  have HWr : Hid (∀ gf cf W, IsI W gf F → Calls Tryz.prog 72 #[.slice (some ⟨gf, 0, none⟩) n cf] W fun e w' => e = .returned (.string ⟨ans.toArray⟩) ∧ Up W w') := fun gf cf W hi => by
    have := writeValues_calls F gf cf W (by rw [HFl.out]; omega) (fun i hi => by rw [HFl.out] at hi; have := HFb.out i hi; omega) hi
    rw [HFl.out, ← HA.out] at this
    exact this
  clear h0 h1
  generalize byteL l.data.toList 1 = N at HN HPn hN3
  go_enter Tryz.func23, Tryz.ntmps23
  go_wp2_with fail
  refine (Good_calls _ _ _ _ _).mono ?_
  rintro e' w1 ⟨rfl, hu1⟩
  obtain ⟨hc, hf⟩ := bcell hu1
  go_wp2_with fail
  refine Calls.mono (HN.out _) ?_
  rintro e' w2 ⟨H, cap, _, rfl, hNet, hu2⟩
  clear hc hf
  obtain ⟨hc, hf⟩ := bcell (hu1.trans hu2)
  go_wp2_with fail
  refine Calls.mono (HV.out _) ?_
  rintro e' w3 ⟨g3, c3, _, rfl, i3, _, hu3⟩
  have HNet : Hid _ := hNet.up hu3
  clear hc hf hNet
  obtain ⟨hc, hf⟩ := bcell ((hu1.trans hu2).trans hu3)
  go_wp2_with fail
  refine Calls.mono (HPn.out _ _ _ _ _ HNet.out i3) ?_
  rintro e' w4 ⟨g4, c4, rfl, i4, hu4⟩
  clear hc hf
  go_wp2_with fail
  refine Calls.mono (HWr.out _ _ _ i4) ?_
  rintro e' w5 ⟨rfl, hu5⟩
  go_wp2_with fail
  go_ret2
  exact ⟨rfl, (((((Up.refl _).alloc _).trans hu1).trans hu2).trans hu3).trans (hu4.trans hu5)⟩

end Go.Proofs.YtcjhgbljhpflfabGreat
