/-
  Walks: the program's call Bend, all ends.
-/
import Derived.Test.YtcjhgbljhpflfabCodeBn
import Derived.Test.YtcjhgbljhpflfabCodeLa
namespace Go.Proofs.Ytcjhgbljhpflfab
open Go.RowKit
set_option linter.unusedVariables false
set_option maxRecDepth 100000

abbrev BendNo (n t q b : Int) (l x y m : ByteArray) (e : Int) (w : World) : Prop :=
  Calls Try.prog 27 #[.agg #[.int .i64 n, .int .i64 t, .int .i64 q, .int .i64 b], .string l, .string x, .string y, .string m] w fun r w' => r = .returned (.tuple #[.string ⟨#[]⟩, .int .i64 e]) ∧ Up w w'

theorem readValues_is (n t : Nat) (q b : Int) (s : ByteArray) (w : World) (hs : s.size ≤ maxLen) (hn4 : 4 ≤ n) (hn : n ≤ 16) (hok : okL s.data.toList n 2 t = true) :
    Calls Try.prog 57 #[.agg #[.int .i64 n, .int .i64 t, .int .i64 q, .int .i64 b], .string s] w fun e w' => ∃ gv cv, n ≤ cv ∧ e = .returned (.tuple #[.slice (some ⟨gv, 0, none⟩) n cv, .bool true]) ∧ IsI w' gv (numsL s.data.toList 2 n) ∧ w.heap.size ≤ gv ∧ Up w w' := by
  refine (readValues_ok n t q b s w hs hn hok).mono ?_
  rintro e w' ⟨v, rfl, ho, hu⟩
  obtain ⟨gv, cv, rfl, hb, i, hc⟩ := ho.isc (ne_nil_of_length (numsL_length _ _ _) (by omega))
  rw [numsL_length] at hc ⊢
  exact ⟨gv, cv, hc, rfl, i, hb, hu⟩

set_option maxHeartbeats 400000 in
theorem Bend_bad (n t q b : Int) (l x y m : ByteArray) (w : World) (hg : goodB n t q b = false) : BendNo n t q b l x y m 1 w := by
  go_enter Try.func27, Try.ntmps27
  go_wp2_with (go_at_call 38; refine (Good_calls _ _ _ _ _).mono ?_; rintro e w' ⟨rfl, hu⟩)
  go_ret2
  exact ⟨rfl, ((Up.refl _).alloc _).trans hu⟩

set_option maxHeartbeats 1000000 in
theorem Bend_lay (n t : Nat) (q b : Int) (l x y m : ByteArray) (w : World) (hl : l.size ≤ maxLen) (g : NT n t) (hg : goodB n t q b = true) (h0 : layB l.data.toList n t = false) : BendNo n t q b l x y m 2 w := by
  have HLy : Hid _ := fun W => layRead_no n t q b l W hl g.hn h0
  clear h0
  go_enter Try.func27, Try.ntmps27
  go_wp2_with fail
  refine (Good_calls _ _ _ _ _).mono ?_
  rintro e' w1 ⟨rfl, hu1⟩
  obtain ⟨hc, hf⟩ := bcell hu1
  go_wp2_with fail
  refine Calls.mono (HLy.out _) ?_
  rintro e' w2 ⟨rfl, hu2⟩
  clear hc hf
  go_wp2_with fail
  go_ret2
  exact ⟨rfl, Up.alloc ((((Up.refl _).alloc _).trans hu1).trans hu2) _⟩

set_option maxHeartbeats 4000000 in
theorem Bend_val (n t : Nat) (q b : Int) (l x y m : ByteArray) (w : World) (hl : l.size ≤ maxLen) (hx : x.size ≤ maxLen) (hy : y.size ≤ maxLen) (hm : m.size ≤ maxLen) (g : NT n t) (hg : goodB n t q b = true) (h0 : layB l.data.toList n t = true)
    (h : okL x.data.toList n 2 t = false ∨ (okL x.data.toList n 2 t = true ∧ okL y.data.toList n 2 t = false) ∨ (okL x.data.toList n 2 t = true ∧ okL y.data.toList n 2 t = true ∧ okL m.data.toList n 2 t = false)) : BendNo n t q b l x y m 3 w := by
  have hhf := g.half
  have hn16 : n ≤ 16 := by omega
  have hn4 : 4 ≤ n := by omega
  have HLy : Hid _ := fun W => layRead_ok n (n / 2) t q b l W hl g.hn rfl h0
  clear h0
  generalize n / 2 = d at HLy hhf
  rcases h with v0 | ⟨v0, v1⟩ | ⟨v0, v1, v2⟩
  · have HV0 : Hid _ := fun W => readValues_no n t q b x W hx hn16 v0
    clear v0
    go_enter Try.func27, Try.ntmps27
    go_wp2_with fail
    refine (Good_calls _ _ _ _ _).mono ?_
    rintro e' w1 ⟨rfl, hu1⟩
    obtain ⟨hc, hf⟩ := bcell hu1
    go_wp2_with fail
    refine Calls.mono (HLy.out _) ?_
    rintro e' w2 ⟨bb, sh, H, cap, gs, caps, gb, cb, rfl, -, -, hR, ib, hu2⟩
    have huA : Up w2 (w2.alloc (.cells #[.bool bb, .int .i64 sh, .slice (some ⟨H, 0, none⟩) d cap, .slice (some ⟨gb, 0, none⟩) n cb] 91)) := (Up.refl _).alloc _
    have hu12 := (hu1.trans hu2).trans huA
    clear hc hf hR ib
    obtain ⟨hc, hf⟩ := bcell hu12
    go_wp2_with fail
    refine Calls.mono (HV0.out _) ?_
    rintro e' w3 ⟨rfl, hu3⟩
    clear hc hf
    go_wp2_with fail
    go_ret2
    exact ⟨rfl, (((Up.refl _).alloc _).trans hu12).trans hu3⟩
  · have HV0 : Hid _ := fun W => readValues_is n t q b x W hx hn4 hn16 v0
    have HV1 : Hid _ := fun W => readValues_no n t q b y W hy hn16 v1
    clear v0 v1
    go_enter Try.func27, Try.ntmps27
    go_wp2_with fail
    refine (Good_calls _ _ _ _ _).mono ?_
    rintro e' w1 ⟨rfl, hu1⟩
    obtain ⟨hc, hf⟩ := bcell hu1
    go_wp2_with fail
    refine Calls.mono (HLy.out _) ?_
    rintro e' w2 ⟨bb, sh, H, cap, gs, caps, gb, cb, rfl, -, -, hR, ib, hu2⟩
    have huA : Up w2 (w2.alloc (.cells #[.bool bb, .int .i64 sh, .slice (some ⟨H, 0, none⟩) d cap, .slice (some ⟨gb, 0, none⟩) n cb] 91)) := (Up.refl _).alloc _
    have hu12 := (hu1.trans hu2).trans huA
    clear hc hf hR ib
    obtain ⟨hc, hf⟩ := bcell hu12
    go_wp2_with fail
    refine Calls.mono (HV0.out _) ?_
    rintro e' w3 ⟨g3, c3, -, rfl, i3, -, hu3⟩
    have hu13 := hu12.trans hu3
    clear hc hf i3
    obtain ⟨hc, hf⟩ := bcell hu13
    go_wp2_with fail
    refine Calls.mono (HV1.out _) ?_
    rintro e' w4 ⟨rfl, hu4⟩
    clear hc hf
    go_wp2_with fail
    go_ret2
    exact ⟨rfl, (((Up.refl _).alloc _).trans hu13).trans hu4⟩
  · have HV0 : Hid _ := fun W => readValues_is n t q b x W hx hn4 hn16 v0
    have HV1 : Hid _ := fun W => readValues_is n t q b y W hy hn4 hn16 v1
    have HV2 : Hid _ := fun W => readValues_no n t q b m W hm hn16 v2
    clear v0 v1 v2
    go_enter Try.func27, Try.ntmps27
    go_wp2_with fail
    refine (Good_calls _ _ _ _ _).mono ?_
    rintro e' w1 ⟨rfl, hu1⟩
    obtain ⟨hc, hf⟩ := bcell hu1
    go_wp2_with fail
    refine Calls.mono (HLy.out _) ?_
    rintro e' w2 ⟨bb, sh, H, cap, gs, caps, gb, cb, rfl, -, -, hR, ib, hu2⟩
    have huA : Up w2 (w2.alloc (.cells #[.bool bb, .int .i64 sh, .slice (some ⟨H, 0, none⟩) d cap, .slice (some ⟨gb, 0, none⟩) n cb] 91)) := (Up.refl _).alloc _
    have hu12 := (hu1.trans hu2).trans huA
    clear hc hf hR ib
    obtain ⟨hc, hf⟩ := bcell hu12
    go_wp2_with fail
    refine Calls.mono (HV0.out _) ?_
    rintro e' w3 ⟨g3, c3, -, rfl, i3, -, hu3⟩
    have hu13 := hu12.trans hu3
    clear hc hf i3
    obtain ⟨hc, hf⟩ := bcell hu13
    go_wp2_with fail
    refine Calls.mono (HV1.out _) ?_
    rintro e' w4 ⟨g4, c4, -, rfl, i4, -, hu4⟩
    have hu14 := hu13.trans hu4
    clear hc hf i4
    obtain ⟨hc, hf⟩ := bcell hu14
    go_wp2_with fail
    refine Calls.mono (HV2.out _) ?_
    rintro e' w5 ⟨rfl, hu5⟩
    clear hc hf
    go_wp2_with fail
    go_ret2
    exact ⟨rfl, (((Up.refl _).alloc _).trans hu14).trans hu5⟩

set_option maxHeartbeats 4000000 in
theorem Bend_ok (n t : Nat) (q b : Int) (l x y m : ByteArray) (w : World) (hl : l.size ≤ maxLen) (hx : x.size ≤ maxLen) (hy : y.size ≤ maxLen) (hm : m.size ≤ maxLen) (g : NT n t) (hg : goodB n t q b = true) (h0 : layB l.data.toList n t = true)
    (v0 : okL x.data.toList n 2 t = true) (v1 : okL y.data.toList n 2 t = true) (v2 : okL m.data.toList n 2 t = true) :
    Calls Try.prog 27 #[.agg #[.int .i64 n, .int .i64 t, .int .i64 q, .int .i64 b], .string l, .string x, .string y, .string m] w fun e w' => e = .returned (.tuple #[.string ⟨(bendL n t l.data.toList x.data.toList y.data.toList m.data.toList).toArray⟩, .int .i64 0]) ∧ Up w w' := by
  have ht := g.t3
  have ht2 := g.ht
  have hhf := g.half
  have hn16 : n ≤ 16 := by omega
  have hn4 : 4 ≤ n := by omega
  have HLy : Hid _ := fun W => layRead_ok n (n / 2) t q b l W hl g.hn rfl h0
  have HV0 : Hid _ := fun W => readValues_is n t q b x W hx hn4 hn16 v0
  have HV1 : Hid _ := fun W => readValues_is n t q b y W hy hn4 hn16 v1
  have HV2 : Hid _ := fun W => readValues_is n t q b m W hm hn4 hn16 v2
  have HBe : Hid _ := fun (H cap gb cb g1 c1 g2 c2 g3 c3 : Nat) W => layBend_calls n t (n / 2) q b l.data.toList (numsL x.data.toList 2 n) (numsL y.data.toList 2 n) (numsL m.data.toList 2 n) H cap gb cb g1 c1 g2 c2 g3 c3 W g ((layB_iff _ _ _).1 h0).2.2.2.1 (numsL_length _ _ _) (numsL_length _ _ _) (numsL_length _ _ _) (numsL_lt _ _ _ _ v0) (numsL_lt _ _ _ _ v1) (numsL_lt _ _ _ _ v2)
  have HA : Hid (bendL n t l.data.toList x.data.toList y.data.toList m.data.toList = textsL 2 (bendI n t l.data.toList (numsL x.data.toList 2 n) (numsL y.data.toList 2 n) (numsL m.data.toList 2 n))) := rfl
  have HFl : Hid ((bendI n t l.data.toList (numsL x.data.toList 2 n) (numsL y.data.toList 2 n) (numsL m.data.toList 2 n)).length = n) := lessI_length _ _ _ _
  have HFb : Hid (∀ i, i < n → 0 ≤ (bendI n t l.data.toList (numsL x.data.toList 2 n) (numsL y.data.toList 2 n) (numsL m.data.toList 2 n)).getD i 0 ∧ (bendI n t l.data.toList (numsL x.data.toList 2 n) (numsL y.data.toList 2 n) (numsL m.data.toList 2 n)).getD i 0 < (t : Int)) := lessI_lt _ _ _ _ (by omega)
  generalize bendL n t l.data.toList x.data.toList y.data.toList m.data.toList = ans at HA
  generalize bendI n t l.data.toList (numsL x.data.toList 2 n) (numsL y.data.toList 2 n) (numsL m.data.toList 2 n) = F at HBe HA HFl HFb
  generalize numsL x.data.toList 2 n = X at HV0 HBe
  generalize numsL y.data.toList 2 n = Y at HV1 HBe
  generalize numsL m.data.toList 2 n = M at HV2 HBe
  have HWr : Hid (∀ gf cf W, IsI W gf F → Calls Try.prog 62 #[.slice (some ⟨gf, 0, none⟩) n cf] W fun e w' => e = .returned (.string ⟨ans.toArray⟩) ∧ Up W w') := fun gf cf W hi => by
    have := writeValues_calls F gf cf W (by rw [HFl.out]; omega) (fun i hi => by rw [HFl.out] at hi; have := HFb.out i hi; omega) hi
    rw [HFl.out, ← HA.out] at this
    exact this
  clear h0 v0 v1 v2
  generalize n / 2 = d at HLy hhf HBe
  go_enter Try.func27, Try.ntmps27
  go_wp2_with fail
  refine (Good_calls _ _ _ _ _).mono ?_
  rintro e' w1 ⟨rfl, hu1⟩
  obtain ⟨hc, hf⟩ := bcell hu1
  go_wp2_with fail
  refine Calls.mono (HLy.out _) ?_
  rintro e' w2 ⟨bb, sh, H, cap, gs, caps, gb, cb, rfl, hbb, hsh, hR, ib, hu2⟩
  have HB1 : Hid _ := hbb
  have HB2 : Hid _ := hsh
  clear hbb hsh
  have huA : Up w2 (w2.alloc (.cells #[.bool bb, .int .i64 sh, .slice (some ⟨H, 0, none⟩) d cap, .slice (some ⟨gb, 0, none⟩) n cb] 91)) := (Up.refl _).alloc _
  have hu12 := (hu1.trans hu2).trans huA
  have KL : Hid (∀ w', Up (w2.alloc (.cells #[.bool bb, .int .i64 sh, .slice (some ⟨H, 0, none⟩) d cap, .slice (some ⟨gb, 0, none⟩) n cb] 91)) w' → w'.cell? ⟨w2.heap.size, 0, none⟩ = some (.bool bb) ∧ w'.cell? ⟨w2.heap.size, 1, none⟩ = some (.int .i64 sh) ∧ w'.cell? ⟨w2.heap.size, 2, none⟩ = some (.slice (some ⟨H, 0, none⟩) d cap) ∧ w'.cell? ⟨w2.heap.size, 3, none⟩ = some (.slice (some ⟨gb, 0, none⟩) n cb)) := fun w' hu => keepC4 hu ⟨by simp [go_sem], by simp [go_sem], by simp [go_sem], by simp [go_sem]⟩
  clear hc hf hR ib
  obtain ⟨hc, hf⟩ := bcell hu12
  go_wp2_with fail
  refine Calls.mono (HV0.out _) ?_
  rintro e' w3 ⟨g3, c3, -, rfl, i3, -, hu3⟩
  have hu13 := hu12.trans hu3
  clear hc hf
  obtain ⟨hc, hf⟩ := bcell hu13
  go_wp2_with fail
  refine Calls.mono (HV1.out _) ?_
  rintro e' w4 ⟨g4, c4, -, rfl, i4, -, hu4⟩
  have hu14 := hu13.trans hu4
  clear hc hf
  obtain ⟨hc, hf⟩ := bcell hu14
  go_wp2_with fail
  refine Calls.mono (HV2.out _) ?_
  rintro e' w5 ⟨g5, c5, -, rfl, i5, -, hu5⟩
  have hu15 := hu14.trans hu5
  have j3 := (i3.up hu4).up hu5
  have j4 := i4.up hu5
  clear hc hf i3 i4
  obtain ⟨hc, hf⟩ := bcell hu15
  obtain ⟨hl0, hl1, hl2, hl3⟩ := KL.out w5 ((hu3.trans hu4).trans hu5)
  have hHBe := HBe.out H cap gb cb g3 c3 g4 c4 g5 c5 w5 j3 j4 i5
  rw [← HB1.out, ← HB2.out] at hHBe
  have HBc : Hid _ := hHBe
  clear hHBe HBe
  go_wp2_with fail
  refine Calls.mono HBc.out ?_
  rintro e' w6 ⟨g6, c6, -, rfl, i6, -, hu6⟩
  clear hc hf hl0 hl1 hl2 hl3
  go_wp2_with fail
  refine Calls.mono (HWr.out _ _ _ i6) ?_
  rintro e' w7 ⟨rfl, hu7⟩
  go_wp2_with fail
  go_ret2
  exact ⟨rfl, ((((Up.refl _).alloc _).trans hu15).trans hu6).trans hu7⟩

end Go.Proofs.Ytcjhgbljhpflfab
