/-
  Walks: the program's New, all ends.
-/
import Derived.Test.YtcjhgbljhpflfabGreatCodeSc
import Derived.Test.YtcjhgbljhpflfabGreatCodePl
namespace Go.Proofs.YtcjhgbljhpflfabGreat
open Go.RowKit
set_option linter.unusedVariables false
set_option maxRecDepth 100000

theorem keysRead_is (n : Nat) (s : ByteArray) (w : World) (hs : s.size ≤ maxLen) (hn1 : 1 ≤ n) (hn : n ≤ 16) (h : secB s.data.toList n = true) :
    Calls Tryz.prog 65 #[.int .i64 n, .string s] w fun e w' => ∃ g c, e = .returned (.tuple #[.slice (some ⟨g, 0, none⟩) n c, .bool true]) ∧ IsI w' g (secI s.data.toList n) ∧ Up w w' := by
  refine (keysRead_ok n s w hs hn h).mono ?_
  rintro e w' ⟨v, rfl, ho, hu⟩
  obtain ⟨g, c, rfl, _, i⟩ := ho.is (ne_nil_of_length (secI_length _ _) (by omega))
  rw [secI_length]
  exact ⟨g, c, rfl, i, hu⟩

/-- where a session begins -/
def St.begin (n : Nat) (v : List UInt8) : St := ⟨numsL v 2 n, zeroI n, []⟩

theorem St.begin_ok (D : Dat) (O : D.Ok) (v : List UInt8) (h : okL v D.n 2 D.t = true) : (St.begin D.n v).Ok D 0 :=
  ⟨numsL_length _ _ _, zeroI_length _, numsL_lt _ _ _ _ h, zeroI_lt _ _ (by have := O.nt.t3; omega), fun c => by omega⟩

set_option maxHeartbeats 4000000 in
theorem New_ok (D : Dat) (O : D.Ok) (net k m v : ByteArray) (w : World) (hl : net.size ≤ maxLen) (hk : k.size ≤ maxLen) (hm : m.size ≤ maxLen) (hv : v.size ≤ maxLen) (e0 : net.data.toList = D.net) (e1 : k.data.toList = D.key) (e2 : m.data.toList = D.tk) (h3 : okL v.data.toList D.n 2 D.t = true) :
    Calls Tryz.prog 19 #[.agg #[.int .i64 D.n, .int .i64 D.t, .int .i64 D.q, .int .i64 D.b], .string net, .string k, .string m, .string v] w fun r w' => ∃ X, r = .returned (.tuple #[.pointer (some ⟨X, 0, none⟩), .int .i64 0]) ∧ w.heap.size ≤ X ∧ SessAt w' X D 0 0 (St.begin D.n v.data.toList) ∧ Up w w' := by
  have g := O.nt
  have hhf := g.half
  have HN : Hid _ := fun W => ReadNet_yes D.n (D.n / 2) D.t D.q D.b net W hl g.hn rfl (by rw [e0]; exact O.net)
  have HK : Hid _ := fun W => keysRead_is D.n k W hk (by omega) (by omega) (by rw [e1]; exact O.sec)
  have HT : Hid _ := fun W => ReadTurnKey_ok D.n D.L D.t D.q D.b m W hm (by omega) (by omega) O.q1 O.q2 O.b1 O.b2 O.dig (by rw [e2]; exact O.turn)
  have HV : Hid _ := fun W => readValues_is D.n D.t D.q D.b v W hv (by omega) (by omega) h3
  rw [e0] at HN
  rw [e1] at HK
  rw [e2] at HT
  have hg := O.good
  have HiF : Hid _ := info_parts info_int
  obtain ⟨f0, hi0, hz0, hz1, hz2⟩ := HiF.out
  have HD : Hid _ := O
  have HB : Hid (St.begin D.n v.data.toList = ⟨numsL v.data.toList 2 D.n, zeroI D.n, []⟩) := rfl
  generalize St.begin D.n v.data.toList = SB at HB
  have hN1 := O.N1
  generalize hNe : byteL D.net 1 = N at HN
  have HNe : Hid _ := hNe
  have hn1 : 1 ≤ D.n := by omega
  have hn2 : D.n ≤ 16 := by omega
  clear h3 O g hNe hhf
  go_enter Tryz.func19, Tryz.ntmps19
  go_wp2_with fail
  refine (Good_calls _ _ _ _ _).mono ?_
  rintro e' w1 ⟨rfl, hu1⟩
  obtain ⟨hc, hf⟩ := bcell hu1
  go_wp2_with fail
  refine Calls.mono (HN.out _) ?_
  rintro e' w2 ⟨H, cap, hcap, rfl, hNet, hu2⟩
  have HNet : Hid _ := hNet
  have HCap : Hid _ := hcap
  clear hc hf hNet hcap
  have hu12 := hu1.trans hu2
  obtain ⟨hc, hf⟩ := bcell hu12
  go_wp2_with fail
  refine Calls.mono (HK.out _) ?_
  rintro e' w3 ⟨gk, ck, rfl, ik, hu3⟩
  clear hc hf
  have hu13 := hu12.trans hu3
  obtain ⟨hc, hf⟩ := bcell hu13
  go_wp2_with fail
  refine Calls.mono (HT.out _) ?_
  rintro e' w4 ⟨H2, cap2, gs2, caps2, rfl, hR2, hu4⟩
  have HR2 : Hid _ := hR2
  clear hc hf hR2
  have hu14 := hu13.trans hu4
  obtain ⟨hc, hf⟩ := bcell hu14
  go_wp2_with fail
  refine Calls.mono (HV.out _) ?_
  rintro e' w5 ⟨g5, c5, _, rfl, i5, _, hu5⟩
  have hu15 := hu14.trans hu5
  clear hc hf
  go_wp2_with (at_make; refine wpList_make_full _ rfl _ _ 54 rfl w5.heap.size 3 f0 (.int .i64 0) 1 Tryz.underlying54 hi0 hz0 hz1 .i64 .i64 _ _ D.n rfl rfl rfl rfl (by rw [hz2]; omega) (by unfold maxLen; omega) (Nat.le_refl _) ?_)
  intro w6 hown6 hg6
  have ho6 := made_row hown6 (fun _ => 0) (fun _ => rfl)
  have hu6 := Up.made hg6
  have iz := OwnI.isI ho6
  rw [show ((List.range D.n).map fun _ => (0 : Int)) = zeroI D.n from rfl] at iz
  have hu16 := hu15.trans hu6
  clear hown6 hg6 ho6 hi0 hz0 hz1 hz2
  have hP0 := keepC (p := ⟨w.heap.size, 0, none⟩) (u := .int .i64 (D.n : Int)) hu16 (by simp)
  have hP1 := keepC (p := ⟨w.heap.size, 1, none⟩) (u := .int .i64 (D.t : Int)) hu16 (by simp)
  have hP2 := keepC (p := ⟨w.heap.size, 2, none⟩) (u := .int .i64 D.q) hu16 (by simp)
  have hP3 := keepC (p := ⟨w.heap.size, 3, none⟩) (u := .int .i64 D.b) hu16 (by simp)
  go_wp2_with fail
  go_ret2
  have eN0 : D.N = N := HNe.out
  have eN : D.N - 0 = N := by rw [Nat.sub_zero]; exact eN0
  obtain ⟨W, hW⟩ : ∃ W, W = w6.alloc (.cells #[.int .i64 D.n, .int .i64 D.t, .int .i64 D.q, .int .i64 D.b, .slice (some ⟨gk, 0, none⟩) D.n ck, .slice (some ⟨H2, 0, none⟩) D.L cap2, .slice (some ⟨H, 0, none⟩) N cap, .int .i64 0, .slice (some ⟨g5, 0, none⟩) D.n c5, .slice (some ⟨w5.heap.size, 0, none⟩) D.n D.n, .int .i64 0, .slice none 0 0, .slice none 0 0] 126) := ⟨_, rfl⟩
  have huA : Up w6 W := by rw [hW]; exact (Up.refl _).alloc _
  have hall : Up w w6 := ((Up.refl _).alloc _).trans hu16
  have hSC : SC W w6.heap.size D.n D.t D.q D.b (.slice (some ⟨gk, 0, none⟩) D.n ck) (.slice (some ⟨H2, 0, none⟩) D.L cap2) (.slice (some ⟨H, 0, none⟩) N cap) 0 (.slice (some ⟨g5, 0, none⟩) D.n c5) (.slice (some ⟨w5.heap.size, 0, none⟩) D.n D.n) (.int .i64 0) (.slice none 0 0) (.slice none 0 0) := by
    rw [hW]
    exact ⟨by simp [go_sem], by simp [go_sem], by simp [go_sem], by simp [go_sem], by simp [go_sem], by simp [go_sem], by simp [go_sem], by simp [go_sem], by simp [go_sem], by simp [go_sem], by simp [go_sem], by simp [go_sem], by simp [go_sem], fun o => by simp [go_sem]⟩
  have hR4 := ((HR2.out.up hu5).up hu6).up huA
  have hK4 := (((ik.up hu4).up hu5).up hu6).up huA
  have hN4 := ((((HNet.out.up hu3).up hu4).up hu5).up hu6).up huA
  have hI4 := (i5.up hu6).up huA
  have hZ4 := iz.up huA
  refine ⟨w6.heap.size, rfl, hall.size, ?_, ?_⟩
  · rw [HB.out]
    show SessAt _ _ _ _ _ _
    refine ⟨gk, ck, H2, cap2, gs2, caps2, H, 0, cap, g5, c5, w5.heap.size, D.n, .int .i64 0, .slice none 0 0, .slice none 0 0, ?_, Nat.le_refl _, ⟨by rw [eN]; exact HCap.out, fun _ => rfl⟩, ?_, ?_, ?_, ?_, ?_, fun c => by omega⟩
    · rw [eN, ← hW]; exact hSC
    · rw [← hW]; exact hK4
    · rw [← hW]; exact hR4
    · rw [← hW, eN0]; exact hN4
    · rw [← hW]; exact hI4
    · rw [← hW]; exact hZ4
  · rw [← hW]
    exact hall.trans huA

end Go.Proofs.YtcjhgbljhpflfabGreat
