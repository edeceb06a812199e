/-
  Walks: the reference's Bend.
  Walks: what a layer of the program makes of a number, of both shares.
  Walks: the program's call Bend, all ends.
-/
import Derived.Test.YtcjhgbljhpflfabGreatWalksNa
import Derived.Test.YtcjhgbljhpflfabGreatCodeLw
import Derived.Test.YtcjhgbljhpflfabGreatCodeLa
namespace Go.Proofs.YtcjhgbljhpflfabGreat
open Go.RowKit
set_option linter.unusedVariables false
set_option maxRecDepth 100000

/-- what Bend answers -/
def bendI (n : Nat) (t : Int) (l : List UInt8) (a b m : List Int) : List Int := lessI n (bentI n t l (plusI n a b t)) m t
theorem plusI_lt (n : Nat) (xs ys : List Int) (t : Int) (ht : 0 < t) : ∀ i, i < n → 0 ≤ (plusI n xs ys t).getD i 0 ∧ (plusI n xs ys t).getD i 0 < t := by
  intro i hi
  unfold plusI
  rw [getD_range hi]
  exact mod_bounds ht _

end Go.Proofs.YtcjhgbljhpflfabGreat

namespace Go.Proofs.YtcjhgbljhpflfabGreat
open Go.RowKit
set_option linter.unusedVariables false
set_option maxRecDepth 100000

theorem overI_div (v : Int) (k : Nat) : overI v k = v / 2 ^ k := by
  induction k with
  | zero => simp [overI]
  | succ k ih =>
    rw [overI, ih, Int.pow_succ, Int.ediv_ediv_of_nonneg (Int.pow_nonneg (by decide))]

/-- what a layer makes of a centred number -/
def bnI (bb : Bool) (s : Nat) (v : Int) : Int := overI (if bb = true ∧ v < 0 then 0 else v) s

theorem overI_zero (k : Nat) : overI 0 k = 0 := by
  induction k with
  | zero => rfl
  | succ k ih => rw [overI, ih]; rfl

set_option maxHeartbeats 1000000 in
theorem bendNumber_calls (bb : Bool) (s : Nat) (x2 x3 : Value) (v : Int) (w : World) (hs : s ≤ 7) :
    Calls Tryz.prog 150 #[.agg #[.bool bb, .int .i64 (s : Int), x2, x3], .int .i64 v] w fun e w' => e = .returned (.int .i64 (bnI bb s v)) ∧ Up w w' := by
  have HZ : Hid _ := overI_zero s
  have HD : Hid _ := overI_div v s
  by_cases hv : v < 0
  · cases bb with
    | true =>
      have HE : Hid (bnI true s v = 0) := show _ = _ by unfold bnI; rw [if_pos ⟨rfl, hv⟩, HZ.out]
      go_enter Tryz.func150, Tryz.ntmps150
      go_wp2_with fail
      go_ret
      exact ⟨ret_int HE.out.symm, (Up.refl _).alloc _⟩
    | false =>
      have HE : Hid (bnI false s v = v / 2 ^ s) := show _ = _ by unfold bnI; rw [if_neg (by simp), HD.out]
      go_enter Tryz.func150, Tryz.ntmps150
      go_wp2_with fail
      go_ret
      exact ⟨ret_int HE.out.symm, (Up.refl _).alloc _⟩
  · have HE : Hid (bnI bb s v = v / 2 ^ s) := show _ = _ by unfold bnI; rw [if_neg (fun h => hv h.2), HD.out]
    cases bb with
    | true =>
      go_enter Tryz.func150, Tryz.ntmps150
      go_wp2_with fail
      go_ret
      exact ⟨ret_int HE.out.symm, (Up.refl _).alloc _⟩
    | false =>
      go_enter Tryz.func150, Tryz.ntmps150
      go_wp2_with fail
      go_ret
      exact ⟨ret_int HE.out.symm, (Up.refl _).alloc _⟩

theorem bnI_bounds (bb : Bool) (s : Nat) (v m : Int) (h : -m ≤ v) (h2 : v ≤ m) (hm : 0 ≤ m) : -m ≤ bnI bb s v ∧ bnI bb s v ≤ m := by
  unfold bnI
  split
  · exact overI_bounds _ _ _ (by omega) (by omega) hm
  · exact overI_bounds _ _ _ h h2 hm

/-- what Bend makes of the sum, ahead of the mask -/
def bnL (n : Nat) (t : Int) (l : List UInt8) (vs : List Int) : List Int := (List.range n).map fun i => bnI (byteL l 1 == 1) (byteL l 2) (cenC t (vs.getD i 0))

theorem bnL_length (n : Nat) (t : Int) (l : List UInt8) (vs : List Int) : (bnL n t l vs).length = n := by simp [bnL]

theorem bnL_less (n : Nat) (t : Int) (l : List UInt8) (vs ms : List Int) : plusI n (bnL n t l vs) (scaledI n ms (-1) t) t = lessI n (bentI n t l vs) ms t := by
  refine list_same (n := n) (plusI_length _ _ _ _) (lessI_length _ _ _ _) fun i hi => ?_
  rw [plusI, getD_range hi, plusC, scaledI, getD_range hi, scaledC, lessI, getD_range hi, lessC, add_mod_right, bnL, getD_range hi, bentI, getD_range hi, bentC]
  have e : bnI (byteL l 1 == 1) (byteL l 2) (cenC t (vs.getD i 0)) = overI (bentX l (cenC t (vs.getD i 0))) (byteL l 2) := by
    unfold bnI bentX
    congr 1
    by_cases h : byteL l 1 = 1
    · by_cases h2 : cenC t (vs.getD i 0) < 0
      · rw [if_pos ⟨by simpa using h, h2⟩, if_pos ⟨h2, h⟩]
      · rw [if_neg (fun c => h2 c.2), if_neg (fun c => h2 c.1)]
    · rw [if_neg (fun c => h (by simpa using c.1)), if_neg (fun c => h c.2)]
  rw [e]
  generalize overI (bentX l (cenC t (vs.getD i 0))) (byteL l 2) = y
  rw [show y % t - ms.getD i 0 = y % t + -ms.getD i 0 by omega, add_mod_left]
  congr 1
  omega

set_option maxHeartbeats 4000000 in
theorem layBend_calls (n t d : Nat) (q b : Int) (l : List UInt8) (xs ys ms : List Int) (H cap gb cb g1 c1 g2 c2 g3 c3 : Nat) (w : World) (g : NT n t) (hsh : byteL l 2 ≤ 7) (lx : xs.length = n) (ly : ys.length = n) (lm : ms.length = n) (bx : ∀ i, i < n → 0 ≤ xs.getD i 0 ∧ xs.getD i 0 < (t : Int)) (by' : ∀ i, i < n → 0 ≤ ys.getD i 0 ∧ ys.getD i 0 < (t : Int)) (bm : ∀ i, i < n → 0 ≤ ms.getD i 0 ∧ ms.getD i 0 < (t : Int)) (ix : IsI w g1 xs) (iy : IsI w g2 ys) (im : IsI w g3 ms) :
    Calls Tryz.prog 125 #[.agg #[.int .i64 n, .int .i64 t, .int .i64 q, .int .i64 b], .agg #[.bool (byteL l 1 == 1), .int .i64 (byteL l 2 : Nat), .slice (some ⟨H, 0, none⟩) d cap, .slice (some ⟨gb, 0, none⟩) n cb], .slice (some ⟨g1, 0, none⟩) n c1, .slice (some ⟨g2, 0, none⟩) n c2, .slice (some ⟨g3, 0, none⟩) n c3] w fun e w' => ∃ g' c', n ≤ c' ∧ e = .returned (.slice (some ⟨g', 0, none⟩) n c') ∧ IsI w' g' (bendI n t l xs ys ms) ∧ w.heap.size ≤ g' ∧ Up w w' := by
  have ht := g.t3
  have ht2 := g.ht
  have hhf := g.half
  have hodd : (t : Int) % 2 = 1 := by
    have h5 := g.hm
    rcases g.hn with rfl | rfl | rfl <;> omega
  have hn4 : 4 ≤ n := by omega
  have hn16 : n ≤ 16 := by omega
  have HAd : Hid (∀ W, IsI W g1 xs → IsI W g2 ys → Calls Tryz.prog 77 #[.slice (some ⟨g1, 0, none⟩) n c1, .slice (some ⟨g2, 0, none⟩) n c2, .int .i64 t] W fun e w' => ∃ g' c', e = .returned (.slice (some ⟨g', 0, none⟩) n c') ∧ IsI w' g' (plusI n xs ys t) ∧ Up W w') := fun W h1 h2 => by
    refine (ringAdd_calls n xs ys g1 g2 c1 c2 t W hn16 lx ly (by omega) (by omega) (small_bnd n t xs _ (by omega) (by omega) lx bx) (small_bnd n t ys _ (by omega) (by omega) ly by') h1 h2).mono ?_
    rintro e w' ⟨v, rfl, ho, hu⟩
    obtain ⟨g', c', rfl, _, i⟩ := ho.is (ne_nil_of_length (plusI_length _ _ _ _) (by omega))
    rw [plusI_length]
    exact ⟨g', c', rfl, i, hu⟩
  have HSu : Hid (∀ W (g' c' : Nat), IsI W g' (bnL n t l (plusI n xs ys t)) → IsI W g3 ms → Calls Tryz.prog 93 #[.slice (some ⟨g', 0, none⟩) n c', .slice (some ⟨g3, 0, none⟩) n c3, .int .i64 t] W fun e w' => ∃ g2 c2, n ≤ c2 ∧ e = .returned (.slice (some ⟨g2, 0, none⟩) n c2) ∧ IsI w' g2 (bendI n t l xs ys ms) ∧ W.heap.size ≤ g2 ∧ Up W w') := fun W g' c' h1 h2 => by
    refine (ringSub_calls n _ ms g' g3 c' c3 t W hn16 (by omega) (bnL_length _ _ _ _) lm (by omega) (by omega) (fun i => ?_) (small_bnd n t ms _ (by omega) (by omega) lm bm) h1 h2).mono ?_
    · rcases Nat.lt_or_ge i n with c | c
      · rw [bnL, getD_range c]
        have h1 := plusI_lt n xs ys (t : Int) (by omega) i c
        have h2 := cenC_bounds (t : Int) _ h1.1 h1.2
        have h3 := bnI_bounds (byteL l 1 == 1) (byteL l 2) (cenC t ((plusI n xs ys t).getD i 0)) 4294967296 (by omega) (by omega) (by omega)
        exact h3
      · rw [getD_out _ _ (by rw [bnL_length]; exact c)]; omega
    · rintro e w' ⟨v, rfl, ho, hu⟩
      obtain ⟨g2, c2, rfl, hb, i, hc⟩ := ho.isc (ne_nil_of_length (plusI_length _ _ _ _) (by omega))
      rw [plusI_length] at hc ⊢
      rw [bnL_less] at i
      exact ⟨g2, c2, hc, rfl, i, hb, hu⟩
  have HPb : Hid _ := plusI_lt n xs ys (t : Int) (by omega)
  have HPl : Hid _ := plusI_length n xs ys (t : Int)
  have HBd : Hid (bnL n t l (plusI n xs ys t) = (List.range n).map fun i => bnI (byteL l 1 == 1) (byteL l 2) (cenC t ((plusI n xs ys t).getD i 0))) := rfl
  have HBl : Hid _ := bnL_length n t l (plusI n xs ys t)
  generalize bendI n t l xs ys ms = F at HSu
  generalize bnL n t l (plusI n xs ys t) = BL at HSu HBd HBl
  generalize plusI n xs ys (t : Int) = PP at HAd HPb HPl HBd
  generalize (byteL l 1 == 1) = bb at HBd
  generalize byteL l 2 = s at HBd hsh
  have HFs : Hid (∀ k, (List.range (k + 1)).map (fun i => bnI bb s (cenC t (PP.getD i 0))) = (List.range k).map (fun i => bnI bb s (cenC t (PP.getD i 0))) ++ [bnI bb s (cenC t (PP.getD k 0))]) := fun k => map_range_succ _ _
  have HFl : Hid (∀ k, ((List.range k).map (fun i => bnI bb s (cenC t (PP.getD i 0)))).length = k) := fun k => by simp
  generalize hFF : (fun i => bnI bb s (cenC t (PP.getD i 0))) = FF at HFs HFl HBd
  clear hFF lx ly lm bx by' bm
  obtain ⟨W, hW⟩ : ∃ W, W = (w.alloc (.cells #[.int .i64 n, .int .i64 t, .int .i64 q, .int .i64 b] 28)).alloc (.cells #[.bool bb, .int .i64 (s : Int), .slice (some ⟨H, 0, none⟩) d cap, .slice (some ⟨gb, 0, none⟩) n cb] 80) := ⟨_, rfl⟩
  have huW : Up w W := by rw [hW]; exact ((Up.refl _).alloc _).alloc _
  have hS1 : W.cell? ⟨w.heap.size, 1, none⟩ = some (.int .i64 (t : Int)) := by rw [hW]; simp [go_sem]
  have KL : Hid (W.cell? ⟨w.heap.size + 1, 0, none⟩ = some (.bool bb) ∧ W.cell? ⟨w.heap.size + 1, 1, none⟩ = some (.int .i64 (s : Int)) ∧ W.cell? ⟨w.heap.size + 1, 2, none⟩ = some (.slice (some ⟨H, 0, none⟩) d cap) ∧ W.cell? ⟨w.heap.size + 1, 3, none⟩ = some (.slice (some ⟨gb, 0, none⟩) n cb)) := by
    show _ ∧ _ ∧ _ ∧ _
    rw [hW]
    exact ⟨by simp [go_sem], by simp [go_sem], by simp [go_sem], by simp [go_sem]⟩
  have KS1 : Hid _ := hS1
  go_enter Tryz.func125, Tryz.ntmps125
  go_wp2_with fail
  rw [← hW]
  clear hW
  refine Calls.mono (HAd.out _ (ix.up huW) (iy.up huW)) ?_
  rintro r w1 ⟨g4, c4, rfl, i4, hu1⟩
  clear hS1
  have hsz1 : w.heap.size ≤ w1.heap.size := (huW.trans hu1).size
  go_wp2_with fail
  go_loopw [12, 23] (fun v j wr => ∃ k : Nat, k ≤ n ∧ j = .int .i64 (k : Int) ∧ OwnI wr w1.heap.size v ((List.range k).map FF) ∧ Up w1 wr) (fun _ j _ => n - (intOf j).toNat)
  case atStart => exact ⟨0, Nat.zero_le _, rfl, World.ownsRow_nil _ _ _ _, Up.refl _⟩
  case round =>
    obtain ⟨k, hk, rfl, hown, hu⟩ := hrel
    by_cases hlt : k < n
    · have hcx := (i4.up hu).2 k (by rw [HPl.out]; omega)
      have hxb := HPb.out k hlt
      have HR : Hid _ := HFs.out k
      generalize PP.getD k 0 = x at hcx hxb HR
      have hS1 := keepC (hu1.trans hu) KS1.out
      obtain ⟨hL0, hL1, hL2, hL3⟩ := keepC4 (hu1.trans hu) KL.out
      have hi0 : (0 : Int) ≤ (k : Int) := by omega
      have hi1 : (k : Int) < (n : Int) := by omega
      go_wp2_with (go_at_call 149; refine (Centre_calls _ _ _ hxb.1 hxb.2 (by omega) hodd).mono ?_; rintro e w' ⟨rfl, rfl⟩)
      refine (bendNumber_calls bb s _ _ _ _ hsh).mono ?_
      rintro e w3 ⟨rfl, hu3⟩
      have hown3 := hown.up hu3
      have hsz3 : w1.heap.size ≤ w3.heap.size := (hu.trans hu3).size
      clear hown hcx hS1 hL0 hL1 hL2 hL3
      generalize bnI bb s (cenC t x) = y at HR ⊢
      go_wp2_with (at_builtin; refine append_int _ _ rfl (.tmp 31) (.tmp 35) rfl _ _ _ rfl hown3 rfl (by rw [HFl.out]; omega) hsz3 ?_)
      intro v4 w4 hown4 hg4 hb4 _
      clear hown3
      go_wp2_with fail
      go_roundw
      case rel => exact ⟨k + 1, by omega, by go_num, by rw [HR.out]; exact hown4, Below.trans (hu.trans hu3) hb4⟩
      case measure => simp [intOf]; omega
    · obtain rfl : k = n := by omega
      have hbe : (List.range k).map FF = BL := HBd.out.symm
      rw [hbe] at hown
      obtain ⟨g5, c5, rfl, _, i5⟩ := hown.is (ne_nil_of_length HBl.out (by omega))
      rw [HBl.out]
      have hS1 := keepC (hu1.trans hu) KS1.out
      clear hown hbe
      go_wp2_with fail
      refine Calls.mono (HSu.out _ g5 c5 i5 (im.up ((huW.trans hu1).trans hu))) ?_
      rintro r w6 ⟨g6, c6, hc6, rfl, i6, hg6, hu6⟩
      have HC6 : Hid _ := hc6
      have HG6 : Hid (w.heap.size ≤ g6) := Nat.le_trans ((huW.trans hu1).trans hu).size hg6
      clear hc6 hg6 hS1
      go_wp2_with fail
      go_ret
      exact ⟨g6, c6, HC6.out, rfl, i6, HG6.out, ((huW.trans hu1).trans hu).trans hu6⟩

end Go.Proofs.YtcjhgbljhpflfabGreat

namespace Go.Proofs.YtcjhgbljhpflfabGreat
open Go.RowKit
set_option linter.unusedVariables false
set_option maxRecDepth 100000

theorem readValues_is (n t : Nat) (q b : Int) (s : ByteArray) (w : World) (hs : s.size ≤ maxLen) (hn4 : 4 ≤ n) (hn : n ≤ 16) (hok : okL s.data.toList n 2 t = true) :
    Calls Tryz.prog 36 #[.agg #[.int .i64 n, .int .i64 t, .int .i64 q, .int .i64 b], .string s] w fun e w' => ∃ gv cv, n ≤ cv ∧ e = .returned (.tuple #[.slice (some ⟨gv, 0, none⟩) n cv, .bool true]) ∧ IsI w' gv (numsL s.data.toList 2 n) ∧ w.heap.size ≤ gv ∧ Up w w' := by
  refine (readValues_ok n t q b s w hs hn hok).mono ?_
  rintro e w' ⟨v, rfl, ho, hu⟩
  obtain ⟨gv, cv, rfl, hb, i, hc⟩ := ho.isc (ne_nil_of_length (numsL_length _ _ _) (by omega))
  rw [numsL_length] at hc ⊢
  exact ⟨gv, cv, hc, rfl, i, hb, hu⟩

end Go.Proofs.YtcjhgbljhpflfabGreat
