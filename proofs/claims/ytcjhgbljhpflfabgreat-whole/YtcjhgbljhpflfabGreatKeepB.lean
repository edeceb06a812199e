/-
  Walks: the small functions of the statements without the document's answer.
  Walks: values, sums by slot, the key, and parameters that are good, in the statements without the document's answer.
-/
import Derived.Test.YtcjhgbljhpflfabGreatCodeQ
import Derived.Test.YtcjhgbljhpflfabGreatCodeK
import Derived.Test.YtcjhgbljhpflfabGreatKeepA
namespace Go.Proofs.YtcjhgbljhpflfabGreat
open Go.RowKit
set_option linter.unusedVariables false
set_option maxRecDepth 100000

set_option maxHeartbeats 1000000 in
theorem keepPick_calls (c : Int) (m : Nat) (w : World) (hc : -9223372036854775808 ≤ c) (hc2 : c ≤ 9223372036854775807) (hm : 0 < m) (hm2 : m ≤ 1000) :
    Calls Tryz.prog 63 #[.int .i64 c, .int .i64 m] w fun e w' => ∃ k : Nat, k < m ∧ e = .returned (.int .i64 k) ∧ w' = w := by
  by_cases h : c < 0
  · have h1 := mod_bounds (show (0 : Int) < (m : Int) by omega) (-(c + 1))
    have HE : Hid (-(c + 1).tmod (m : Int) = ((-(c + 1) % (m : Int)).toNat : Int)) := show -(c + 1).tmod (m : Int) = ((-(c + 1) % (m : Int)).toNat : Int) by
      rw [← Int.neg_tmod, Int.tmod_eq_emod_of_nonneg (by omega)]; omega
    go_enter Tryz.func63, Tryz.ntmps63
    go_wp2
    go_ret
    exact ⟨(-(c + 1) % (m : Int)).toNat, by omega, ret_int HE.out, rfl⟩
  · have h1 := mod_bounds (show (0 : Int) < (m : Int) by omega) c
    have HE : Hid (c % (m : Int) = ((c % (m : Int)).toNat : Int)) := show _ = _ by omega
    go_enter Tryz.func63, Tryz.ntmps63
    go_wp2
    go_ret
    exact ⟨(c % (m : Int)).toNat, by omega, ret_int HE.out, rfl⟩

set_option maxHeartbeats 1000000 in
theorem keepFits_calls (n t q b e : Int) (w : World) (ht : 1 ≤ t) (ht2 : t ≤ 1021) (hq : 0 ≤ q) (hq2 : q ≤ 1073741823) (he : 0 ≤ e) (he2 : e ≤ 1125899906842624) :
    Calls Tryz.prog 74 #[.agg #[.int .i64 n, .int .i64 t, .int .i64 q, .int .i64 b], .int .i64 e] w fun r w' => r = .returned (.bool (fitsB t q e)) ∧ Up w w' := by
  have h1 := Int.emod_nonneg q (b := t) (by omega)
  have h2 := Int.emod_lt_of_pos q (b := t) (by omega)
  have h3 : 0 ≤ t * e := Int.mul_nonneg (by omega) he
  have h4 : t * e ≤ 1021 * 1125899906842624 := Int.mul_le_mul ht2 he2 he (by omega)
  have h5 : 0 ≤ q % t * (t - 1) := Int.mul_nonneg h1 (by omega)
  have h6 : q % t * (t - 1) ≤ 1021 * 1021 := Int.mul_le_mul (by omega) (by omega) (by omega) (by omega)
  have e1 : IntKind.i64.wrap (t * e) = t * e := IntWalk.i64_in _ (by omega)
  have e2 : IntKind.i64.wrap (t - 1) = t - 1 := IntWalk.i64_in _ (by omega)
  have e3 : IntKind.i64.wrap (q % t * (t - 1)) = q % t * (t - 1) := IntWalk.i64_in _ (by omega)
  have e4 : IntKind.i64.wrap (t * e + q % t * (t - 1)) = t * e + q % t * (t - 1) := IntWalk.i64_in _ (by omega)
  have e5 : IntKind.i64.wrap (2 * (t * e + q % t * (t - 1))) = 2 * (t * e + q % t * (t - 1)) := IntWalk.i64_in _ (by omega)
  have eR : q.tmod t = q % t := Int.tmod_eq_emod_of_nonneg hq
  have et1 : ¬ t = 0 := by omega
  have et0 : (t == 0) = false := beq_eq_false_iff_ne.2 et1
  go_enter Tryz.func74, Tryz.ntmps74
  go_wp2_with fail
  go_quiet (fail)
  go_wp2_with fail
  go_ret
  exact ⟨rfl, Up.drewN ((Up.refl _).alloc _)⟩

set_option maxHeartbeats 1000000 in
theorem keepGood_n (n t q b : Int) (w : World) (hn : ¬ (n = 4 ∨ n = 8 ∨ n = 16)) :
    Calls Tryz.prog 117 #[.agg #[.int .i64 n, .int .i64 t, .int .i64 q, .int .i64 b]] w fun r w' => r = .returned (.bool (goodB n t q b)) ∧ Up w w' := by
  have H : Hid (goodB n t q b = false) := goodB_nn hn
  have h1 : (n != 4) = true := by rw [bne_iff_ne]; omega
  have h2 : (n != 8) = true := by rw [bne_iff_ne]; omega
  have h3 : (n != 16) = true := by rw [bne_iff_ne]; omega
  clear hn
  go_enter Tryz.func117, Tryz.ntmps117
  go_wp2
  go_ret
  exact ⟨ret_bool H.out.symm, (Up.refl _).alloc _⟩

theorem goodB_lo {n t q b : Int} (h : t < 2) : goodB n t q b = false := goodB_np (prmB_small h)

set_option maxHeartbeats 4000000 in
theorem keepGood_out (n t q b : Int) (w : World) (hn : n = 4 ∨ n = 8 ∨ n = 16) (h : t < 2 ∨ (2 ≤ t ∧ 1021 < t) ∨ (2 ≤ t ∧ t ≤ 1021 ∧ q < 2) ∨ (2 ≤ t ∧ t ≤ 1021 ∧ 2 ≤ q ∧ 1073741823 < q) ∨ (2 ≤ t ∧ t ≤ 1021 ∧ 2 ≤ q ∧ q ≤ 1073741823 ∧ b < 1) ∨ (2 ≤ t ∧ t ≤ 1021 ∧ 2 ≤ q ∧ q ≤ 1073741823 ∧ 1 ≤ b ∧ 8 < b)) :
    Calls Tryz.prog 117 #[.agg #[.int .i64 n, .int .i64 t, .int .i64 q, .int .i64 b]] w fun r w' => r = .returned (.bool (goodB n t q b)) ∧ Up w w' := by
  have H : Hid (goodB n t q b = false) := by
    rcases h with h | h | h | h | h | h
    · exact goodB_lo h
    all_goals exact goodB_no (by omega)
  rcases hn with rfl | rfl | rfl
  all_goals
    rcases h with h | ⟨h1, h⟩ | ⟨h1, h2, h⟩ | ⟨h1, h2, h3, h⟩ | ⟨h1, h2, h3, h4, h⟩ | ⟨h1, h2, h3, h4, h5, h⟩
    all_goals
      go_enter Tryz.func117, Tryz.ntmps117
      go_wp2
      go_ret
      exact ⟨ret_bool H.out.symm, (Up.refl _).alloc _⟩

set_option maxHeartbeats 4000000 in
theorem keepGood_in (n t q b : Int) (w : World) (hn : n = 4 ∨ n = 8 ∨ n = 16) (h1 : 2 ≤ t) (h2 : t ≤ 1021) (h3 : 2 ≤ q) (h4 : q ≤ 1073741823) (h5 : 1 ≤ b) (h6 : b ≤ 8) :
    Calls Tryz.prog 117 #[.agg #[.int .i64 n, .int .i64 t, .int .i64 q, .int .i64 b]] w fun r w' => r = .returned (.bool (goodB n t q b)) ∧ Up w w' := by
  obtain ⟨m, rfl⟩ := Int.eq_ofNat_of_zero_le (a := t) (by omega)
  have hm : 2 ≤ m := by omega
  have hm2 : m ≤ 1021 := by omega
  rcases hn with rfl | rfl | rfl
  all_goals
    go_enter Tryz.func117, Tryz.ntmps117
    go_wp2
    go_loop [3] (fun d => ∃ k : Nat, 2 ≤ k ∧ k ≤ m ∧ d = .int .i64 k ∧ Hid (NoDiv m k)) (fun d => m - (intOf d).toNat)
    case atStart => exact ⟨2, by omega, by omega, rfl, noDiv_two m⟩
    case round =>
      obtain ⟨k, hk1, hk2, rfl, hk⟩ := hrel
      by_cases hkm : k < m
      · by_cases hd : m % k = 0
        · have hb : ((m : Int) % (k : Int) == 0) = true := by rw [beq_iff_eq, ← Int.natCast_emod, hd]; rfl
          have H : Hid _ := prmB_false hd hk1 hkm
          clear hd
          go_wp2
          go_ret
          exact ⟨ret_bool (goodB_np H.out).symm, (Up.refl _).alloc _⟩
        · have hb : ((m : Int) % (k : Int) == 0) = false := by rw [beq_eq_false_iff_ne, ← Int.natCast_emod]; omega
          have H : Hid _ := noDiv_succ hk.out hd
          clear hd
          go_wp2
          go_round
          case rel => exact ⟨k + 1, by omega, by omega, by go_num, H.out⟩
          case measure => simp [intOf]; omega
      · obtain rfl : k = m := by omega
        have HP : Hid _ := (prmB_iff k hm).2 hk.out
        go_wp2_with (first | (go_at_call 74; refine (keepFits_calls _ _ _ _ _ _ (by omega) (by omega) (by omega) (by omega) (by omega) (by omega)).mono ?_; rintro e w' ⟨rfl, hu⟩))
        all_goals go_ret
        all_goals first
          | exact ⟨ret_bool (goodB_yes (by omega) HP.out (by omega)).symm, ((Up.refl _).alloc _).trans hu⟩
          | exact ⟨ret_bool (goodB_no (by omega)).symm, (Up.refl _).alloc _⟩

theorem keepGood_calls (n t q b : Int) (w : World) :
    Calls Tryz.prog 117 #[.agg #[.int .i64 n, .int .i64 t, .int .i64 q, .int .i64 b]] w fun r w' => r = .returned (.bool (goodB n t q b)) ∧ Up w w' := by
  by_cases hn : n = 4 ∨ n = 8 ∨ n = 16
  · by_cases h : 2 ≤ t ∧ t ≤ 1021 ∧ 2 ≤ q ∧ q ≤ 1073741823 ∧ 1 ≤ b ∧ b ≤ 8
    · obtain ⟨h1, h2, h3, h4, h5, h6⟩ := h
      exact keepGood_in n t q b w hn h1 h2 h3 h4 h5 h6
    · exact keepGood_out n t q b w hn (by omega)
  · exact keepGood_n n t q b w hn

set_option maxHeartbeats 400000 in
theorem octet_calls (s : ByteArray) (i : Int) (w : World) (hs : s.size ≤ maxLen) (h0 : 0 ≤ i) :
    Calls Tryz.prog 64 #[.string s, .int .i64 i] w fun e w' => e = .returned (.int .i64 (byteL s.data.toList i.toNat)) ∧ w' = w := by
  unfold maxLen at hs
  obtain ⟨k, rfl⟩ := Int.eq_ofNat_of_zero_le h0
  rw [Int.toNat_natCast]
  by_cases hk : k < s.size
  · have H : Hid _ := byteL_in s k hk
    have hb := (s[k]).toNat_lt
    go_enter Tryz.func64, Tryz.ntmps64
    go_wp2
    go_ret
    exact ⟨ret_int (by rw [H.out]), rfl⟩
  · have H : Hid _ := byteL_out s.data.toList k (by simp; omega)
    go_enter Tryz.func64, Tryz.ntmps64
    go_wp2
    go_ret
    exact ⟨ret_int (by rw [H.out]; rfl), rfl⟩

set_option maxHeartbeats 400000 in
theorem keepMod_calls (v m : Int) (w : World) (hm : 0 < m) (hm2 : m ≤ 4611686018427387904) :
    Calls Tryz.prog 76 #[.int .i64 v, .int .i64 m] w fun e w' => e = .returned (.int .i64 (v % m)) ∧ w' = w := by
  have h1 := Int.emod_nonneg v (b := m) (by omega)
  have h2 := Int.emod_lt_of_pos v hm
  by_cases hv : 0 ≤ v
  · go_enter Tryz.func76, Tryz.ntmps76
    go_wp2
    go_ret
    exact ⟨rfl, rfl⟩
  · have H : Hid _ := tmod_two v m hm
    have h3 : -4611686018427387904 ≤ v.tmod m := by have := H.out; omega
    have h4 : v.tmod m ≤ 4611686018427387904 := by have := H.out; omega
    go_enter Tryz.func76, Tryz.ntmps76
    go_wp2
    · go_ret
      refine ⟨ret_int ?_, rfl⟩
      have := H.out
      omega
    · go_ret
      refine ⟨ret_int ?_, rfl⟩
      have := H.out
      omega

theorem textL_two (x : Int) (h0 : 0 ≤ x) (h1 : x < 65536) : textL x.toNat 2 = [UInt8.ofNat (x / 256).toNat] ++ [UInt8.ofNat (x % 256).toNat] := by
  have e1 : (x / 256).toNat = x.toNat / 256 % 256 := by omega
  have e2 : (x % 256).toNat = x.toNat % 256 := by omega
  simp [textL, e1, e2]

set_option maxHeartbeats 1000000 in
theorem keepText_calls (n : Nat) (xs : List Int) (g cap : Nat) (w : World) (hn : xs.length = n) (hl : n ≤ 1000) (hx : ∀ i, i < n → 0 ≤ xs.getD i 0 ∧ xs.getD i 0 < 65536) (hi : IsI w g xs) :
    Calls Tryz.prog 21 #[.slice (some ⟨g, 0, none⟩) n cap] w fun e w' => e = .returned (.string ⟨(textsL 2 xs).toArray⟩) ∧ Up w w' := by
  have HX : Hid _ := hx
  have HL : Hid _ := hn
  clear hx hn
  go_enter Tryz.func21, Tryz.ntmps21
  go_wp2
  go_loopw [3, 4] (fun v j wr => ∃ k : Nat, k ≤ n ∧ j = .int .i64 (k : Int) ∧ OwnB wr w.heap.size v (textsL 2 (xs.take k)) ∧ Up w wr) (fun _ j _ => n - (intOf j).toNat)
  case atStart => exact ⟨0, Nat.zero_le _, rfl, World.ownsRow_nil _ _ _ _, Up.refl _⟩
  case round =>
    obtain ⟨k, hk, rfl, hown, hu⟩ := hrel
    by_cases hlt : k < n
    · have hc := (hi.up hu).2 k (by rw [HL.out]; omega)
      have hgk := (hi.up hu).1
      have hb := HX.out k hlt
      have H : Hid _ := textL_two (xs.getD k 0) hb.1 hb.2
      have H2 : Hid _ := take_snocI xs k (by rw [HL.out]; omega)
      have hlen : (textsL 2 (xs.take k)).length ≤ 2000 := by rw [textsL_length]; simp; omega
      generalize xs.getD k 0 = x at hc hb H H2
      have hx1 := hb.1
      have hx2 := hb.2
      clear hb
      go_wp2_with (at_builtin; refine append_byte _ _ rfl (.tmp 11) (.tmp 18) rfl _ _ _ rfl hown rfl (by omega) hu.size (by omega) ?_)
      intro v1 w1 hown1 hb1
      have hc1 : w1.cell? ⟨g, k, none⟩ = some (.int .i64 x) := (hb1.cell (p := ⟨g, k, none⟩) hi.1).trans hc
      replace hu := Below.trans hu hb1
      clear hown hb1 hc
      go_wp2_with (at_builtin; refine append_byte _ _ rfl (.tmp 20) (.tmp 27) rfl _ _ _ rfl hown1 rfl (by simp; omega) hu.size (by omega) ?_)
      intro v2 w2 hown2 hb2
      clear hown1
      go_wp2
      go_roundw
      case rel => exact ⟨k + 1, by omega, by go_num, by rw [H2.out, textsL_snoc, H.out]; exact hown2, Below.trans hu hb2⟩
      case measure => simp [intOf]; omega
    · obtain rfl : k = n := by omega
      rw [List.take_of_length_le (by rw [HL.out]; omega)] at hown
      have hconv := conv_own wr _ _ _ hown
      go_wp2
      go_ret
      exact ⟨rfl, hu⟩

end Go.Proofs.YtcjhgbljhpflfabGreat

namespace Go.Proofs.YtcjhgbljhpflfabGreat
open Go.RowKit
set_option linter.unusedVariables false
set_option maxRecDepth 100000

/-- a text as numbers below t -/
def valC (t : Int) (l : List UInt8) (i : Nat) : Int := (256 * (byteL l (2 * i) : Int) + (byteL l (2 * i + 1) : Int)) % t
def valsI (n : Nat) (t : Int) (l : List UInt8) : List Int := (List.range n).map (valC t l)

theorem valsI_length (n : Nat) (t : Int) (l : List UInt8) : (valsI n t l).length = n := by simp [valsI]
theorem valsI_small (n : Nat) (t : Int) (l : List UInt8) (ht : 0 < t) : ∀ i, i < n → 0 ≤ (valsI n t l).getD i 0 ∧ (valsI n t l).getD i 0 < t := fun i hi => by
  rw [valsI, getD_range hi]
  exact mod_bounds ht _

set_option maxHeartbeats 4000000 in
theorem values_calls (n t : Nat) (q b : Int) (s : ByteArray) (w : World) (hs : s.size ≤ maxLen) (hn : n ≤ 16) (ht : 1 ≤ t) (ht2 : t ≤ 1021) :
    Calls Tryz.prog 17 #[.agg #[.int .i64 n, .int .i64 t, .int .i64 q, .int .i64 b], .string s] w fun e w' => ∃ v, e = .returned v ∧ OwnI w' w.heap.size v (valsI n t s.data.toList) ∧ Up w w' := by
  go_enter Tryz.func17, Tryz.ntmps17
  go_wp2_with fail
  go_loopw [5, 6] (fun v j wr => ∃ k : Nat, k ≤ n ∧ j = .int .i64 (k : Int) ∧ OwnI wr (w.heap.size + 1) v ((List.range k).map (valC t s.data.toList)) ∧ Up (w.alloc (.cells #[.int .i64 n, .int .i64 t, .int .i64 q, .int .i64 b] 28)) wr) (fun _ j _ => n - (intOf j).toNat)
  case atStart => exact ⟨0, Nat.zero_le _, rfl, World.ownsRow_nil _ _ _ _, Up.refl _⟩
  case round =>
    obtain ⟨k, hk, rfl, hown, hu⟩ := hrel
    obtain ⟨hc, hf⟩ := bcell hu
    by_cases hlt : k < n
    · have hsz : w.heap.size + 1 ≤ wr.heap.size := by have := hu.size; simpa using this
      have hct : wr.cell? ⟨w.heap.size, 1, none⟩ = some (.int .i64 (t : Int)) := by rw [hc _ _ (by simp)]; simp
      have hbx : w.heap.size < w.heap.size + 1 := by omega
      have hb1 := byteL_lt s.data.toList (2 * k)
      have hb2 := byteL_lt s.data.toList (2 * k + 1)
      have HR : Hid ((List.range (k + 1)).map (valC t s.data.toList) = (List.range k).map (valC t s.data.toList) ++ [(256 * (byteL s.data.toList (2 * k) : Int) + (byteL s.data.toList (2 * k + 1) : Int)) % (t : Int)]) := map_range_succ _ _
      have HX1 : Hid (byteL s.data.toList (2 * (k : Int)).toNat = byteL s.data.toList (2 * k)) := show _ = _ by rw [show (2 * (k : Int)).toNat = 2 * k by omega]
      have HX2 : Hid (byteL s.data.toList (2 * (k : Int) + 1).toNat = byteL s.data.toList (2 * k + 1)) := show _ = _ by rw [show (2 * (k : Int) + 1).toNat = 2 * k + 1 by omega]
      generalize byteL s.data.toList (2 * k) = x at hb1 HR HX1
      generalize byteL s.data.toList (2 * k + 1) = y at hb2 HR HX2
      have e1 : IntKind.i64.wrap (2 * (k : Int)) = 2 * (k : Int) := IntWalk.i64_in _ (by omega)
      have e2 : IntKind.i64.wrap (2 * (k : Int) + 1) = 2 * (k : Int) + 1 := IntWalk.i64_in _ (by omega)
      have e3 : IntKind.i64.wrap (256 * (x : Int)) = 256 * (x : Int) := IntWalk.i64_in _ (by omega)
      have e4 : IntKind.i64.wrap (256 * (x : Int) + (y : Int)) = 256 * (x : Int) + (y : Int) := IntWalk.i64_in _ (by omega)
      have e5 : (256 * (x : Int) + (y : Int)).tmod (t : Int) = (256 * (x : Int) + (y : Int)) % (t : Int) := Int.tmod_eq_emod_of_nonneg (by omega)
      generalize (256 * (x : Int) + (y : Int)) % (t : Int) = z at e5 HR
      have et1 : ¬ (t : Int) = 0 := by omega
      have et2 : ¬ t = 0 := by omega
      have et0 : ((t : Int) == 0) = false := beq_eq_false_iff_ne.2 et1
      have hcn : (wr.alloc (.cells #[.int .i64 z] 3)).drew.cell? ⟨wr.heap.size, 0, none⟩ = some (.int .i64 z) := by simp
      have hbs := Nat.le_trans hsz (Up.drew (Up.alloc (Up.refl wr) (.cells #[.int .i64 z] 3))).size
      go_wp2_with fail
      go_region_held3 (fun w' => w'.cell? ⟨w.heap.size, 1, none⟩ = some (.int .i64 (t : Int)))
        (first | go_keep | exact keep1 hb4 hbx (by assumption))
        ((first | (go_at_call 64; refine (octet_calls _ _ _ hs (by omega)).mono ?_; rintro e w' ⟨rfl, rfl⟩; first | rw [HX1.out] | rw [HX2.out]) | (refine step_append_int (wr.alloc (.cells #[.int .i64 z] 3)).drew z wr.heap.size rfl (.tmp 13) (.tmp 28) rfl _ u5 ((List.range k).map (valC t s.data.toList)) rfl (hown.up (Up.drew (Up.alloc (Up.refl _) _))) rfl hcn (by simp; omega) hbs ?_; intro v4 w4 hown4 hg4 hb4)))
      have hu4 : Up (w.alloc (.cells #[.int .i64 n, .int .i64 t, .int .i64 q, .int .i64 b] 28)) w4 := Below.trans (Up.drew (Below.alloc hu hu.size _)) (by simpa using hb4)
      clear hcn hbs hct hc hf
      go_wp2_with fail
      go_roundw
      case rel => exact ⟨k + 1, by omega, by go_num, by rw [HR.out]; exact hown4, hu4⟩
      case measure => simp [intOf]; omega
    · obtain rfl : k = n := by omega
      go_wp2_with fail
      go_ret
      exact ⟨_, rfl, hown.base (by omega), ((Up.refl _).alloc _).trans hu⟩

set_option maxHeartbeats 4000000 in
theorem both_calls (n t : Nat) (q b : Int) (xs ys : List Int) (ga gb ca cb : Nat) (w : World) (hn : n ≤ 16) (ht : 1 ≤ t) (ht2 : t ≤ 1021) (hla : xs.length = n) (hlb : ys.length = n) (ha : Bnd xs 1048576) (hb : Bnd ys 1048576) (ia : IsI w ga xs) (ib : IsI w gb ys) :
    Calls Tryz.prog 70 #[.agg #[.int .i64 n, .int .i64 t, .int .i64 q, .int .i64 b], .slice (some ⟨ga, 0, none⟩) n ca, .slice (some ⟨gb, 0, none⟩) n cb, .int .i64 1] w fun e w' => ∃ v, e = .returned v ∧ OwnI w' w.heap.size v (plusI n xs ys t) ∧ Up w w' := by
  have HA : Hid _ := ha
  have HB : Hid _ := hb
  have HLA : Hid _ := hla
  have HLB : Hid _ := hlb
  have ja := ia.up ((Up.refl _).alloc (.cells #[.int .i64 n, .int .i64 t, .int .i64 q, .int .i64 b] 28))
  have jb := ib.up ((Up.refl _).alloc (.cells #[.int .i64 n, .int .i64 t, .int .i64 q, .int .i64 b] 28))
  have hga : ga < w.heap.size + 1 := Nat.lt_succ_of_lt ia.1
  have hgb : gb < w.heap.size + 1 := Nat.lt_succ_of_lt ib.1
  have hgw : w.heap.size < w.heap.size + 1 := Nat.lt_succ_self _
  clear ha hb hla hlb
  go_enter Tryz.func70, Tryz.ntmps70
  go_wp2_with fail
  go_loopw [9, 10] (fun v j wr => ∃ k : Nat, k ≤ n ∧ j = .int .i64 (k : Int) ∧ OwnI wr (w.heap.size + 1) v ((List.range k).map (plusC xs ys t)) ∧ Up (w.alloc (.cells #[.int .i64 n, .int .i64 t, .int .i64 q, .int .i64 b] 28)) wr) (fun _ j _ => n - (intOf j).toNat)
  case atStart => exact ⟨0, Nat.zero_le _, rfl, World.ownsRow_nil _ _ _ _, Up.refl _⟩
  case round =>
    obtain ⟨k, hk, rfl, hown, hu⟩ := hrel
    obtain ⟨hc, hf⟩ := bcell hu
    by_cases hlt : k < n
    · have hca := (ja.up hu).2 k (by rw [HLA.out]; omega)
      have hcb := (jb.up hu).2 k (by rw [HLB.out]; omega)
      have hct : wr.cell? ⟨w.heap.size, 1, none⟩ = some (.int .i64 (t : Int)) := by rw [hc _ _ (by simp)]; simp
      have hct0 : wr.cell? ⟨w.heap.size, 0, none⟩ = some (.int .i64 (n : Int)) := by rw [hc _ _ (by simp)]; simp
      have hsz : w.heap.size + 1 ≤ wr.heap.size := by have := hu.size; simpa using this
      clear hc hf
      have hba := HA.out k
      have hbb := HB.out k
      have HR : Hid ((List.range (k + 1)).map (plusC xs ys t) = (List.range k).map (plusC xs ys t) ++ [(xs.getD k 0 + ys.getD k 0) % (t : Int)]) := map_range_succ _ _
      generalize xs.getD k 0 = x at hca hba HR
      generalize ys.getD k 0 = y at hcb hbb HR
      have e0 : IntKind.i64.wrap y = y := IntWalk.i64_in _ (by omega)
      have e1 : IntKind.i64.wrap (x + y) = x + y := IntWalk.i64_in _ (by omega)
      have hi0 : (0 : Int) ≤ (k : Int) := by omega
      have hi1 : (k : Int) < (n : Int) := by omega
      have hcn : (wr.alloc (.cells #[.int .i64 ((x + y) % (t : Int))] 3)).drew.cell? ⟨wr.heap.size, 0, none⟩ = some (.int .i64 ((x + y) % (t : Int))) := by simp
      have hbs := Nat.le_trans hsz (Up.drew (Up.alloc (Up.refl wr) (.cells #[.int .i64 ((x + y) % (t : Int))] 3))).size
      go_wp2_with fail
      go_region_held3 (fun w' => w'.cell? ⟨ga, k, none⟩ = some (.int .i64 x) ∧ w'.cell? ⟨gb, k, none⟩ = some (.int .i64 y) ∧ w'.cell? ⟨w.heap.size, 1, none⟩ = some (.int .i64 (t : Int)))
        (first | go_keep | exact keepS3 hb4 hga hgb hgw (by assumption))
        ((first | (go_at_call 76; refine (keepMod_calls _ _ _ (by omega) (by omega)).mono ?_; rintro e w' ⟨rfl, rfl⟩) | (refine step_append_int (wr.alloc (.cells #[.int .i64 ((x + y) % (t : Int))] 3)).drew ((x + y) % (t : Int)) wr.heap.size rfl (.tmp 17) (.tmp 32) rfl _ u9 ((List.range k).map (plusC xs ys t)) rfl (hown.up (Up.drew (Up.alloc (Up.refl _) _))) rfl hcn (by simp; omega) hbs ?_; intro v4 w4 hown4 hg4 hb4)))
      have hu4 : Up (w.alloc (.cells #[.int .i64 n, .int .i64 t, .int .i64 q, .int .i64 b] 28)) w4 := Below.trans (Up.drew (Below.alloc hu hu.size _)) (by simpa using hb4)
      clear hcn hbs hca hcb hct hct0
      go_wp2_with fail
      go_roundw
      case rel => exact ⟨k + 1, by omega, by go_num, by rw [HR.out]; exact hown4, hu4⟩
      case measure => simp [intOf]; omega
    · obtain rfl : k = n := by omega
      go_wp2_with fail
      go_ret
      exact ⟨_, rfl, hown.base (by omega), ((Up.refl _).alloc _).trans hu⟩

set_option maxHeartbeats 400000 in
theorem must_calls (g : Nat) (w : World) :
    Calls Tryz.prog 24 #[.pointer (some ⟨g, 0, none⟩), .bool true] w fun e w' => e = .returned (.tuple #[]) ∧ w' = w := by
  go_enter Tryz.func24, Tryz.ntmps24
  go_wp2_with fail
  go_end0
  exact ⟨rfl, rfl⟩

theorem fit_ends : goodB 4 17 1000003 4 = true ∧ goodB 8 17 1073741789 2 = true ∧ goodB 8 97 1073741823 1 = true ∧ goodB 16 97 536870912 3 = true := by decide +kernel

set_option maxHeartbeats 4000000 in
theorem fit_calls (n t q b : Int) (w : World) (hn : -9223372036854775808 ≤ n) (hn2 : n ≤ 9223372036854775807) :
    Calls Tryz.prog 59 #[.agg #[.int .i64 n, .int .i64 t, .int .i64 q, .int .i64 b]] w fun e w' => ∃ n' t' q' b', goodB n' t' q' b' = true ∧ e = .returned (.agg #[.int .i64 n', .int .i64 t', .int .i64 q', .int .i64 b']) ∧ Up w w' := by
  cases hg : goodB n t q b with
  | true =>
    go_enter Tryz.func59, Tryz.ntmps59
    go_wp2_with fail
    refine (keepGood_calls _ _ _ _ _).mono ?_
    rintro e w1 ⟨rfl, hu1⟩
    rw [hg]
    obtain ⟨hc, hf⟩ := bcell hu1
    have hk0 : w1.cell? ⟨w.heap.size + 1, 0, none⟩ = some (.int .i64 0) := by rw [hc _ _ (by simp)]; simp
    have hk1 : w1.cell? ⟨w.heap.size + 1, 1, none⟩ = some (.int .i64 0) := by rw [hc _ _ (by simp)]; simp
    have hk2 : w1.cell? ⟨w.heap.size + 1, 2, none⟩ = some (.int .i64 0) := by rw [hc _ _ (by simp)]; simp
    have hk3 : w1.cell? ⟨w.heap.size + 1, 3, none⟩ = some (.int .i64 0) := by rw [hc _ _ (by simp)]; simp
    go_wp2_with fail
    have hall : Below w.heap.size w w1 := (((Up.refl w).alloc _).alloc _).trans hu1
    refine bodyPost_ret (v := .agg #[.int .i64 n, .int .i64 t, .int .i64 q, .int .i64 b]) (by simp [results, Tryz.results59, go_sem, hk0, hk1, hk2, hk3]) rfl ⟨n, t, q, b, hg, rfl, ?_⟩
    exact (((hall.setCell (by simp) _).setCell (by simp) _).setCell (by simp) _).setCell (by simp) _
  | false =>
    have HE : Hid _ := fit_ends
    go_enter Tryz.func59, Tryz.ntmps59
    go_wp2_with fail
    refine (keepGood_calls _ _ _ _ _).mono ?_
    rintro e w1 ⟨rfl, hu1⟩
    rw [hg]
    obtain ⟨hc, hf⟩ := bcell hu1
    have hk0 : w1.cell? ⟨w.heap.size + 1, 0, none⟩ = some (.int .i64 0) := by rw [hc _ _ (by simp)]; simp
    have hk1 : w1.cell? ⟨w.heap.size + 1, 1, none⟩ = some (.int .i64 0) := by rw [hc _ _ (by simp)]; simp
    have hk2 : w1.cell? ⟨w.heap.size + 1, 2, none⟩ = some (.int .i64 0) := by rw [hc _ _ (by simp)]; simp
    have hk3 : w1.cell? ⟨w.heap.size + 1, 3, none⟩ = some (.int .i64 0) := by rw [hc _ _ (by simp)]; simp
    have hall : Below w.heap.size w w1 := (((Up.refl w).alloc _).alloc _).trans hu1
    go_wp2_with fail
    refine (keepPick_calls n 4 _ hn hn2 (by omega) (by omega)).mono ?_
    rintro e w2 ⟨k, hk, rfl, rfl⟩
    match k, hk with
    | 0, _ =>
      go_wp2_with fail
      refine bodyPost_ret (v := .agg #[.int .i64 4, .int .i64 17, .int .i64 1000003, .int .i64 4]) (by simp [results, Tryz.results59, go_sem, hk0, hk1, hk2, hk3]) rfl ⟨_, _, _, _, HE.out.1, rfl, ?_⟩
      exact (((hall.setCell (by simp) _).setCell (by simp) _).setCell (by simp) _).setCell (by simp) _
    | 1, _ =>
      go_wp2_with fail
      refine bodyPost_ret (v := .agg #[.int .i64 8, .int .i64 17, .int .i64 1073741789, .int .i64 2]) (by simp [results, Tryz.results59, go_sem, hk0, hk1, hk2, hk3]) rfl ⟨_, _, _, _, HE.out.2.1, rfl, ?_⟩
      exact (((hall.setCell (by simp) _).setCell (by simp) _).setCell (by simp) _).setCell (by simp) _
    | 2, _ =>
      go_wp2_with fail
      refine bodyPost_ret (v := .agg #[.int .i64 8, .int .i64 97, .int .i64 1073741823, .int .i64 1]) (by simp [results, Tryz.results59, go_sem, hk0, hk1, hk2, hk3]) rfl ⟨_, _, _, _, HE.out.2.2.1, rfl, ?_⟩
      exact (((hall.setCell (by simp) _).setCell (by simp) _).setCell (by simp) _).setCell (by simp) _
    | 3, _ =>
      go_wp2_with fail
      refine bodyPost_ret (v := .agg #[.int .i64 16, .int .i64 97, .int .i64 536870912, .int .i64 3]) (by simp [results, Tryz.results59, go_sem, hk0, hk1, hk2, hk3]) rfl ⟨_, _, _, _, HE.out.2.2.2, rfl, ?_⟩
      exact (((hall.setCell (by simp) _).setCell (by simp) _).setCell (by simp) _).setCell (by simp) _

end Go.Proofs.YtcjhgbljhpflfabGreat
