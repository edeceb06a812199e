/-
  Walks: values, sums by slot, the key, and parameters that are good, in the statements without the document's answer.
-/
import Derived.Test.YtcjhgbljhpflfaaKeepB
import Derived.Test.YtcjhgbljhpflfaaCodeKey
namespace Go.Proofs.Ytcjhgbljhpflfaa
open Go.RowKit
set_option linter.unusedVariables false
set_option maxRecDepth 100000

/-- a text as numbers below t -/
def valC (t : Int) (l : List UInt8) (i : Nat) : Int := (256 * (byteL l (2 * i) : Int) + (byteL l (2 * i + 1) : Int)) % t
def valsI (n : Nat) (t : Int) (l : List UInt8) : List Int := (List.range n).map (valC t l)

theorem valsI_length (n : Nat) (t : Int) (l : List UInt8) : (valsI n t l).length = n := by simp [valsI]
theorem valsI_small (n : Nat) (t : Int) (l : List UInt8) (ht : 0 < t) : ∀ i, i < n → 0 ≤ (valsI n t l).getD i 0 ∧ (valsI n t l).getD i 0 < t := fun i hi => by
  rw [valsI, getD_range hi]
  exact mod_bounds ht _

set_option maxHeartbeats 4000000 in
theorem values_calls (n t : Nat) (q b : Int) (s : ByteArray) (w : World) (hs : s.size ≤ maxLen) (hn : n ≤ 16) (ht : 1 ≤ t) (ht2 : t ≤ 1021) :
    Calls Try.prog 36 #[.agg #[.int .i64 n, .int .i64 t, .int .i64 q, .int .i64 b], .string s] w fun e w' => ∃ v, e = .returned v ∧ OwnI w' w.heap.size v (valsI n t s.data.toList) ∧ Up w w' := by
  go_enter Try.func36, Try.ntmps36
  go_wp2_with fail
  go_loopw [5, 6] (fun v j wr => ∃ k : Nat, k ≤ n ∧ j = .int .i64 (k : Int) ∧ OwnI wr (w.heap.size + 1) v ((List.range k).map (valC t s.data.toList)) ∧ Up (w.alloc (.cells #[.int .i64 n, .int .i64 t, .int .i64 q, .int .i64 b] 26)) wr) (fun _ j _ => n - (intOf j).toNat)
  case atStart => exact ⟨0, Nat.zero_le _, rfl, World.ownsRow_nil _ _ _ _, Up.refl _⟩
  case round =>
    obtain ⟨k, hk, rfl, hown, hu⟩ := hrel
    obtain ⟨hc, hf⟩ := bcell hu
    by_cases hlt : k < n
    · have hsz : w.heap.size + 1 ≤ wr.heap.size := by have := hu.size; simpa using this
      have hct : wr.cell? ⟨w.heap.size, 1, none⟩ = some (.int .i64 (t : Int)) := by rw [hc _ _ (by simp)]; simp
      have hbx : w.heap.size < w.heap.size + 1 := by omega
      have hb1 := byteL_lt s.data.toList (2 * k)
      have hb2 := byteL_lt s.data.toList (2 * k + 1)
      have HR : Hid ((List.range (k + 1)).map (valC t s.data.toList) = (List.range k).map (valC t s.data.toList) ++ [(256 * (byteL s.data.toList (2 * k) : Int) + (byteL s.data.toList (2 * k + 1) : Int)) % (t : Int)]) := map_range_succ _ _
      have HX1 : Hid (byteL s.data.toList (2 * (k : Int)).toNat = byteL s.data.toList (2 * k)) := show _ = _ by rw [show (2 * (k : Int)).toNat = 2 * k by omega]
      have HX2 : Hid (byteL s.data.toList (2 * (k : Int) + 1).toNat = byteL s.data.toList (2 * k + 1)) := show _ = _ by rw [show (2 * (k : Int) + 1).toNat = 2 * k + 1 by omega]
      generalize byteL s.data.toList (2 * k) = x at hb1 HR HX1
      generalize byteL s.data.toList (2 * k + 1) = y at hb2 HR HX2
      have e1 : IntKind.i64.wrap (2 * (k : Int)) = 2 * (k : Int) := IntWalk.i64_in _ (by omega)
      have e2 : IntKind.i64.wrap (2 * (k : Int) + 1) = 2 * (k : Int) + 1 := IntWalk.i64_in _ (by omega)
      have e3 : IntKind.i64.wrap (256 * (x : Int)) = 256 * (x : Int) := IntWalk.i64_in _ (by omega)
      have e4 : IntKind.i64.wrap (256 * (x : Int) + (y : Int)) = 256 * (x : Int) + (y : Int) := IntWalk.i64_in _ (by omega)
      have e5 : (256 * (x : Int) + (y : Int)).tmod (t : Int) = (256 * (x : Int) + (y : Int)) % (t : Int) := Int.tmod_eq_emod_of_nonneg (by omega)
      generalize (256 * (x : Int) + (y : Int)) % (t : Int) = z at e5 HR
      have et1 : ¬ (t : Int) = 0 := by omega
      have et2 : ¬ t = 0 := by omega
      have et0 : ((t : Int) == 0) = false := beq_eq_false_iff_ne.2 et1
      have hcn : (wr.alloc (.cells #[.int .i64 z] 3)).drew.cell? ⟨wr.heap.size, 0, none⟩ = some (.int .i64 z) := by simp
      have hbs := Nat.le_trans hsz (Up.drew (Up.alloc (Up.refl wr) (.cells #[.int .i64 z] 3))).size
      go_wp2_with fail
      go_region_held3 (fun w' => w'.cell? ⟨w.heap.size, 1, none⟩ = some (.int .i64 (t : Int)))
        (first | go_keep | exact keep1 hb4 hbx (by assumption))
        ((first | (go_at_call 86; refine (octet_calls _ _ _ hs (by omega)).mono ?_; rintro e w' ⟨rfl, rfl⟩; first | rw [HX1.out] | rw [HX2.out]) | (refine step_append_int (wr.alloc (.cells #[.int .i64 z] 3)).drew z wr.heap.size rfl (.tmp 13) (.tmp 28) rfl _ u5 ((List.range k).map (valC t s.data.toList)) rfl (hown.up (Up.drew (Up.alloc (Up.refl _) _))) rfl hcn (by simp; omega) hbs ?_; intro v4 w4 hown4 hg4 hb4)))
      have hu4 : Up (w.alloc (.cells #[.int .i64 n, .int .i64 t, .int .i64 q, .int .i64 b] 26)) w4 := Below.trans (Up.drew (Below.alloc hu hu.size _)) (by simpa using hb4)
      clear hcn hbs hct hc hf
      go_wp2_with fail
      go_roundw
      case rel => exact ⟨k + 1, by omega, by go_num, by rw [HR.out]; exact hown4, hu4⟩
      case measure => simp [intOf]; omega
    · obtain rfl : k = n := by omega
      go_wp2_with fail
      go_ret
      exact ⟨_, rfl, hown.base (by omega), ((Up.refl _).alloc _).trans hu⟩

set_option maxHeartbeats 4000000 in
theorem both_calls (n t : Nat) (q b : Int) (xs ys : List Int) (ga gb ca cb : Nat) (w : World) (hn : n ≤ 16) (ht : 1 ≤ t) (ht2 : t ≤ 1021) (hla : xs.length = n) (hlb : ys.length = n) (ha : Bnd xs 1048576) (hb : Bnd ys 1048576) (ia : IsI w ga xs) (ib : IsI w gb ys) :
    Calls Try.prog 48 #[.agg #[.int .i64 n, .int .i64 t, .int .i64 q, .int .i64 b], .slice (some ⟨ga, 0, none⟩) n ca, .slice (some ⟨gb, 0, none⟩) n cb, .int .i64 1] w fun e w' => ∃ v, e = .returned v ∧ OwnI w' w.heap.size v (plusI n xs ys t) ∧ Up w w' := by
  have HA : Hid _ := ha
  have HB : Hid _ := hb
  have HLA : Hid _ := hla
  have HLB : Hid _ := hlb
  have ja := ia.up ((Up.refl _).alloc (.cells #[.int .i64 n, .int .i64 t, .int .i64 q, .int .i64 b] 26))
  have jb := ib.up ((Up.refl _).alloc (.cells #[.int .i64 n, .int .i64 t, .int .i64 q, .int .i64 b] 26))
  have hga : ga < w.heap.size + 1 := Nat.lt_succ_of_lt ia.1
  have hgb : gb < w.heap.size + 1 := Nat.lt_succ_of_lt ib.1
  have hgw : w.heap.size < w.heap.size + 1 := Nat.lt_succ_self _
  clear ha hb hla hlb
  go_enter Try.func48, Try.ntmps48
  go_wp2_with fail
  go_loopw [9, 10] (fun v j wr => ∃ k : Nat, k ≤ n ∧ j = .int .i64 (k : Int) ∧ OwnI wr (w.heap.size + 1) v ((List.range k).map (plusC xs ys t)) ∧ Up (w.alloc (.cells #[.int .i64 n, .int .i64 t, .int .i64 q, .int .i64 b] 26)) wr) (fun _ j _ => n - (intOf j).toNat)
  case atStart => exact ⟨0, Nat.zero_le _, rfl, World.ownsRow_nil _ _ _ _, Up.refl _⟩
  case round =>
    obtain ⟨k, hk, rfl, hown, hu⟩ := hrel
    obtain ⟨hc, hf⟩ := bcell hu
    by_cases hlt : k < n
    · have hca := (ja.up hu).2 k (by rw [HLA.out]; omega)
      have hcb := (jb.up hu).2 k (by rw [HLB.out]; omega)
      have hct : wr.cell? ⟨w.heap.size, 1, none⟩ = some (.int .i64 (t : Int)) := by rw [hc _ _ (by simp)]; simp
      have hct0 : wr.cell? ⟨w.heap.size, 0, none⟩ = some (.int .i64 (n : Int)) := by rw [hc _ _ (by simp)]; simp
      have hsz : w.heap.size + 1 ≤ wr.heap.size := by have := hu.size; simpa using this
      clear hc hf
      have hba := HA.out k
      have hbb := HB.out k
      have HR : Hid ((List.range (k + 1)).map (plusC xs ys t) = (List.range k).map (plusC xs ys t) ++ [(xs.getD k 0 + ys.getD k 0) % (t : Int)]) := map_range_succ _ _
      generalize xs.getD k 0 = x at hca hba HR
      generalize ys.getD k 0 = y at hcb hbb HR
      have e0 : IntKind.i64.wrap y = y := IntWalk.i64_in _ (by omega)
      have e1 : IntKind.i64.wrap (x + y) = x + y := IntWalk.i64_in _ (by omega)
      have hi0 : (0 : Int) ≤ (k : Int) := by omega
      have hi1 : (k : Int) < (n : Int) := by omega
      have hcn : (wr.alloc (.cells #[.int .i64 ((x + y) % (t : Int))] 3)).drew.cell? ⟨wr.heap.size, 0, none⟩ = some (.int .i64 ((x + y) % (t : Int))) := by simp
      have hbs := Nat.le_trans hsz (Up.drew (Up.alloc (Up.refl wr) (.cells #[.int .i64 ((x + y) % (t : Int))] 3))).size
      go_wp2_with fail
      go_region_held3 (fun w' => w'.cell? ⟨ga, k, none⟩ = some (.int .i64 x) ∧ w'.cell? ⟨gb, k, none⟩ = some (.int .i64 y) ∧ w'.cell? ⟨w.heap.size, 1, none⟩ = some (.int .i64 (t : Int)))
        (first | go_keep | exact keepS3 hb4 hga hgb hgw (by assumption))
        ((first | (go_at_call 94; refine (keepMod_calls _ _ _ (by omega) (by omega)).mono ?_; rintro e w' ⟨rfl, rfl⟩) | (refine step_append_int (wr.alloc (.cells #[.int .i64 ((x + y) % (t : Int))] 3)).drew ((x + y) % (t : Int)) wr.heap.size rfl (.tmp 17) (.tmp 32) rfl _ u9 ((List.range k).map (plusC xs ys t)) rfl (hown.up (Up.drew (Up.alloc (Up.refl _) _))) rfl hcn (by simp; omega) hbs ?_; intro v4 w4 hown4 hg4 hb4)))
      have hu4 : Up (w.alloc (.cells #[.int .i64 n, .int .i64 t, .int .i64 q, .int .i64 b] 26)) w4 := Below.trans (Up.drew (Below.alloc hu hu.size _)) (by simpa using hb4)
      clear hcn hbs hca hcb hct hct0
      go_wp2_with fail
      go_roundw
      case rel => exact ⟨k + 1, by omega, by go_num, by rw [HR.out]; exact hown4, hu4⟩
      case measure => simp [intOf]; omega
    · obtain rfl : k = n := by omega
      go_wp2_with fail
      go_ret
      exact ⟨_, rfl, hown.base (by omega), ((Up.refl _).alloc _).trans hu⟩

set_option maxHeartbeats 400000 in
theorem must_calls (g : Nat) (w : World) :
    Calls Try.prog 40 #[.pointer (some ⟨g, 0, none⟩), .bool true] w fun e w' => e = .returned (.tuple #[]) ∧ w' = w := by
  go_enter Try.func40, Try.ntmps40
  go_wp2_with fail
  go_end0
  exact ⟨rfl, rfl⟩

theorem fit_ends : goodB 4 17 1000003 4 = true ∧ goodB 8 17 1073741789 2 = true ∧ goodB 8 97 1073741823 1 = true ∧ goodB 16 97 536870912 3 = true := by decide +kernel

set_option maxHeartbeats 4000000 in
theorem fit_calls (n t q b : Int) (w : World) (hn : -9223372036854775808 ≤ n) (hn2 : n ≤ 9223372036854775807) :
    Calls Try.prog 85 #[.agg #[.int .i64 n, .int .i64 t, .int .i64 q, .int .i64 b]] w fun e w' => ∃ n' t' q' b', goodB n' t' q' b' = true ∧ e = .returned (.agg #[.int .i64 n', .int .i64 t', .int .i64 q', .int .i64 b']) ∧ Up w w' := by
  cases hg : goodB n t q b with
  | true =>
    go_enter Try.func85, Try.ntmps85
    go_wp2_with fail
    refine (keepGood_calls _ _ _ _ _).mono ?_
    rintro e w1 ⟨rfl, hu1⟩
    rw [hg]
    obtain ⟨hc, hf⟩ := bcell hu1
    have hk0 : w1.cell? ⟨w.heap.size + 1, 0, none⟩ = some (.int .i64 0) := by rw [hc _ _ (by simp)]; simp
    have hk1 : w1.cell? ⟨w.heap.size + 1, 1, none⟩ = some (.int .i64 0) := by rw [hc _ _ (by simp)]; simp
    have hk2 : w1.cell? ⟨w.heap.size + 1, 2, none⟩ = some (.int .i64 0) := by rw [hc _ _ (by simp)]; simp
    have hk3 : w1.cell? ⟨w.heap.size + 1, 3, none⟩ = some (.int .i64 0) := by rw [hc _ _ (by simp)]; simp
    go_wp2_with fail
    have hall : Below w.heap.size w w1 := (((Up.refl w).alloc _).alloc _).trans hu1
    refine bodyPost_ret (v := .agg #[.int .i64 n, .int .i64 t, .int .i64 q, .int .i64 b]) (by simp [results, Try.results85, go_sem, hk0, hk1, hk2, hk3]) rfl ⟨n, t, q, b, hg, rfl, ?_⟩
    exact (((hall.setCell (by simp) _).setCell (by simp) _).setCell (by simp) _).setCell (by simp) _
  | false =>
    have HE : Hid _ := fit_ends
    go_enter Try.func85, Try.ntmps85
    go_wp2_with fail
    refine (keepGood_calls _ _ _ _ _).mono ?_
    rintro e w1 ⟨rfl, hu1⟩
    rw [hg]
    obtain ⟨hc, hf⟩ := bcell hu1
    have hk0 : w1.cell? ⟨w.heap.size + 1, 0, none⟩ = some (.int .i64 0) := by rw [hc _ _ (by simp)]; simp
    have hk1 : w1.cell? ⟨w.heap.size + 1, 1, none⟩ = some (.int .i64 0) := by rw [hc _ _ (by simp)]; simp
    have hk2 : w1.cell? ⟨w.heap.size + 1, 2, none⟩ = some (.int .i64 0) := by rw [hc _ _ (by simp)]; simp
    have hk3 : w1.cell? ⟨w.heap.size + 1, 3, none⟩ = some (.int .i64 0) := by rw [hc _ _ (by simp)]; simp
    have hall : Below w.heap.size w w1 := (((Up.refl w).alloc _).alloc _).trans hu1
    go_wp2_with fail
    refine (keepPick_calls n 4 _ hn hn2 (by omega) (by omega)).mono ?_
    rintro e w2 ⟨k, hk, rfl, rfl⟩
    match k, hk with
    | 0, _ =>
      go_wp2_with fail
      refine bodyPost_ret (v := .agg #[.int .i64 4, .int .i64 17, .int .i64 1000003, .int .i64 4]) (by simp [results, Try.results85, go_sem, hk0, hk1, hk2, hk3]) rfl ⟨_, _, _, _, HE.out.1, rfl, ?_⟩
      exact (((hall.setCell (by simp) _).setCell (by simp) _).setCell (by simp) _).setCell (by simp) _
    | 1, _ =>
      go_wp2_with fail
      refine bodyPost_ret (v := .agg #[.int .i64 8, .int .i64 17, .int .i64 1073741789, .int .i64 2]) (by simp [results, Try.results85, go_sem, hk0, hk1, hk2, hk3]) rfl ⟨_, _, _, _, HE.out.2.1, rfl, ?_⟩
      exact (((hall.setCell (by simp) _).setCell (by simp) _).setCell (by simp) _).setCell (by simp) _
    | 2, _ =>
      go_wp2_with fail
      refine bodyPost_ret (v := .agg #[.int .i64 8, .int .i64 97, .int .i64 1073741823, .int .i64 1]) (by simp [results, Try.results85, go_sem, hk0, hk1, hk2, hk3]) rfl ⟨_, _, _, _, HE.out.2.2.1, rfl, ?_⟩
      exact (((hall.setCell (by simp) _).setCell (by simp) _).setCell (by simp) _).setCell (by simp) _
    | 3, _ =>
      go_wp2_with fail
      refine bodyPost_ret (v := .agg #[.int .i64 16, .int .i64 97, .int .i64 536870912, .int .i64 3]) (by simp [results, Try.results85, go_sem, hk0, hk1, hk2, hk3]) rfl ⟨_, _, _, _, HE.out.2.2.2, rfl, ?_⟩
      exact (((hall.setCell (by simp) _).setCell (by simp) _).setCell (by simp) _).setCell (by simp) _

end Go.Proofs.Ytcjhgbljhpflfaa
