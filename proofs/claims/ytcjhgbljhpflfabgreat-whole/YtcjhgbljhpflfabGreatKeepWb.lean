/-
  Walks: a net's text, a draw, of the statements without the document's answer.
  Walks: a net's text, of the statements without the document's answer.
-/
import Derived.Test.YtcjhgbljhpflfabGreatKeepWa
import Derived.Test.YtcjhgbljhpflfabGreatKeepBy
import Derived.Test.YtcjhgbljhpflfabGreatWalksNa
namespace Go.Proofs.YtcjhgbljhpflfabGreat
open Go.RowKit
set_option linter.unusedVariables false
set_option maxRecDepth 100000

/-- a net's text -/
def netL (ls : List (List UInt8)) : List UInt8 := [78, UInt8.ofNat ls.length] ++ ls.flatten

theorem flat_at (S : Nat) (ls : List (List UInt8)) (h : ∀ x ∈ ls, x.length = S) (i : Nat) (hi : i < ls.length) : (ls.flatten.take (i * S + S)).drop (i * S) = ls.getD i [] := by
  induction ls generalizing i with
  | nil => simp at hi
  | cons x xs ih =>
    have hx := h x (by simp)
    rw [List.flatten_cons]
    cases i with
    | zero =>
      rw [Nat.zero_mul, Nat.zero_add, List.drop_zero, ← hx, List.take_left]
      rfl
    | succ i =>
      have e1 : (i + 1) * S + S = x.length + (i * S + S) := by rw [hx, Nat.succ_mul]; omega
      have e2 : (i + 1) * S = x.length + i * S := by rw [hx, Nat.succ_mul]; omega
      rw [e1, e2, List.take_append, List.drop_append]
      simp only [Nat.add_sub_cancel_left, List.length_take]
      rw [List.drop_eq_nil_of_le (by simp), List.nil_append]
      rw [show x.length + i * S - min (x.length + (i * S + S)) x.length = i * S by omega]
      rw [ih (fun y hy => h y (by simp [hy])) i (by simpa using hi)]
      rfl

theorem flat_len (S : Nat) (ls : List (List UInt8)) (h : ∀ x ∈ ls, x.length = S) : ls.flatten.length = ls.length * S := by
  induction ls with
  | nil => simp
  | cons x xs ih =>
    rw [List.flatten_cons, List.length_append, h x (by simp), ih (fun y hy => h y (by simp [hy])), List.length_cons, Nat.succ_mul]
    omega

theorem net_byte1 (ls : List (List UInt8)) (h : ls.length ≤ 3) : byteL (netL ls) 1 = ls.length := by
  show (UInt8.ofNat ls.length).toNat = _
  rcases (show ls.length = 0 ∨ ls.length = 1 ∨ ls.length = 2 ∨ ls.length = 3 by omega) with e | e | e | e <;> rw [e] <;> rfl

theorem net_lay (n : Nat) (ls : List (List UInt8)) (h : ∀ x ∈ ls, x.length = sizN n) (i : Nat) (hi : i < ls.length) : layOf n (netL ls) i = ls.getD i [] := by
  unfold layOf netL
  rw [show 2 + i * sizN n + sizN n = (i * sizN n + sizN n) + 2 by omega, show 2 + i * sizN n = i * sizN n + 2 by omega]
  exact flat_at (sizN n) ls h i hi

theorem net_ok (n : Nat) (t : Int) (ls : List (List UInt8)) (h1 : 1 ≤ ls.length) (h3 : ls.length ≤ 3) (h : ∀ x ∈ ls, layB x n t = true) (hS : ∀ x ∈ ls, x.length = sizN n) : netB (netL ls) n t = true := by
  rw [netB_iff, net_byte1 ls h3]
  refine ⟨by simp [netL], rfl, h1, h3, ?_, fun i hi => ?_⟩
  · show ([78, UInt8.ofNat ls.length] ++ ls.flatten).length = _
    rw [List.length_append, flat_len (sizN n) ls hS]
    rfl
  · rw [net_lay n ls hS i hi]
    refine h _ ?_
    rw [List.getD_eq_getElem?_getD, List.getElem?_eq_getElem hi]
    exact List.getElem_mem hi

/-- a layer -/
structure Lay where
  bd : Bool
  s : Nat
  M : List Int
  B : List Int

abbrev Lay.text (l : Lay) : List UInt8 := layL l.bd l.s l.M l.B

structure Lay.Ok (l : Lay) (n t : Nat) : Prop where
  hs : l.s < 8
  hM : l.M.length = n / 2 * (n / 2)
  hB : l.B.length = n
  bM : ∀ i, i < n / 2 * (n / 2) → 0 ≤ l.M.getD i 0 ∧ l.M.getD i 0 < (t : Int)
  bB : ∀ i, i < n → 0 ≤ l.B.getD i 0 ∧ l.B.getD i 0 < (t : Int)

theorem Lay.Ok.lay {l : Lay} {n t : Nat} (h : l.Ok n t) (ht2 : t ≤ 1021) : layB l.text n t = true := lay_ok n t l.bd l.s l.M l.B ht2 h.hs h.hM h.hB h.bM h.bB

theorem Lay.Ok.len {l : Lay} {n t : Nat} (h : l.Ok n t) : l.text.length = sizN n := by
  show (layL _ _ _ _).length = _
  rw [layL, List.length_append, List.length_append, textsL_length, textsL_length, h.hM, h.hB]
  simp only [List.length_cons, List.length_nil, sizN]
  omega

/-- a layer in memory: four cells -/
def LayAt (w : World) (H o n : Nat) (l : Lay) : Prop :=
  ∃ gm cm gb cb : Nat, w.cell? ⟨H, o, none⟩ = some (.bool l.bd) ∧ w.cell? ⟨H, o + 1, none⟩ = some (.int .i64 (l.s : Int)) ∧ w.cell? ⟨H, o + 2, none⟩ = some (.slice (some ⟨gm, 0, none⟩) (n / 2 * (n / 2)) cm) ∧ w.cell? ⟨H, o + 3, none⟩ = some (.slice (some ⟨gb, 0, none⟩) n cb) ∧ IsI w gm l.M ∧ IsI w gb l.B

theorem LayAt.up {w w' : World} {H o n : Nat} {l : Lay} (h : LayAt w H o n l) (hu : Up w w') : LayAt w' H o n l := by
  obtain ⟨gm, cm, gb, cb, c0, c1, c2, c3, im, ib⟩ := h
  exact ⟨gm, cm, gb, cb, keepC hu c0, keepC hu c1, keepC hu c2, keepC hu c3, im.up hu, ib.up hu⟩

/-- draws in memory -/
structure DrawsAt (w : World) (b0 : Nat) (st : Option Addr) (k : Nat) (f : Nat → ByteArray) : Prop where
  siz : ∀ i, (f i).size ≤ maxLen
  no : ∀ i, k ≤ i → f i = ⟨#[]⟩
  yes : ∀ i, i < k → ∃ db o : Nat, st = some ⟨db, o, none⟩ ∧ db < b0 ∧ w.cell? ⟨db, o + i, none⟩ = some (.string (f i))

set_option maxHeartbeats 1000000 in
theorem draw_calls (st : Option Addr) (k c b0 i : Nat) (f : Nat → ByteArray) (w : World) (h : DrawsAt w b0 st k f) (hi : i ≤ 1000) (hk : k ≤ 9223372036854775807) :
    Calls Tryz.prog 73 #[.slice st k c, .int .i64 (i : Int)] w fun e w' => e = .returned (.string (f i)) ∧ w' = w := by
  by_cases hik : i < k
  · obtain ⟨db, o, rfl, _, hc⟩ := h.yes i hik
    have h0 : (0 : Int) ≤ (i : Int) := by omega
    have h1 : (i : Int) < (k : Int) := by omega
    go_enter Tryz.func73, Tryz.ntmps73
    go_wp2_with fail
    go_ret
    exact ⟨rfl, rfl⟩
  · have h1 : ¬ (i : Int) < (k : Int) := by omega
    rw [h.no i (by omega)]
    go_enter Tryz.func73, Tryz.ntmps73
    go_wp2_with fail
    go_ret
    exact ⟨rfl, rfl⟩

end Go.Proofs.YtcjhgbljhpflfabGreat

namespace Go.Proofs.YtcjhgbljhpflfabGreat
open Go.RowKit
set_option linter.unusedVariables false
set_option maxRecDepth 100000

def netOf (F : Nat → Lay) (k : Nat) : List (List UInt8) := (List.range k).map fun i => (F i).text

theorem netOf_succ (F : Nat → Lay) (k : Nat) : (netOf F (k + 1)).flatten = (netOf F k).flatten ++ (F k).text := by
  unfold netOf
  rw [List.range_succ, List.map_append, List.flatten_append]
  simp

theorem netOf_length (F : Nat → Lay) (k : Nat) : (netOf F k).length = k := by simp [netOf]

theorem netOf_at (F : Nat → Lay) (k i : Nat) (hi : i < k) : (netOf F k).getD i [] = (F i).text := by
  unfold netOf
  rw [List.getD_eq_getElem?_getD, List.getElem?_map, List.getElem?_range hi]
  rfl

theorem netOf_mem (F : Nat → Lay) (k : Nat) (P : List UInt8 → Prop) (h : ∀ i, i < k → P (F i).text) : ∀ x ∈ netOf F k, P x := by
  intro x hx
  unfold netOf at hx
  rw [List.mem_map] at hx
  obtain ⟨i, hi, rfl⟩ := hx
  exact h i (List.mem_range.1 hi)

set_option maxHeartbeats 4000000 in
theorem netText_calls (n t : Nat) (F : Nat → Lay) (H k c : Nat) (w : World) (hn : n = 4 ∨ n = 8 ∨ n = 16) (ht2 : t ≤ 1021) (hk1 : 1 ≤ k) (hk3 : k ≤ 3) (hF : ∀ i, i < k → (F i).Ok n t) (hL : ∀ i, i < k → LayAt w H (i * 4) n (F i)) :
    Calls Tryz.prog 20 #[.slice (some ⟨H, 0, none⟩) k c] w fun e w' => e = .returned (.string ⟨(netL (netOf F k)).toArray⟩) ∧ Up w w' := by
  have hS := sizN_le n hn
  have HLen : Hid (∀ i, i ≤ k → (netOf F i).flatten.length ≤ 600) := fun i hi => by
    rw [flat_len (sizN n) _ (netOf_mem F i (fun x => x.length = sizN n) fun j hj => (hF j (by omega)).len), netOf_length]
    have := Nat.mul_le_mul (show i ≤ 3 by omega) hS
    omega
  have HTx : Hid (∀ i, i < k → (F i).text.length ≤ 200) := fun i hi => by rw [(hF i hi).len]; exact hS
  have HS : Hid (∀ i, (netOf F (i + 1)).flatten = (netOf F i).flatten ++ (F i).text) := netOf_succ F
  have HE : Hid (netL (netOf F k) = [78, UInt8.ofNat k] ++ (netOf F k).flatten) := show _ = _ by rw [netL, netOf_length]
  generalize netL (netOf F k) = ans at HE
  have HBy : Hid (∀ i, i < k → ∀ W, Up w W → ∃ (gm cm gb cb : Nat), W.cell? ⟨H, i * 4, none⟩ = some (.bool (F i).bd) ∧ W.cell? ⟨H, i * 4 + 1, none⟩ = some (.int .i64 ((F i).s : Int)) ∧ W.cell? ⟨H, i * 4 + 2, none⟩ = some (.slice (some ⟨gm, 0, none⟩) (n / 2 * (n / 2)) cm) ∧ W.cell? ⟨H, i * 4 + 3, none⟩ = some (.slice (some ⟨gb, 0, none⟩) n cb) ∧ ∀ W', Up W W' →
      Calls Tryz.prog 69 #[.agg #[.bool (F i).bd, .int .i64 ((F i).s : Int), .slice (some ⟨gm, 0, none⟩) (n / 2 * (n / 2)) cm, .slice (some ⟨gb, 0, none⟩) n cb]] W' fun e w' => e = .returned (.string ⟨(F i).text.toArray⟩) ∧ Up W' w') := fun i hi W hW => by
    obtain ⟨gm, cm, gb, cb, c0, c1, c2, c3, im, ib⟩ := (hL i hi).up hW
    have o := hF i hi
    exact ⟨gm, cm, gb, cb, c0, c1, c2, c3, fun W' hu => bytes_calls _ _ _ _ gm _ cm gb n cb W' o.hs o.hM (Nat.mul_le_mul (show n / 2 ≤ 8 by omega) (show n / 2 ≤ 8 by omega)) o.hB (by omega) (fun j hj => by have := o.bM j hj; omega) (fun j hj => by have := o.bB j hj; omega) (im.up hu) (ib.up hu)⟩
  have e4 : IntKind.u8.wrap (k : Int) = (k : Int) := by rw [IntKind.wrap_u8]; omega
  have hconv := conv_one (k : Int) (by omega) (by omega)
  rw [show ((k : Int)).toNat = k by omega] at hconv
  have hadd := add_str [78] [UInt8.ofNat k] (by simp) (by simp)
  clear hL hF
  generalize UInt8.ofNat k = K8 at hconv hadd HE
  go_enter Tryz.func20, Tryz.ntmps20
  go_wp2_with fail
  obtain ⟨W0, hW0⟩ : ∃ W, W = w.alloc (.cells #[.int .u8 (k : Int)] 5) := ⟨_, rfl⟩
  have huW : Up w W0 := by rw [hW0]; exact (Up.refl _).alloc _
  rw [← hW0]
  clear hW0 hconv hadd e4 hS hn
  go_loopw [3, 4] (fun sv si wr => ∃ i : Nat, i ≤ k ∧ si = .int .i64 (i : Int) ∧ sv = .string ⟨([78, K8] ++ (netOf F i).flatten).toArray⟩ ∧ Up W0 wr) (fun _ si _ => k - (intOf si).toNat)
  case atStart => exact ⟨0, Nat.zero_le _, rfl, rfl, Up.refl _⟩
  case round =>
    obtain ⟨i, hi, rfl, rfl, hu⟩ := hrel
    by_cases hik : i < k
    · obtain ⟨gm, cm, gb, cb, c0, c1, c2, c3, hcall⟩ := HBy.out i hik wr (huW.trans hu)
      have HCa : Hid _ := hcall
      clear hcall
      have hl1 := HLen.out i hi
      have hl2 := HTx.out i hik
      have hadd2 := add_str ([78, K8] ++ (netOf F i).flatten) (F i).text (by rw [List.length_append]; simp only [List.length_cons, List.length_nil]; omega) (by omega)
      have HSi : Hid ([78, K8] ++ (netOf F (i + 1)).flatten = [78, K8] ++ (netOf F i).flatten ++ (F i).text) := show _ = _ by rw [HS.out, List.append_assoc]
      generalize [78, K8] ++ (netOf F i).flatten = A at hadd2 HSi
      generalize (F i).text = T at hadd2 HSi HCa hl2
      generalize (F i).bd = bd at c0 HCa
      generalize (F i).s = sI at c1 HCa
      have hi0 : (0 : Int) ≤ (i : Int) := by omega
      have hi1 : (i : Int) < (k : Int) := by omega
      go_wp2_with fail
      refine Calls.mono (HCa.out _ (Up.refl _)) ?_
      rintro e w2 ⟨rfl, hu2⟩
      clear c0 c1 c2 c3
      go_wp2_with fail
      go_roundw
      case rel => exact ⟨i + 1, by omega, by go_num, by rw [HSi.out], hu.trans hu2⟩
      case measure => simp [intOf]; omega
    · obtain rfl : i = k := by omega
      rw [← HE.out]
      go_wp2_with fail
      go_ret
      exact ⟨rfl, huW.trans hu⟩

end Go.Proofs.YtcjhgbljhpflfabGreat
