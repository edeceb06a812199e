/-
  Walks: the reference's writing of numbers.
-/
import Derived.Test.YtjiekfplgmfgiabGreatWalksS
import Derived.Deep.RegionWith
import Derived.Deep.DrawnRows
namespace Go.Proofs.YtjiekfplgmfgiabGreat
open Go.RowKit
set_option linter.unusedVariables false
attribute [local go_sem ↓] Go.wp_at_zero Go.wp_at_succ

/-- a number as n bytes -/
def textL (v : Nat) : Nat → List UInt8
  | 0 => []
  | n + 1 => textL (v / 256) n ++ [UInt8.ofNat (v % 256)]

theorem textL_length (v n : Nat) : (textL v n).length = n := by
  induction n generalizing v with
  | zero => rfl
  | succ n ih => simp [textL, ih]

set_option maxHeartbeats 1000000 in
theorem Text_zero (v : Int) (w : World) :
    Calls Tryz.prog 58 #[.int .i64 v, .int .i64 0] w fun e w' => e = .returned (.string ⟨#[]⟩) ∧ Up w w' := by
  go_enter Tryz.func58, Tryz.ntmps58
  go_wp2
  go_ret
  exact ⟨rfl, Up.refl _⟩

theorem conv_one (x : Int) (h0 : 0 ≤ x) (h1 : x ≤ 255) (W : World) (g : Nat) (h : W.cell? ⟨g, 0, none⟩ = some (.int .u8 x)) :
    (convert 109 9 (.slice (some ⟨g, 0, none⟩) 1 1)).run Tryz.prog W = .ok (.string ⟨#[UInt8.ofNat x.toNat]⟩) W := by
  have e : ((UInt8.ofNat x.toNat).toNat : Int) = x := by
    have : x.toNat % 256 = x.toNat := by omega
    simp [this]
    omega
  refine run_convert_bytes_back (P := Tryz.prog) W 109 9 5 ⟨g, 0, none⟩ 1 [UInt8.ofNat x.toNat] Tryz.underlying109 Tryz.underlying5 Tryz.underlying9 ?_
  intro j hj
  simp at hj
  subst hj
  simp only [List.getElem_cons_zero, e]
  simpa [Addr.add] using h

theorem add_text (v : Int) (h0 : 0 ≤ v) (n : Nat) (hn : n ≤ 8) (W : World) :
    (Op.stringOp .add ⟨(textL (v / 256).toNat n).toArray⟩ ⟨#[UInt8.ofNat (v % 256).toNat]⟩).run Tryz.prog W = .ok (.string ⟨(textL v.toNat (n + 1)).toArray⟩) W := by
  have h := run_string_add_lists (P := Tryz.prog) W (textL (v / 256).toNat n) [UInt8.ofNat (v % 256).toNat] (by rw [textL_length]; omega) (by simp)
  rw [h]
  have e1 : (v / 256).toNat = v.toNat / 256 := by omega
  have e2 : (v % 256).toNat = v.toNat % 256 := by omega
  rw [e1, e2]
  rfl

set_option maxHeartbeats 1000000 in
theorem Text_calls (n : Nat) (hn : n ≤ 8) : ∀ (v y : Int) (w : World), 0 ≤ v → v ≤ 4611686018427387904 → y = n →
    Calls Tryz.prog 58 #[.int .i64 v, .int .i64 y] w fun e w' => e = .returned (.string ⟨(textL v.toNat n).toArray⟩) ∧ Up w w' := by
  induction n with
  | zero => exact fun v y w _ _ hy => by subst hy; exact Text_zero v w
  | succ n ih =>
    intro v y w h0 hv hy
    have ih := ih (by omega)
    have H : Hid _ := ih
    clear ih
    have e1 : IntKind.i64.wrap (y - 1) = y - 1 := by rw [IntWalk.i64_in _ (by omega)]
    have e2 : IntKind.i64.wrap (v.tdiv 256) = v / 256 := IntWalk.i64_quo _ _ (by omega)
    have e3 : v.tmod 256 = v % 256 := Int.tmod_eq_emod_of_nonneg h0
    have e4 : IntKind.u8.wrap (v % 256) = v % 256 := by rw [IntKind.wrap_u8]; omega
    have h3 : decide (y ≤ 0) = false := by simp; omega
    have HY : Hid _ := hy
    have hadd := add_text v h0 n (by omega)
    have hconv := conv_one (v % 256) (by omega) (by omega)
    have hy1 : 1 ≤ y := by omega
    have hy2 : y ≤ 8 := by omega
    clear hy
    go_enter Tryz.func58, Tryz.ntmps58
    go_wp2_with fail
    go_region_with ((go_at_call 58; refine (H.out _ _ _ (by omega) (by omega) (by have := HY.out; omega)).mono ?_; rintro e w' ⟨rfl, hu⟩; obtain ⟨hc, hf⟩ := bcell hu))
    all_goals go_wp2
    all_goals go_ret
    all_goals first
      | exact ⟨rfl, Up.alloc (Up.trans (Up.drew (Up.refl _)) (by assumption)) _⟩
      | exact ⟨rfl, Up.trans (Up.drew (Up.alloc (Up.refl _) _)) (by assumption)⟩
      | exact ⟨rfl, Up.trans (Up.alloc (Up.drew (Up.refl _)) _) (by assumption)⟩

/-- block g holds the numbers xs, from its first cell on -/
def IsI (w : World) (g : Nat) (xs : List Int) : Prop := g < w.heap.size ∧ ∀ i, i < xs.length → w.cell? ⟨g, i, none⟩ = some (.int .i64 (xs.getD i 0))

theorem IsI.up {w w' : World} {g : Nat} {xs : List Int} (h : IsI w g xs) (hu : Up w w') : IsI w' g xs :=
  ⟨Nat.lt_of_lt_of_le h.1 hu.size, fun i hi => (hu.cell (p := ⟨g, i, none⟩) h.1).trans (h.2 i hi)⟩

theorem OwnI.is {w : World} {base : Nat} {v : Value} {xs : List Int} (h : OwnI w base v xs) (hx : xs ≠ []) :
    ∃ g cap, v = .slice (some ⟨g, 0, none⟩) xs.length cap ∧ base ≤ g ∧ IsI w g xs := by
  have h' := h
  rcases h.2 with ⟨_, h2⟩ | ⟨g, cap, cur, rfl, h4, h5, _⟩
  · exact absurd (List.eq_nil_of_length_eq_zero h2) hx
  · refine ⟨g, cap, rfl, h4, (Array.getElem?_eq_some_iff.1 h5).1, fun i hi => ?_⟩
    rw [World.ownsRow.cellAt h' i (by omega), List.getElem?_map, List.getD_eq_getElem?_getD, List.getElem?_eq_getElem hi]
    rfl

/-- numbers as n bytes each -/
def textsL (n : Nat) : List Int → List UInt8
  | [] => []
  | x :: xs => textL x.toNat n ++ textsL n xs

theorem textsL_snoc (n : Nat) (xs : List Int) (x : Int) : textsL n (xs ++ [x]) = textsL n xs ++ textL x.toNat n := by
  induction xs with
  | nil => simp [textsL]
  | cons y xs ih => simp [textsL, ih]

theorem textsL_length (n : Nat) (xs : List Int) : (textsL n xs).length = n * xs.length := by
  induction xs with
  | nil => rfl
  | cons y xs ih => simp [textsL, ih, textL_length, Nat.mul_add]; omega

theorem take_snocI (xs : List Int) (k : Nat) (h : k < xs.length) : xs.take (k + 1) = xs.take k ++ [xs.getD k 0] := by
  rw [List.take_succ_eq_append_getElem h, List.getD_eq_getElem?_getD, List.getElem?_eq_getElem h]; rfl

theorem add_texts (xs : List Int) (k n : Nat) (hk : k < xs.length) (hl : xs.length ≤ 1000) (hn : n ≤ 8) (W : World) :
    (Op.stringOp .add ⟨(textsL n (xs.take k)).toArray⟩ ⟨(textL (xs.getD k 0).toNat n).toArray⟩).run Tryz.prog W = .ok (.string ⟨(textsL n (xs.take (k + 1))).toArray⟩) W := by
  have h1 : n * (xs.take k).length ≤ 8 * 1000 := Nat.mul_le_mul hn (by simp; omega)
  rw [run_string_add_lists (P := Tryz.prog) W _ _ (by rw [textsL_length]; omega) (by rw [textL_length]; omega), take_snocI xs k hk, textsL_snoc]

set_option maxHeartbeats 1000000 in
theorem Texts_calls (xs : List Int) (g cap n : Nat) (w : World) (hn : n ≤ 8) (hl : xs.length ≤ 1000) (hx : ∀ i, i < xs.length → 0 ≤ xs.getD i 0 ∧ xs.getD i 0 ≤ 4611686018427387904) (hi : IsI w g xs) :
    Calls Tryz.prog 29 #[.slice (some ⟨g, 0, none⟩) xs.length cap, .int .i64 n] w fun e w' => e = .returned (.string ⟨(textsL n xs).toArray⟩) ∧ Up w w' := by
  have HX : Hid _ := hx
  clear hx
  go_enter Tryz.func29, Tryz.ntmps29
  go_wp2
  go_loopw [5, 6] (fun s j wr => ∃ k : Nat, k ≤ xs.length ∧ j = .int .i64 (k : Int) ∧ s = .string ⟨(textsL n (xs.take k)).toArray⟩ ∧ Up w wr) (fun _ j _ => xs.length - (intOf j).toNat)
  case atStart => exact ⟨0, Nat.zero_le _, rfl, rfl, Up.refl _⟩
  case round =>
    obtain ⟨k, hk, rfl, rfl, hu⟩ := hrel
    by_cases hlt : k < xs.length
    · have hc := (hi.up hu).2 k hlt
      have hb := HX.out k hlt
      have hadd := add_texts xs k n hlt hl hn
      generalize xs.getD k 0 = x at hc hb hadd
      have hx1 := hb.1
      have hx2 := hb.2
      clear hb
      go_wp2_with fail
      refine (Text_calls n hn _ _ _ hx1 hx2 rfl).mono ?_
      rintro e w' ⟨rfl, hu2⟩
      go_wp2_with fail
      go_roundw
      case rel => exact ⟨k + 1, by omega, by go_num, rfl, hu.trans hu2⟩
      case measure => simp [intOf]; omega
    · obtain rfl : k = xs.length := by omega
      go_wp2
      go_ret
      exact ⟨by first | rfl | (rw [List.take_length]; rfl), hu⟩

end Go.Proofs.YtjiekfplgmfgiabGreat
