/-
  A layer as a text, of the statements without the document's answer; the mask that makes two answers alike. No program here.
-/
import Derived.Test.YtcjhgbljhpflfabGreatKeepL
namespace Go.Proofs.YtcjhgbljhpflfabGreat
open Go.RowKit
set_option linter.unusedVariables false
set_option maxRecDepth 100000

/-- a layer's text -/
def layL (bd : Bool) (s : Nat) (M B : List Int) : List UInt8 := [76, if bd then 1 else 0, UInt8.ofNat s] ++ (textsL 2 M ++ textsL 2 B)

theorem lay_mat (bd : Bool) (s : Nat) (M B : List Int) (i : Nat) (hi : i < M.length) (h0 : 0 ≤ M.getD i 0) (h1 : M.getD i 0 < 65536) : (numL (layL bd s M B) (3 + 2 * i) 2 : Int) = M.getD i 0 := by
  have h256 : (256 ^ 2 : Nat) = 65536 := by decide
  have := numL_texts [76, if bd then 1 else 0, UInt8.ofNat s] (textsL 2 B) M 2 i hi (by omega)
  rw [layL]
  rw [show 3 + 2 * i = ([76, if bd then 1 else 0, UInt8.ofNat s] : List UInt8).length + 2 * i from rfl, this]
  omega

theorem lay_bias (bd : Bool) (s : Nat) (M B : List Int) (i : Nat) (hi : i < B.length) (h0 : 0 ≤ B.getD i 0) (h1 : B.getD i 0 < 65536) : (numL (layL bd s M B) (3 + 2 * M.length + 2 * i) 2 : Int) = B.getD i 0 := by
  have h256 : (256 ^ 2 : Nat) = 65536 := by decide
  have h := numL_texts ([76, if bd then 1 else 0, UInt8.ofNat s] ++ textsL 2 M) [] B 2 i hi (by omega)
  rw [List.append_nil, List.length_append, textsL_length, List.append_assoc] at h
  rw [layL]
  rw [show 3 + 2 * M.length + 2 * i = ([76, if bd then 1 else 0, UInt8.ofNat s] : List UInt8).length + 2 * M.length + 2 * i from rfl, h]
  omega

theorem getD_app (M B : List Int) (i : Nat) : (M ++ B).getD i 0 = if i < M.length then M.getD i 0 else B.getD (i - M.length) 0 := by
  split
  · rename_i h
    rw [List.getD_eq_getElem?_getD, List.getElem?_append_left h, ← List.getD_eq_getElem?_getD]
  · rename_i h
    rw [List.getD_eq_getElem?_getD, List.getElem?_append_right (by omega), ← List.getD_eq_getElem?_getD]

theorem lay_ok (n t : Nat) (bd : Bool) (s : Nat) (M B : List Int) (ht2 : t ≤ 1021) (hs : s < 8) (hM : M.length = n / 2 * (n / 2)) (hB : B.length = n) (bM : ∀ i, i < n / 2 * (n / 2) → 0 ≤ M.getD i 0 ∧ M.getD i 0 < (t : Int)) (bB : ∀ i, i < n → 0 ≤ B.getD i 0 ∧ B.getD i 0 < (t : Int)) : layB (layL bd s M B) n t = true := by
  have h256 : ((256 ^ 2 : Nat) : Int) = 65536 := by decide
  rw [layB_iff]
  refine ⟨?_, rfl, ?_, ?_, ?_⟩
  · rw [layL, List.length_append, List.length_append, textsL_length, textsL_length, hM, hB]
    simp only [List.length_cons, List.length_nil, sizN]
    omega
  · show (if bd then (1 : UInt8) else 0).toNat ≤ 1
    cases bd <;> decide
  · show (UInt8.ofNat s).toNat ≤ 7
    rcases (show s = 0 ∨ s = 1 ∨ s = 2 ∨ s = 3 ∨ s = 4 ∨ s = 5 ∨ s = 6 ∨ s = 7 by omega) with rfl | rfl | rfl | rfl | rfl | rfl | rfl | rfl <;> decide
  · have e : (layL bd s M B).drop 3 = textsL 2 (M ++ B) := by rw [textsL_append]; rfl
    rw [e]
    refine okL_texts _ _ 2 t (by rw [List.length_append, hM, hB]) (fun i hi => ?_) (by omega)
    rw [getD_app, hM]
    split
    · rename_i h; exact bM i h
    · rename_i h; exact bB _ (by omega)

theorem lay_app (n t : Nat) (bd : Bool) (s : Nat) (M B vs : List Int) (hn : n = 4 ∨ n = 8 ∨ n = 16) (ht2 : t ≤ 1021) (hM : M.length = n / 2 * (n / 2)) (hB : B.length = n) (bM : ∀ i, i < n / 2 * (n / 2) → 0 ≤ M.getD i 0 ∧ M.getD i 0 < (t : Int)) (bB : ∀ i, i < n → 0 ≤ B.getD i 0 ∧ B.getD i 0 < (t : Int)) : appI n t (layL bd s M B) vs = alI n t M B vs := by
  refine list_same (n := n) (appI_length _ _ _ _) (alI_length _ _ _ _ _) fun i hi => ?_
  rw [appI, getD_range hi, alI, getD_range hi, apC, alC]
  have e1 : (apB n (layL bd s M B) i : Int) = B.getD i 0 := by
    have h := bB i hi
    have := lay_bias bd s M B i (by omega) h.1 (by omega)
    rw [hM] at this
    exact this
  have e2 : sumI (apT n (layL bd s M B) vs (i / (n / 2)) (i % (n / 2))) (n / 2) = sumI (fun k => M.getD (i % (n / 2) * (n / 2) + k) 0 * vs.getD (i / (n / 2) * (n / 2) + k) 0) (n / 2) := by
    refine sumI_congr fun k hk => ?_
    have hf := (al_facts n hn i hi k hk).1
    have h := bM _ hf
    show (numL (layL bd s M B) (3 + 2 * (i % (n / 2) * (n / 2) + k)) 2 : Int) * vs.getD (i / (n / 2) * (n / 2) + k) 0 = _
    rw [lay_mat bd s M B _ (by omega) h.1 (by omega)]
  rw [e1, e2]

theorem lessI_at (n : Nat) (xs ys : List Int) (t : Int) (i : Nat) (hi : i < n) : (lessI n xs ys t).getD i 0 = (xs.getD i 0 - ys.getD i 0) % t := by
  rw [lessI, getD_range hi]; rfl
theorem plusI_at (n : Nat) (xs ys : List Int) (t : Int) (i : Nat) (hi : i < n) : (plusI n xs ys t).getD i 0 = (xs.getD i 0 + ys.getD i 0) % t := by
  rw [plusI, getD_range hi]; rfl

theorem plusI_small (n : Nat) (xs ys : List Int) (t : Int) (ht : 0 < t) : ∀ i, i < n → 0 ≤ (plusI n xs ys t).getD i 0 ∧ (plusI n xs ys t).getD i 0 < t := by
  intro i hi
  unfold plusI
  rw [getD_range hi]
  exact mod_bounds ht _

theorem alI_small (n : Nat) (t : Int) (M B vs : List Int) (ht : 0 < t) : ∀ i, i < n → 0 ≤ (alI n t M B vs).getD i 0 ∧ (alI n t M B vs).getD i 0 < t := by
  intro i hi
  unfold alI
  rw [getD_range hi]
  exact mod_bounds ht _

end Go.Proofs.YtcjhgbljhpflfabGreat
