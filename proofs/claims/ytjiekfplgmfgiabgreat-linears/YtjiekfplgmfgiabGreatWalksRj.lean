/-
  Walks: the reference's Decrypt.
-/
import Derived.Test.YtjiekfplgmfgiabGreatWalksRh
namespace Go.Proofs.YtjiekfplgmfgiabGreat
open Go.RowKit
set_option linter.unusedVariables false
set_option maxRecDepth 100000

/-- what is opened: coefficient i -/
def openC (t q : Int) (vs : List Int) (i : Nat) : Int := (2 * t * vs.getD i 0 + q) / (2 * q) % t
def openI (n : Nat) (t q : Int) (vs : List Int) : List Int := (List.range n).map (openC t q vs)

/-- c0 and c1 times s -/
def mixI (n : Nat) (q : Int) (c s : List UInt8) : List Int := plusI n (ct0 c n) (timesI n (ct1 c n) (secI s n) q) q

def openL (n t : Nat) (q : Int) (k c : List UInt8) : List UInt8 := textsL 2 (decI n t (openI n t q (mixI n q c k)))

theorem openI_length (n : Nat) (t q : Int) (vs : List Int) : ((List.range n).map (openC t q vs)).length = n := by simp

theorem openI_bounds (n : Nat) (t q : Int) (vs : List Int) (ht : 0 < t) (ht2 : t ≤ 1021) : ∀ i, i < ((List.range n).map (openC t q vs)).length → 0 ≤ ((List.range n).map (openC t q vs)).getD i 0 ∧ ((List.range n).map (openC t q vs)).getD i 0 < 65536 := by
  intro i hi
  rw [openI_length] at hi
  rw [getD_range hi]
  have := mod_bounds ht ((2 * t * vs.getD i 0 + q) / (2 * q))
  unfold openC
  omega

theorem OwnI.isI {w : World} {base g cap n : Nat} {xs : List Int} (h : OwnI w base (.slice (some ⟨g, 0, none⟩) n cap) xs) : IsI w g xs := by
  have h1 := h.block_lt
  refine ⟨h1.2, fun i hi => ?_⟩
  rcases h.2 with ⟨c, _⟩ | ⟨g', cap', cur, he, _, h5, _, _, _, h9⟩
  · simp at c
  · simp only [Value.slice.injEq, Option.some.injEq, Addr.mk.injEq, and_true] at he
    obtain ⟨rfl, _, _⟩ := he
    have hc : w.cell? ⟨g, i, none⟩ = cur.toList[i]? := by
      simp [World.cell?, h5]
    rw [hc]
    have h10 : (cur.toList.take (xs.length * 1))[i]? = (xs.map (Value.int .i64))[i]? := by rw [h9]
    rw [List.getElem?_take, if_pos (by omega)] at h10
    rw [h10, List.getElem?_map, List.getD_eq_getElem?_getD, List.getElem?_eq_getElem hi]
    rfl

theorem ct0_bnd (l : List UInt8) (n : Nat) (t q : Int) (h : ctB l n t q = true) (hq2 : q ≤ 1073741823) (m : Int) (hm : 1073741823 ≤ m) : Bnd (ct0 l n) m := by
  obtain ⟨_, _, h3, _, _⟩ := (ctB_iff _ _ _ _).1 h
  refine Bnd_map (by omega) fun i hi => ?_
  have := ((okL_iff _ _ _ _).1 h3).2 i hi
  rw [numL_drop, numL_take _ _ _ _ (by omega), Nat.mul_comm i 4] at this
  omega

theorem ct1_bnd (l : List UInt8) (n : Nat) (t q : Int) (h : ctB l n t q = true) (hq2 : q ≤ 1073741823) (m : Int) (hm : 1073741823 ≤ m) : Bnd (ct1 l n) m := by
  obtain ⟨_, _, _, h4, _⟩ := (ctB_iff _ _ _ _).1 h
  refine Bnd_map (by omega) fun i hi => ?_
  have := ((okL_iff _ _ _ _).1 h4).2 i hi
  rw [numL_drop, Nat.mul_comm i 4] at this
  omega

end Go.Proofs.YtjiekfplgmfgiabGreat
