/-
  Walks: the reference's Read and Told.
  Walks: the reference's Told, Bound, Encrypt.
  Walks: the reference's Encrypt.
  Walks: the reference's Decrypt.
-/
import Derived.Test.YtcjhgbljhpflfabWalksRa
namespace Go.Proofs.Ytcjhgbljhpflfab
open Go.RowKit
set_option linter.unusedVariables false
set_option maxRecDepth 100000

/-- a ciphertext's parts -/
def ctE (l : List UInt8) : Nat := numL l 1 5
def ct0 (l : List UInt8) (n : Nat) : List Int := (List.range n).map fun i => (numL l (6 + 4 * i) 4 : Int)
def ct1 (l : List UInt8) (n : Nat) : List Int := (List.range n).map fun i => (numL l (6 + 4 * n + 4 * i) 4 : Int)

/-- is the text a ciphertext? -/
def ctB (l : List UInt8) (n : Nat) (t q : Int) : Bool :=
  decide (l.length = 6 + 8 * n) && decide (byteL l 0 = 67) && okL ((l.take (6 + 4 * n)).drop 6) n 4 q && okL (l.drop (6 + 4 * n)) n 4 q && fitsB t q (ctE l)

theorem byteL_drop (l : List UInt8) (k i : Nat) : byteL (l.drop k) i = byteL l (k + i) := by
  unfold byteL
  simp [List.getD_eq_getElem?_getD, List.getElem?_drop]

theorem byteL_take (l : List UInt8) (k i : Nat) (h : i < k) : byteL (l.take k) i = byteL l i := by
  unfold byteL
  simp [List.getD_eq_getElem?_getD, h]

theorem numL_drop (l : List UInt8) (k i m : Nat) : numL (l.drop k) i m = numL l (k + i) m := by
  induction m with
  | zero => rfl
  | succ m ih => simp only [numL]; rw [ih, byteL_drop, Nat.add_assoc]

theorem numL_take (l : List UInt8) (k i m : Nat) (h : i + m ≤ k) : numL (l.take k) i m = numL l i m := by
  induction m with
  | zero => rfl
  | succ m ih => simp only [numL]; rw [ih (by omega), byteL_take _ _ _ (by omega)]

theorem ct0_eq (l : List UInt8) (n : Nat) : numsL ((l.take (6 + 4 * n)).drop 6) 4 n = ct0 l n := by
  rw [numsL_range]
  refine List.map_congr_left fun i hi => ?_
  have := List.mem_range.1 hi
  rw [numL_drop, numL_take _ _ _ _ (by omega), Nat.mul_comm i 4]

theorem ct1_eq (l : List UInt8) (n : Nat) : numsL (l.drop (6 + 4 * n)) 4 n = ct1 l n := by
  rw [numsL_range]
  refine List.map_congr_left fun i hi => ?_
  rw [numL_drop, Nat.mul_comm i 4]

theorem ct0_length (l : List UInt8) (n : Nat) : (ct0 l n).length = n := by simp [ct0]
theorem ct1_length (l : List UInt8) (n : Nat) : (ct1 l n).length = n := by simp [ct1]

theorem ctB_iff (l : List UInt8) (n : Nat) (t q : Int) : ctB l n t q = true ↔ l.length = 6 + 8 * n ∧ byteL l 0 = 67 ∧ okL ((l.take (6 + 4 * n)).drop 6) n 4 q = true ∧ okL (l.drop (6 + 4 * n)) n 4 q = true ∧ fitsB t q (ctE l) = true := by
  unfold ctB
  simp [and_assoc]

theorem ext_mid (s : ByteArray) (n : Nat) (h : s.size = 6 + 8 * n) : (s.extract 6 (6 + 4 * n)).data.toList = (s.data.toList.take (6 + 4 * n)).drop 6 := ext_list s 6 (6 + 4 * n) (by omega)
theorem ext_end (s : ByteArray) (n : Nat) : (s.extract (6 + 4 * n) s.size).data.toList = s.data.toList.drop (6 + 4 * n) := by
  rw [ext_list s _ s.size (Nat.le_refl _)]
  have : s.data.toList.take s.size = s.data.toList := List.take_of_length_le (by simp)
  rw [this]

theorem List_any (s : ByteArray) (n size : Nat) (m : Int) (w : World) (hs : s.size ≤ maxLen) (hn : n ≤ 1048576) (hsz : size ≤ 5) :
    Calls Try.prog 110 #[.string s, .int .i64 n, .int .i64 size, .int .i64 m] w fun e w' => ∃ a x y, e = .returned (.tuple #[.slice a x y, .bool (okL s.data.toList n size m)]) ∧ Up w w' := by
  cases h : okL s.data.toList n size m with
  | true =>
    refine (List_ok s n size m w hs hn hsz h).mono ?_
    rintro e w' ⟨v, rfl, hown, hu⟩
    rcases hown.2 with ⟨rfl, _⟩ | ⟨g, cap, cur, rfl, _⟩
    · exact ⟨_, _, _, rfl, hu⟩
    · exact ⟨_, _, _, rfl, hu⟩
  | false =>
    refine (List_no s n size m w hs hn hsz h).mono ?_
    rintro e w' ⟨rfl, hu⟩
    exact ⟨_, _, _, rfl, hu⟩

end Go.Proofs.Ytcjhgbljhpflfab

namespace Go.Proofs.Ytcjhgbljhpflfab
open Go.RowKit
set_option linter.unusedVariables false
set_option maxRecDepth 100000

/-- a ciphertext as bytes -/
def toldL (e : Nat) (c0 c1 : List Int) : List UInt8 := [67] ++ textL e 5 ++ textsL 4 c0 ++ textsL 4 c1

theorem keep3 {a : Nat} {u0 u1 u2 : Value} {W W' : World} (hu : Up W W') (hS : W.cell? ⟨a, 0, none⟩ = some u0 ∧ W.cell? ⟨a, 1, none⟩ = some u1 ∧ W.cell? ⟨a, 2, none⟩ = some u2) :
    W'.cell? ⟨a, 0, none⟩ = some u0 ∧ W'.cell? ⟨a, 1, none⟩ = some u1 ∧ W'.cell? ⟨a, 2, none⟩ = some u2 :=
  ⟨keepU hu hS.1, keepU hu hS.2.1, keepU hu hS.2.2⟩

end Go.Proofs.Ytcjhgbljhpflfab

namespace Go.Proofs.Ytcjhgbljhpflfab
open Go.RowKit
set_option linter.unusedVariables false
set_option maxRecDepth 100000

/-- what Encrypt answers -/
def hideL (n t : Nat) (q : Int) (k v d : List UInt8) : List UInt8 :=
  toldL 2 (hidI n (secI k n) (encI n t (numsL v 2 n)) (q / (t : Int)) q d 0) (pairA d q n 0)

end Go.Proofs.Ytcjhgbljhpflfab

namespace Go.Proofs.Ytcjhgbljhpflfab
open Go.RowKit
set_option linter.unusedVariables false
set_option maxRecDepth 100000

/-- what is opened: coefficient i -/
def openC (t q : Int) (vs : List Int) (i : Nat) : Int := (2 * t * vs.getD i 0 + q) / (2 * q) % t
def openI (n : Nat) (t q : Int) (vs : List Int) : List Int := (List.range n).map (openC t q vs)

/-- c0 and c1 times s -/
def mixI (n : Nat) (q : Int) (c s : List UInt8) : List Int := plusI n (ct0 c n) (timesI n (ct1 c n) (secI s n) q) q

def openL (n t : Nat) (q : Int) (k c : List UInt8) : List UInt8 := textsL 2 (decI n t (openI n t q (mixI n q c k)))

theorem openI_length (n : Nat) (t q : Int) (vs : List Int) : ((List.range n).map (openC t q vs)).length = n := by simp

theorem openI_bounds (n : Nat) (t q : Int) (vs : List Int) (ht : 0 < t) (ht2 : t ≤ 1021) : ∀ i, i < ((List.range n).map (openC t q vs)).length → 0 ≤ ((List.range n).map (openC t q vs)).getD i 0 ∧ ((List.range n).map (openC t q vs)).getD i 0 < 65536 := by
  intro i hi
  rw [openI_length] at hi
  rw [getD_range hi]
  have := mod_bounds ht ((2 * t * vs.getD i 0 + q) / (2 * q))
  unfold openC
  omega

theorem OwnI.isI {w : World} {base g cap n : Nat} {xs : List Int} (h : OwnI w base (.slice (some ⟨g, 0, none⟩) n cap) xs) : IsI w g xs := by
  have h1 := h.block_lt
  refine ⟨h1.2, fun i hi => ?_⟩
  rcases h.2 with ⟨c, _⟩ | ⟨g', cap', cur, he, _, h5, _, _, _, h9⟩
  · simp at c
  · simp only [Value.slice.injEq, Option.some.injEq, Addr.mk.injEq, and_true] at he
    obtain ⟨rfl, _, _⟩ := he
    have hc : w.cell? ⟨g, i, none⟩ = cur.toList[i]? := by
      simp [World.cell?, h5]
    rw [hc]
    have h10 : (cur.toList.take (xs.length * 1))[i]? = (xs.map (Value.int .i64))[i]? := by rw [h9]
    rw [List.getElem?_take, if_pos (by omega)] at h10
    rw [h10, List.getElem?_map, List.getD_eq_getElem?_getD, List.getElem?_eq_getElem hi]
    rfl

theorem ct0_bnd (l : List UInt8) (n : Nat) (t q : Int) (h : ctB l n t q = true) (hq2 : q ≤ 1073741823) (m : Int) (hm : 1073741823 ≤ m) : Bnd (ct0 l n) m := by
  obtain ⟨_, _, h3, _, _⟩ := (ctB_iff _ _ _ _).1 h
  refine Bnd_map (by omega) fun i hi => ?_
  have := ((okL_iff _ _ _ _).1 h3).2 i hi
  rw [numL_drop, numL_take _ _ _ _ (by omega), Nat.mul_comm i 4] at this
  omega

theorem ct1_bnd (l : List UInt8) (n : Nat) (t q : Int) (h : ctB l n t q = true) (hq2 : q ≤ 1073741823) (m : Int) (hm : 1073741823 ≤ m) : Bnd (ct1 l n) m := by
  obtain ⟨_, _, _, h4, _⟩ := (ctB_iff _ _ _ _).1 h
  refine Bnd_map (by omega) fun i hi => ?_
  have := ((okL_iff _ _ _ _).1 h4).2 i hi
  rw [numL_drop, Nat.mul_comm i 4] at this
  omega

end Go.Proofs.Ytcjhgbljhpflfab
