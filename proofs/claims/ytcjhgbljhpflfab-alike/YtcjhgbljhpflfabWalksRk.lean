/-
  Walks: the reference's Add.
  Walks: the reference's Add, where it goes through.
  Walks: the reference's AddPlain.
  Walks: the reference's MulPlain.
  Walks: the reference's MulPlain, where it goes through.
-/
import Derived.Test.YtcjhgbljhpflfabWalksRg
namespace Go.Proofs.Ytcjhgbljhpflfab
open Go.RowKit
set_option linter.unusedVariables false
set_option maxRecDepth 100000

/-- what Told answers -/
def tellL (t q : Int) (e : Nat) (c0 c1 : List Int) : List UInt8 × Int := if fitsB t q e = true then (toldL e c0 c1, 0) else ([], 4)

theorem keepP {p : Addr} {u : Value} {W W' : World} (hu : Up W W') (hS : W.cell? p = some u) : W'.cell? p = some u :=
  (hu.cell (p := p) (World.block_lt_of_cell? W p hS)).trans hS

end Go.Proofs.Ytcjhgbljhpflfab

namespace Go.Proofs.Ytcjhgbljhpflfab
open Go.RowKit
set_option linter.unusedVariables false
set_option maxRecDepth 100000

/-- what Add answers -/
def addL (n t : Nat) (q : Int) (x y : List UInt8) : List UInt8 × Int :=
  tellL t q (ctE x + ctE y + (q % (t : Int)).toNat) (plusI n (ct0 x n) (ct0 y n) q) (plusI n (ct1 x n) (ct1 y n) q)

theorem keep10 {p0 p1 p2 p3 p4 p5 p6 p7 p8 p9 : Addr} {u0 u1 u2 u3 u4 u5 u6 u7 u8 u9 : Value} {W W' : World} (hu : Up W W')
    (hS : W.cell? p0 = some u0 ∧ W.cell? p1 = some u1 ∧ W.cell? p2 = some u2 ∧ W.cell? p3 = some u3 ∧ W.cell? p4 = some u4 ∧ W.cell? p5 = some u5 ∧ W.cell? p6 = some u6 ∧ W.cell? p7 = some u7 ∧ W.cell? p8 = some u8 ∧ W.cell? p9 = some u9) :
    W'.cell? p0 = some u0 ∧ W'.cell? p1 = some u1 ∧ W'.cell? p2 = some u2 ∧ W'.cell? p3 = some u3 ∧ W'.cell? p4 = some u4 ∧ W'.cell? p5 = some u5 ∧ W'.cell? p6 = some u6 ∧ W'.cell? p7 = some u7 ∧ W'.cell? p8 = some u8 ∧ W'.cell? p9 = some u9 := by
  obtain ⟨h0, h1, h2, h3, h4, h5, h6, h7, h8, h9⟩ := hS
  exact ⟨keepP hu h0, keepP hu h1, keepP hu h2, keepP hu h3, keepP hu h4, keepP hu h5, keepP hu h6, keepP hu h7, keepP hu h8, keepP hu h9⟩

theorem ctE_lt (l : List UInt8) (n : Nat) (t q : Int) (ht : 1 ≤ t) (hq : 0 ≤ q) (h : ctB l n t q = true) : (ctE l : Int) < q := by
  obtain ⟨_, _, _, _, h5⟩ := (ctB_iff _ _ _ _).1 h
  rcases Int.lt_or_le (ctE l : Int) q with c | c
  · exact c
  · rw [fitsB_far ht hq c] at h5
    exact absurd h5 (by decide)

end Go.Proofs.Ytcjhgbljhpflfab

namespace Go.Proofs.Ytcjhgbljhpflfab
open Go.RowKit
set_option linter.unusedVariables false
set_option maxRecDepth 100000

/-- what AddPlain answers -/
def addPlainL (n t : Nat) (q : Int) (x v : List UInt8) : List UInt8 × Int :=
  tellL t q (ctE x + (q % (t : Int)).toNat) (plusI n (ct0 x n) (scaledI n (encI n t (numsL v 2 n)) (q / (t : Int)) q) q) (ct1 x n)

theorem keep7 {p0 p1 p2 p3 p4 p5 p6 : Addr} {u0 u1 u2 u3 u4 u5 u6 : Value} {W W' : World} (hu : Up W W')
    (hS : W.cell? p0 = some u0 ∧ W.cell? p1 = some u1 ∧ W.cell? p2 = some u2 ∧ W.cell? p3 = some u3 ∧ W.cell? p4 = some u4 ∧ W.cell? p5 = some u5 ∧ W.cell? p6 = some u6) :
    W'.cell? p0 = some u0 ∧ W'.cell? p1 = some u1 ∧ W'.cell? p2 = some u2 ∧ W'.cell? p3 = some u3 ∧ W'.cell? p4 = some u4 ∧ W'.cell? p5 = some u5 ∧ W'.cell? p6 = some u6 := by
  obtain ⟨h0, h1, h2, h3, h4, h5, h6⟩ := hS
  exact ⟨keepP hu h0, keepP hu h1, keepP hu h2, keepP hu h3, keepP hu h4, keepP hu h5, keepP hu h6⟩

theorem ct1_bounds (l : List UInt8) (n : Nat) (t q : Int) (h : ctB l n t q = true) : ∀ i, i < (ct1 l n).length → 0 ≤ (ct1 l n).getD i 0 ∧ (ct1 l n).getD i 0 < q := by
  obtain ⟨_, _, _, h4, _⟩ := (ctB_iff _ _ _ _).1 h
  intro i hi
  rw [ct1_length] at hi
  unfold ct1
  rw [getD_range hi]
  have := ((okL_iff _ _ _ _).1 h4).2 i hi
  rw [numL_drop, Nat.mul_comm i 4] at this
  omega

end Go.Proofs.Ytcjhgbljhpflfab

namespace Go.Proofs.Ytcjhgbljhpflfab
open Go.RowKit
set_option linter.unusedVariables false
set_option maxRecDepth 100000

/-- a number below t, centred -/
def cenC (t x : Int) : Int := if t < 2 * x then x - t else x
def cenI (n : Nat) (t : Int) (ms : List Int) : List Int := (List.range n).map fun i => cenC t (ms.getD i 0)
def absS (t : Int) (ms : List Int) (k : Nat) : Nat := sumN (fun i => (cenC t (ms.getD i 0)).natAbs) k

set_option maxHeartbeats 400000 in
theorem Centred_calls (x t : Int) (w : World) (hx : 0 ≤ x) (hx2 : x < t) (ht : t ≤ 1048576) :
    Calls Try.prog 111 #[.int .i64 x, .int .i64 t] w fun e w' => e = .returned (.int .i64 (cenC t x)) ∧ w' = w := by
  by_cases h : t < 2 * x
  · have H : Hid (cenC t x = x - t) := if_pos h
    go_enter Try.func111, Try.ntmps111
    go_wp2
    go_ret
    exact ⟨ret_int (by rw [H.out]), rfl⟩
  · have H : Hid (cenC t x = x) := if_neg h
    go_enter Try.func111, Try.ntmps111
    go_wp2
    go_ret
    exact ⟨ret_int (by rw [H.out]), rfl⟩

theorem cenC_bounds (t x : Int) (hx : 0 ≤ x) (hx2 : x < t) : -t < 2 * cenC t x ∧ 2 * cenC t x ≤ t := by
  unfold cenC
  split <;> omega

/-- what MulPlain answers -/
def mulPlainL (n t : Nat) (q : Int) (x v : List UInt8) : List UInt8 × Int :=
  tellL t q (absS t (encI n t (numsL v 2 n)) n * (ctE x + (q % (t : Int)).toNat)) (timesI n (ct0 x n) (cenI n t (encI n t (numsL v 2 n))) q) (timesI n (ct1 x n) (cenI n t (encI n t (numsL v 2 n))) q)

end Go.Proofs.Ytcjhgbljhpflfab

namespace Go.Proofs.Ytcjhgbljhpflfab
open Go.RowKit
set_option linter.unusedVariables false
set_option maxRecDepth 100000

theorem absS_succ (t : Int) (ms : List Int) (k : Nat) : absS t ms (k + 1) = absS t ms k + (cenC t (ms.getD k 0)).natAbs := rfl

theorem absS_le (t : Int) (ms : List Int) (n k : Nat) (hk : k ≤ n) (hm : ∀ i, i < n → 0 ≤ ms.getD i 0 ∧ ms.getD i 0 < t) (ht : t ≤ 1021) : absS t ms k ≤ k * 510 := by
  induction k with
  | zero => exact Nat.le_refl _
  | succ k ih =>
    have h1 := ih (by omega)
    have h2 := hm k (by omega)
    have h3 := cenC_bounds t _ h2.1 h2.2
    rw [absS_succ]
    omega

theorem encI_lt {n t : Nat} (g : NT n t) (xs : List Int) : ∀ i, i < n → 0 ≤ (encI n t xs).getD i 0 ∧ (encI n t xs).getD i 0 < (t : Int) := by
  intro i hi
  unfold encI
  rw [getD_range hi]
  exact encC_bounds g xs i

theorem cenI_length (n : Nat) (t : Int) (ms : List Int) : (cenI n t ms).length = n := by simp [cenI]

theorem timesI_bounds (n : Nat) (xs ys : List Int) (q : Int) (hq : 0 < q) (i : Nat) (hi : i < (timesI n xs ys q).length) : 0 ≤ (timesI n xs ys q).getD i 0 ∧ (timesI n xs ys q).getD i 0 < q := by
  rw [timesI_length] at hi
  unfold timesI
  rw [getD_range hi]
  exact mod_bounds hq _

end Go.Proofs.Ytcjhgbljhpflfab
