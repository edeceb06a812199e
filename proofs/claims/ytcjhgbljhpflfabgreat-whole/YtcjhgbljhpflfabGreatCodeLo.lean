/-
  Walks: the program's calls on ciphertexts, by the texts that they stand for.
-/
import Derived.Test.YtcjhgbljhpflfabGreatCodeS
import Derived.Test.YtcjhgbljhpflfabGreatCodeY
import Derived.Test.YtcjhgbljhpflfabGreatCodeN
import Derived.Test.YtcjhgbljhpflfabGreatKeepA
import Derived.Test.YtcjhgbljhpflfabGreatWalksNa
namespace Go.Proofs.YtcjhgbljhpflfabGreat
open Go.RowKit
set_option linter.unusedVariables false
set_option maxRecDepth 100000

/-- what came of a call: the ciphertext y, or nothing -/
def Out (n t : Nat) (q : Int) (y : List UInt8) (e : Int) (r : Ending) (w' : World) : Prop :=
  (e = 0 ∧ ctB y n t q = true ∧ toldL (ctE y) (ct0 y n) (ct1 y n) = y ∧ ∃ (g0 k0 g1 k1 : Nat), r = .returned (.tuple #[.agg #[.int .i64 (ctE y : Nat), .slice (some ⟨g0, 0, none⟩) n k0, .slice (some ⟨g1, 0, none⟩) n k1], .bool true]) ∧ IsI w' g0 (ct0 y n) ∧ IsI w' g1 (ct1 y n)) ∨
  (e = 4 ∧ r = .returned (.tuple #[.agg #[.int .i64 0, .slice none 0 0, .slice none 0 0], .bool false]))

theorem out_yes {n t : Nat} {q : Int} {E : Nat} {c0 c1 : List Int} {g0 k0 g1 k1 : Nat} {w' : World} (hq : q ≤ 4294967296) (hE : E < 1099511627776) (hf : fitsB t q E = true) (l0 : c0.length = n) (l1 : c1.length = n) (b0 : ∀ i, i < n → 0 ≤ c0.getD i 0 ∧ c0.getD i 0 < q) (b1 : ∀ i, i < n → 0 ≤ c1.getD i 0 ∧ c1.getD i 0 < q) (i0 : IsI w' g0 c0) (i1 : IsI w' g1 c1) :
    Out n t q (tellL t q E c0 c1).1 (tellL t q E c0 c1).2 (.returned (.tuple #[.agg #[.int .i64 (E : Nat), .slice (some ⟨g0, 0, none⟩) n k0, .slice (some ⟨g1, 0, none⟩) n k1], .bool true])) w' := by
  have e : tellL t q E c0 c1 = (toldL E c0 c1, 0) := by unfold tellL; rw [if_pos hf]
  obtain ⟨h1, h2, h3, h4⟩ := told_read n E t q c0 c1 l0 l1 hq b0 b1 hE hf
  rw [e]
  refine Or.inl ⟨rfl, h1, ?_, g0, k0, g1, k1, ?_, ?_, ?_⟩
  · show toldL (ctE (toldL E c0 c1)) (ct0 (toldL E c0 c1) n) (ct1 (toldL E c0 c1) n) = toldL E c0 c1
    rw [h2, h3, h4]
  · show _ = Ending.returned (.tuple #[.agg #[.int .i64 (ctE (toldL E c0 c1) : Nat), .slice (some ⟨g0, 0, none⟩) n k0, .slice (some ⟨g1, 0, none⟩) n k1], .bool true])
    rw [h2]
  · show IsI w' g0 (ct0 (toldL E c0 c1) n)
    rw [h3]; exact i0
  · show IsI w' g1 (ct1 (toldL E c0 c1) n)
    rw [h4]; exact i1

theorem out_no {n t : Nat} {q : Int} {E : Nat} {c0 c1 : List Int} {w' : World} (hf : fitsB t q E = false) :
    Out n t q (tellL t q E c0 c1).1 (tellL t q E c0 c1).2 (.returned (.tuple #[.agg #[.int .i64 0, .slice none 0 0, .slice none 0 0], .bool false])) w' := by
  have e : tellL t q E c0 c1 = ([], 4) := by unfold tellL; rw [if_neg (by rw [hf]; decide)]
  rw [e]
  exact Or.inr ⟨rfl, rfl⟩

theorem Out.drew {n t : Nat} {q : Int} {y : List UInt8} {e : Int} {r : Ending} {w w' : World} (h : Out n t q y e r w) (hu : Up w w') : Out n t q y e r w' := by
  rcases h with ⟨h1, h2, h3, g0, k0, g1, k1, h4, i0, i1⟩ | h
  · exact Or.inl ⟨h1, h2, h3, g0, k0, g1, k1, h4, i0.up hu, i1.up hu⟩
  · exact Or.inr h

theorem ct_lt (n t : Nat) (q : Int) (x : List UInt8) (g : NT n t) (hq : 2 ≤ q) (h : ctB x n t q = true) : (ctE x : Int) < q := by
  have := g.t3
  exact ctE_lt _ _ _ _ (by omega) (by omega) h

theorem mul_out (n t : Nat) (q b : Int) (x : List UInt8) (vs : List Int) (g0 c0 g1 c1 gv cv : Nat) (w : World) (g : NT n t) (hq : 2 ≤ q) (hq2 : q ≤ 1073741823) (hx : ctB x n t q = true) (lv : vs.length = n) (hv : ∀ i, i < n → 0 ≤ vs.getD i 0 ∧ vs.getD i 0 < (t : Int)) (iv : IsI w gv vs) (i0 : IsI w g0 (ct0 x n)) (i1 : IsI w g1 (ct1 x n)) :
    Calls Tryz.prog 134 #[.agg #[.int .i64 n, .int .i64 t, .int .i64 q, .int .i64 b], .agg #[.int .i64 (ctE x : Nat), .slice (some ⟨g0, 0, none⟩) n c0, .slice (some ⟨g1, 0, none⟩) n c1], .slice (some ⟨gv, 0, none⟩) n cv] w fun r w' => Out n t q (mulPlainL n t q x (textsL 2 vs)).1 (mulPlainL n t q x (textsL 2 vs)).2 r w' ∧ Up w w' := by
  have ht2 := g.ht
  have ht := g.t3
  have h256 : ((256 ^ 2 : Nat) : Int) = 65536 := by decide
  have e := nums_texts vs n 2 t lv hv (by omega)
  have hE := ct_lt n t q x g hq hx
  have hbv : ∀ i, i < vs.length → 0 ≤ vs.getD i 0 ∧ vs.getD i 0 < 65536 := fun i hi => by have := hv i (by omega); omega
  unfold mulPlainL
  rw [e]
  cases hf : fitsB t q ((absS t (encI n t vs) n * (ctE x + (q % (t : Int)).toNat) : Nat) : Int) with
  | false =>
    refine (cipherMulPlain_no n t (ctE x) q b vs g0 c0 g1 c1 gv cv w g hq hq2 hE hf lv hbv iv).mono ?_
    rintro r w' ⟨rfl, hu⟩
    exact ⟨out_no hf, hu⟩
  | true =>
    have hlt := fits_lt (by omega) (by omega) hf
    refine (cipherMulPlain_ok n t (ctE x) q b (ct0 x n) (ct1 x n) vs g0 c0 g1 c1 gv cv w g hq hq2 hE hf lv hbv iv (ct0_length _ _) (ct1_length _ _) (ct0_bnd x n t q hx hq2 1073741824 (by omega)) (ct1_bnd x n t q hx hq2 1073741824 (by omega)) i0 i1).mono ?_
    rintro r w' ⟨h0, k0, h1, k1, rfl, j0, j1, hu⟩
    exact ⟨out_yes (by omega) (by omega) hf (timesI_length _ _ _ _) (timesI_length _ _ _ _) (fun i hi => timesI_bounds _ _ _ _ (by omega) i (by rw [timesI_length]; exact hi)) (fun i hi => timesI_bounds _ _ _ _ (by omega) i (by rw [timesI_length]; exact hi)) j0 j1, hu⟩

theorem turn_out (n t L : Nat) (q b : Int) (x l : List UInt8) (g0 c0 g1 c1 H cap : Nat) (gs caps : Nat → Nat) (w : World) (g : NT n t) (hq : 2 ≤ q) (hq2 : q ≤ 1073741823) (hb : 1 ≤ b) (hb2 : b ≤ 8) (hL : DigOf q b L) (hx : ctB x n t q = true) (htn : tnB l (2 * n * L) q = true) (i0 : IsI w g0 (ct0 x n)) (i1 : IsI w g1 (ct1 x n)) (hR : RowsAt w H (2 * L) n gs caps (tkP l n)) :
    Calls Tryz.prog 136 #[.agg #[.int .i64 n, .int .i64 t, .int .i64 q, .int .i64 b], .agg #[.int .i64 (ctE x : Nat), .slice (some ⟨g0, 0, none⟩) n c0, .slice (some ⟨g1, 0, none⟩) n c1], .slice (some ⟨H, 0, none⟩) L cap] w fun r w' => Out n t q (turnL n t q b L x l).1 (turnL n t q b L x l).2 r w' ∧ Up w w' := by
  have ht := g.t3
  have hE := ct_lt n t q x g hq hx
  show Calls Tryz.prog 136 _ w fun r w' => Out n t q (tellL t q (ctE x + (q % (t : Int)).toNat + tnN n L b) (turn0 n q (2 ^ b.toNat) (cubI n (ct0 x n) q) (cubI n (ct1 x n) q) l L) (turn1 n q (2 ^ b.toNat) (cubI n (ct1 x n) q) l L)).1 (tellL t q (ctE x + (q % (t : Int)).toNat + tnN n L b) (turn0 n q (2 ^ b.toNat) (cubI n (ct0 x n) q) (cubI n (ct1 x n) q) l L) (turn1 n q (2 ^ b.toNat) (cubI n (ct1 x n) q) l L)).2 r w' ∧ Up w w'
  cases hf : fitsB t q ((ctE x + (q % (t : Int)).toNat + tnN n L b : Nat) : Int) with
  | false =>
    refine (cipherTurn_no n t (ctE x) L q b g0 c0 g1 c1 H cap w g hq hq2 hb hb2 hL hE hf).mono ?_
    rintro r w' ⟨rfl, hu⟩
    exact ⟨out_no hf, hu⟩
  | true =>
    have hlt := fits_lt (by omega) (by omega) hf
    refine (cipherTurn_ok n t (ctE x) L q b (ct0 x n) (ct1 x n) l g0 c0 g1 c1 H cap gs caps w g hq hq2 hb hb2 hL hE hf (ct0_length _ _) (ct1_length _ _) (ct0_bnd x n t q hx hq2 4294967296 (by omega)) (ct1_bnd x n t q hx hq2 4294967296 (by omega)) htn i0 i1 hR).mono ?_
    rintro r w' ⟨h0, k0, h1, k1, rfl, j0, j1, hu⟩
    exact ⟨out_yes (by omega) (by omega) hf (turn0_length n q (2 ^ b.toNat) (cubI n (ct0 x n) q) (cubI n (ct1 x n) q) l L (cubI_length _ _ _)) (turn1_length n q (2 ^ b.toNat) (cubI n (ct1 x n) q) l L) (turn0_bounds n q (2 ^ b.toNat) (cubI n (ct0 x n) q) (cubI n (ct1 x n) q) l L (by omega) (cubI_bounds n (ct0 x n) q (by omega))) (turn1_bounds n q (2 ^ b.toNat) (cubI n (ct1 x n) q) l L (by omega)) j0 j1, hu⟩

theorem add_out (n t : Nat) (q b : Int) (x y : List UInt8) (g0 c0 g1 c1 g2 c2 g3 c3 : Nat) (w : World) (g : NT n t) (hq : 2 ≤ q) (hq2 : q ≤ 1073741823) (hx : ctB x n t q = true) (hy : ctB y n t q = true) (i0 : IsI w g0 (ct0 x n)) (i1 : IsI w g1 (ct1 x n)) (i2 : IsI w g2 (ct0 y n)) (i3 : IsI w g3 (ct1 y n)) :
    Calls Tryz.prog 161 #[.agg #[.int .i64 n, .int .i64 t, .int .i64 q, .int .i64 b], .agg #[.int .i64 (ctE x : Nat), .slice (some ⟨g0, 0, none⟩) n c0, .slice (some ⟨g1, 0, none⟩) n c1], .agg #[.int .i64 (ctE y : Nat), .slice (some ⟨g2, 0, none⟩) n c2, .slice (some ⟨g3, 0, none⟩) n c3]] w fun r w' => Out n t q (addL n t q x y).1 (addL n t q x y).2 r w' ∧ Up w w' := by
  have ht := g.t3
  have ht2 := g.ht
  have hd := g.half
  have hE := ct_lt n t q x g hq hx
  have hF := ct_lt n t q y g hq hy
  unfold addL
  cases hf : fitsB t q ((ctE x + ctE y + (q % (t : Int)).toNat : Nat) : Int) with
  | false =>
    refine (cipherAdd_no n t (ctE x) (ctE y) q b g0 c0 g1 c1 g2 c2 g3 c3 w (by omega) (by omega) hq hq2 hE hF hf).mono ?_
    rintro r w' ⟨rfl, hu⟩
    exact ⟨out_no hf, hu⟩
  | true =>
    have hlt := fits_lt (by omega) (by omega) hf
    refine (cipherAdd_ok n t (ctE x) (ctE y) q b (ct0 x n) (ct1 x n) (ct0 y n) (ct1 y n) g0 c0 g1 c1 g2 c2 g3 c3 w (by omega) (by omega) (by omega) (by omega) hq hq2 hE hF hf (ct0_length _ _) (ct1_length _ _) (ct0_length _ _) (ct1_length _ _) (ct0_bnd x n t q hx hq2 4294967296 (by omega)) (ct1_bnd x n t q hx hq2 4294967296 (by omega)) (ct0_bnd y n t q hy hq2 4294967296 (by omega)) (ct1_bnd y n t q hy hq2 4294967296 (by omega)) i0 i1 i2 i3).mono ?_
    rintro r w' ⟨h0, k0, h1, k1, rfl, j0, j1, hu⟩
    exact ⟨out_yes (by omega) (by omega) hf (plusI_length _ _ _ _) (plusI_length _ _ _ _) (fun i hi => plusI_bounds _ _ _ _ (by omega) i (by rw [plusI_length]; exact hi)) (fun i hi => plusI_bounds _ _ _ _ (by omega) i (by rw [plusI_length]; exact hi)) j0 j1, hu⟩

theorem addPlain_out (n t : Nat) (q b : Int) (x : List UInt8) (vs : List Int) (g0 c0 g1 c1 gv cv : Nat) (w : World) (g : NT n t) (hq : 2 ≤ q) (hq2 : q ≤ 1073741823) (hx : ctB x n t q = true) (lv : vs.length = n) (hv : ∀ i, i < n → 0 ≤ vs.getD i 0 ∧ vs.getD i 0 < (t : Int)) (iv : IsI w gv vs) (i0 : IsI w g0 (ct0 x n)) (i1 : IsI w g1 (ct1 x n)) :
    Calls Tryz.prog 94 #[.agg #[.int .i64 n, .int .i64 t, .int .i64 q, .int .i64 b], .agg #[.int .i64 (ctE x : Nat), .slice (some ⟨g0, 0, none⟩) n c0, .slice (some ⟨g1, 0, none⟩) n c1], .slice (some ⟨gv, 0, none⟩) n cv] w fun r w' => Out n t q (addPlainL n t q x (textsL 2 vs)).1 (addPlainL n t q x (textsL 2 vs)).2 r w' ∧ Up w w' := by
  have ht2 := g.ht
  have ht := g.t3
  have h256 : ((256 ^ 2 : Nat) : Int) = 65536 := by decide
  have e := nums_texts vs n 2 t lv hv (by omega)
  have hE := ct_lt n t q x g hq hx
  have hbv : ∀ i, i < vs.length → 0 ≤ vs.getD i 0 ∧ vs.getD i 0 < 65536 := fun i hi => by have := hv i (by omega); omega
  unfold addPlainL
  rw [e]
  cases hf : fitsB t q ((ctE x + (q % (t : Int)).toNat : Nat) : Int) with
  | false =>
    refine (cipherAddPlain_no n t (ctE x) q b g0 c0 g1 c1 gv cv w (by omega) (by omega) hq hq2 hE hf).mono ?_
    rintro r w' ⟨rfl, hu⟩
    exact ⟨out_no hf, hu⟩
  | true =>
    have hlt := fits_lt (by omega) (by omega) hf
    refine (cipherAddPlain_ok n t (ctE x) q b (ct0 x n) (ct1 x n) vs g0 c0 g1 c1 gv cv w g hq hq2 hE hf (ct0_length _ _) (ct1_length _ _) lv (ct0_bnd x n t q hx hq2 4294967296 (by omega)) hbv i0 i1 iv).mono ?_
    rintro r w' ⟨h0, k0, h1, k1, rfl, j0, j1, hu⟩
    exact ⟨out_yes (by omega) (by omega) hf (plusI_length _ _ _ _) (ct1_length _ _) (fun i hi => plusI_bounds _ _ _ _ (by omega) i (by rw [plusI_length]; exact hi)) (fun i hi => ct1_bounds _ _ _ _ hx i (by rw [ct1_length]; exact hi)) j0 j1, hu⟩

end Go.Proofs.YtcjhgbljhpflfabGreat
