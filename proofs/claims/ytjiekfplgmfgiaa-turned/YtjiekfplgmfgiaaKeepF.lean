/-
  Walks: an answer whose bound is told; the statement Added.
-/
import Derived.Test.YtjiekfplgmfgiaaKeepE
namespace Go.Proofs.Ytjiekfplgmfgiaa
open Go.RowKit
set_option linter.unusedVariables false
set_option maxRecDepth 100000

set_option maxHeartbeats 2000000 in
theorem came_no (g n t : Nat) (q b : Int) (k : List UInt8) (E : Nat) (w : World) (p : GoodP n t q b) (hB : BoxAt w g n t q b k) (hE : E ≤ 1125899906842624) (hf : fitsB t q E = false) :
    Calls Try.prog 47 #[.pointer (some ⟨g, 0, none⟩), .string ⟨#[]⟩, .int .i64 4, .int .i64 E] w fun e w' => e = .returned (.bool false) ∧ Up w w' := by
  have ht := p.nt.t3
  have ht2 := p.nt.ht
  have hq0 := p.q1
  have hq2 := p.q2
  have HF : Hid _ := hf
  have hc0 := hB.c0
  have hc1 := hB.c1
  have hc2 := hB.c2
  have hc3 := hB.c3
  clear hB hf
  go_enter Try.func47, Try.ntmps47
  go_wp2_with fail
  refine (keepFits_calls _ _ _ _ _ _ (by omega) (by omega) (by omega) (by omega) (by omega) (by omega)).mono ?_
  rintro e w1 ⟨rfl, hu1⟩
  rw [HF.out]
  go_wp2_with fail
  refine (must_calls g _).mono ?_
  rintro e w2 ⟨rfl, rfl⟩
  go_wp2_with fail
  go_ret
  exact ⟨rfl, hu1⟩

set_option maxHeartbeats 2000000 in
theorem came_yes (g n t : Nat) (q b : Int) (k c : List UInt8) (ms s : List Int) (E : Nat) (w : World) (p : GoodP n t q b) (hB : BoxAt w g n t q b k) (hc : IsCT n t q s c ms E) :
    Calls Try.prog 47 #[.pointer (some ⟨g, 0, none⟩), .string ⟨c.toArray⟩, .int .i64 0, .int .i64 E] w fun e w' => e = .returned (.bool true) ∧ Up w w' := by
  have ht := p.nt.t3
  have ht2 := p.nt.ht
  have hq0 := p.q1
  have hq2 := p.q2
  have P : Hid _ := p
  have HF : Hid _ := hc.fits
  have hlt := fits_lt (by omega) (by omega) hc.fits
  have HC : Hid _ := hc
  have HB : Hid _ := hB
  have hc0 := hB.c0
  have hc1 := hB.c1
  have hc2 := hB.c2
  have hc3 := hB.c3
  have HBd : Hid (∀ W, BoxAt W g n t q b k → Calls Try.prog 39 #[.pointer (some ⟨g, 0, none⟩), .string ⟨c.toArray⟩] W fun e w' => e = .returned (.int .i64 E) ∧ Up W w') := fun W h => bound_box g n t q b k c ms s E W P.out h HC.out
  generalize (⟨c.toArray⟩ : ByteArray) = C at HBd
  clear hB hc p
  go_enter Try.func47, Try.ntmps47
  go_wp2_with fail
  refine (keepFits_calls _ _ _ _ _ _ (by omega) (by omega) (by omega) (by omega) (by omega) (by omega)).mono ?_
  rintro e w1 ⟨rfl, hu1⟩
  rw [HF.out]
  clear hc0 hc1 hc2 hc3
  go_wp2_with fail
  refine (must_calls g _).mono ?_
  rintro e w2 ⟨rfl, rfl⟩
  go_wp2_with fail
  refine Calls.mono (HBd.out _ (HB.out.up hu1)) ?_
  rintro e w3 ⟨rfl, hu3⟩
  go_wp2_with fail
  refine (must_calls g _).mono ?_
  rintro e w4 ⟨rfl, rfl⟩
  go_wp2_with fail
  go_ret
  exact ⟨rfl, hu1.trans hu3⟩

/-- what came of a call: a ciphertext, or nothing -/
def Came (n t : Nat) (q : Int) (s : List Int) (r : List UInt8 × Int) (ms : List Int) (E : Nat) : Prop :=
  (fitsB t q E = true ∧ r.2 = 0 ∧ IsCT n t q s r.1 ms E) ∨ (fitsB t q E = false ∧ r = ([], 4))

theorem came_add {n t : Nat} {q b : Int} (p : GoodP n t q b) (s : List Int) (x y : List UInt8) (ms ls : List Int) (E F : Nat) (hx : IsCT n t q s x ms E) (hy : IsCT n t q s y ls F) : Came n t q s (addL n t q x y) (plusI n ms ls t) (E + F + (q % (t : Int)).toNat) := by
  cases h : fitsB t q ((E + F + (q % (t : Int)).toNat : Nat) : Int) with
  | true => exact Or.inl ⟨h, add_ct p.nt q p.q1 p.q2 s x y ms ls E F hx hy h⟩
  | false =>
    refine Or.inr ⟨h, ?_⟩
    unfold addL tellL
    rw [hx.bound, hy.bound, if_neg (by rw [h]; decide)]

theorem came_addPlain {n t : Nat} {q b : Int} (p : GoodP n t q b) (s : List Int) (x : List UInt8) (ms vs : List Int) (E : Nat) (hx : IsCT n t q s x ms E) (hl : vs.length = n) (hv : ∀ i, i < n → 0 ≤ vs.getD i 0 ∧ vs.getD i 0 < (t : Int)) : Came n t q s (addPlainL n t q x (textsL 2 vs)) (plusI n ms (encI n t vs) t) (E + (q % (t : Int)).toNat) := by
  have h256 : ((256 ^ 2 : Nat) : Int) = 65536 := by decide
  have ht2 := p.nt.ht
  cases h : fitsB t q ((E + (q % (t : Int)).toNat : Nat) : Int) with
  | true =>
    have := addPlain_ct p.nt q p.q1 p.q2 s x (textsL 2 vs) ms E hx h
    rw [nums_texts vs n 2 t hl hv (by omega)] at this
    exact Or.inl ⟨h, this⟩
  | false =>
    refine Or.inr ⟨h, ?_⟩
    unfold addPlainL tellL
    rw [hx.bound, if_neg (by rw [h]; decide)]

theorem size_ct {n t : Nat} {q : Int} {s : List Int} {l : List UInt8} {ms : List Int} {E : Nat} (h : IsCT n t q s l ms E) (hn : n ≤ 16) : (⟨l.toArray⟩ : ByteArray).size ≤ maxLen := by
  have hcl : l.length = 6 + 8 * n := ((ctB_iff _ _ _ _).1 h.ct).1
  show l.toArray.size ≤ _
  rw [List.size_toArray, hcl]; unfold maxLen; omega

theorem size_texts (vs : List Int) (n : Nat) (hl : vs.length = n) (hn : n ≤ 16) : (⟨(textsL 2 vs).toArray⟩ : ByteArray).size ≤ maxLen := by
  show (textsL 2 vs).toArray.size ≤ _
  rw [List.size_toArray, textsL_length, hl]; unfold maxLen; omega

theorem bnd_small (vs : List Int) (n : Nat) (t : Int) (hl : vs.length = n) (ht : 0 ≤ t) (ht2 : t ≤ 1048576) (hv : ∀ i, i < n → 0 ≤ vs.getD i 0 ∧ vs.getD i 0 < t) : Bnd vs 1048576 := by
  intro i
  rcases Nat.lt_or_ge i n with h | h
  · have := hv i h; omega
  · rw [getD_out _ _ (by omega)]; omega

theorem small_plus (n : Nat) (xs ys : List Int) (t : Int) (ht : 0 < t) : ∀ i, i < n → 0 ≤ (plusI n xs ys t).getD i 0 ∧ (plusI n xs ys t).getD i 0 < t := fun i hi => plusI_bounds _ _ _ _ ht i (by rw [plusI_length]; exact hi)

end Go.Proofs.Ytjiekfplgmfgiaa
