/-
  Linear on what is hidden, of the statements without the document's answer: what comes of it.
-/
import Derived.Test.YtcjhgbljhpflfabKeepL
import Derived.Test.YtcjhgbljhpflfabKeepLy
import Derived.Test.YtcjhgbljhpflfabCodeLe
namespace Go.Proofs.Ytcjhgbljhpflfab
open Go.RowKit
set_option linter.unusedVariables false
set_option maxRecDepth 100000

/-- what came of Linear: the values less the mask, or ErrNoise where the greatest bound does not fit -/
def LinCame (n t : Nat) (q b : Int) (L : Nat) (s : List Int) (r : List UInt8 × Int) (vs : List Int) : Prop :=
  (r.2 = 0 ∧ ∃ ls E, IsCT n t q s r.1 ls E ∧ decI n t ls = vs) ∨ (r = ([], 4) ∧ fitsB t q (mostE n t (q % (t : Int)).toNat (tnN n L b) : Nat) = false)

theorem lin_keep {n t : Nat} {q b : Int} (p : GoodP n t q b) (hb : 1 ≤ b) (hb2 : b ≤ 8) (L : Nat) (hL : DigOf q b L) (ks : List Int) (x d : List UInt8) (ms vs ss es M B : List Int) (bd : Bool) (s : Nat) (hx : IsCT n t q ks x ms 2) (hv : decI n t ms = vs) (hs : s < 8)
    (hM : M.length = n / 2 * (n / 2)) (hB : B.length = n) (bM : ∀ i, i < n / 2 * (n / 2) → 0 ≤ M.getD i 0 ∧ M.getD i 0 < (t : Int)) (bB : ∀ i, i < n → 0 ≤ B.getD i 0 ∧ B.getD i 0 < (t : Int))
    (lss : ss.length = n) (les : es.length = n) (bss : ∀ i, i < n → 0 ≤ ss.getD i 0 ∧ ss.getD i 0 < (t : Int)) (bes : ∀ i, i < n → 0 ≤ es.getD i 0 ∧ es.getD i 0 < (t : Int)) :
    ∃ r : List UInt8 × Int, LinCame n t q b L ks r (lessI n (alI n t M B (plusI n vs ss t)) es t) ∧
      ∀ W, Calls Try.prog 23 #[.agg #[.int .i64 n, .int .i64 t, .int .i64 q, .int .i64 b], .string ⟨(layL bd s M B).toArray⟩, .string ⟨x.toArray⟩, .string ⟨(textsL 2 ss).toArray⟩, .string ⟨(textsL 2 es).toArray⟩, .string ⟨(tkL n ks q b d L).toArray⟩] W fun e w' => e = .returned (.tuple #[.string ⟨r.1.toArray⟩, .int .i64 r.2]) ∧ Up W w' := by
  have hn := p.nt.hn
  have ht2 := p.nt.ht
  have ht := p.nt.t3
  have hq1 := p.q1
  have hq2 := p.q2
  have hL30 := hL.le hb hq2
  have h256 : ((256 ^ 2 : Nat) : Int) = 65536 := by decide
  have hd : n / 2 * (n / 2) ≤ 8 * 8 := Nat.mul_le_mul (by omega) (by omega)
  have h0 := lay_ok n t bd s M B (by omega) hs hM hB bM bB
  have hc := lin_came p hb hb2 L hL ks x d (layL bd s M B) ms vs ss es hx hv h0 lss les bss bes
  rw [lay_app n t bd s M B _ hn (by omega) hM hB bM bB] at hc
  refine ⟨_, hc, fun W => ?_⟩
  have := Linear_ok n t L q b ⟨(layL bd s M B).toArray⟩ ⟨x.toArray⟩ ⟨(textsL 2 ss).toArray⟩ ⟨(textsL 2 es).toArray⟩ ⟨(tkL n ks q b d L).toArray⟩ W (lay_size bd s M B (by omega) (by omega)) (size_ct hx (by omega)) (size_texts ss n lss (by omega)) (size_texts es n les (by omega)) (tk_size _ _ _ _ _ _ (by omega) hL30)
    p.nt hq1 hq2 hb hb2 hL p.good (by rw [bytes_back]; exact h0) (by rw [bytes_back]; exact hx.ct) (by rw [bytes_back]; exact okL_texts ss n 2 t lss bss (by omega)) (by rw [bytes_back]; exact okL_texts es n 2 t les bes (by omega)) (by rw [bytes_back]; exact tn_ok n _ q b _ L (by omega) (by omega) (by omega))
  rw [bytes_back, bytes_back, bytes_back, bytes_back, bytes_back] at this
  exact this

end Go.Proofs.Ytcjhgbljhpflfab
